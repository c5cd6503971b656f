/- Part 50. -/
import Derived.Test.YtkjhnllcphidpaaGreatDoorM49
import Derived.Test.YtkjhnllcphidpaaGreatDoorM15
import Derived.Test.YtkjhnllcphidpaaGreatDoorTie
import Derived.Lib.LaidTab
import Derived.Deep.Slices
namespace Go.Proofs.YtkjhnllcphidpaaGreatDoor
set_option linter.all false
set_option maxHeartbeats 16000000
set_option maxRecDepth 100000
section
open Go.Maps Go.RowKit
theorem iF{τ:Type}{P:Pol τ}{pre:τ->Cl->Prop}{n:Nat}{ok:Nat->τ->(Nat->Nat)->(Nat->Bool)->Prop}(O:lh P pre n ok):kr (eZ P) n ok:=λm s pg ev id h hx=>by
 cases e:P.victim s id with
 |none=>exact(O.some h hx e).elim
 |some a=>exact⟨a,e,O.goer h e⟩
theorem sP{n:Nat}{r:Nat->Prop}{page:Nat->Nat}{e:Nat->Bool}(hr:∀f,¬r f)(he:∀f,e f=false):aj n r page e (λ_=>0) (λ_=>true):=
 ⟨λf=>⟨λq=>(hr f q).elim,λq=>(q.2 rfl).elim⟩,λf q=>(hr f q).elim,λf q=>(hr f q).elim,λf _=>he f⟩
theorem Gx{n b:Nat}{w:World}{F:Nat->Prop}(h:LRu w b n [] (λ_=>false) F):bJ n true (um b) w F:=
 ⟨⟨_,_,rfl⟩,LT,eZ jq,xN b n,ok4 n,([],λ_=>false),λpb=>FO pb b n,h,⟨λ_=>0,sP (λf q=>by cases q) (λ_=>rfl)⟩,λ_=>iF (E9 n)⟩
theorem Eq(n:Nat):bo (λ_=>none) n=0:=by
 induction n with
 |zero=>rfl
 |succ n ih=>unfold bo;rw[ih];rfl
theorem Gd{n K near kept b:Nat}{w:World}{F:Nat->Prop}(h:CRL w b (hZ n K near kept) F):bJ n true (uG b) w F:=by
 refine⟨⟨_,_,rfl⟩,LK,eZ fU,CR5 b,ok5 n,hZ n K near kept,λpb=>Gr pb b n,?_,?_,λ_=>iF (Ew n)⟩
 .exact⟨by show 0<800000;omega,λ_=>false,λx a b q _=>(by cases q),h⟩
 .refine⟨rfl,Nat.zero_le _,Nat.zero_le _,λf hf=>rfl,λf hf q=>(q rfl).elim,λf=>⟨λq=>(by cases q),λq=>(q.2.1 rfl).elim⟩,?_,λf hf q=>(q rfl).elim,λf g hf hg q=>(q rfl).elim⟩
  exact(Eq n).symm
theorem Gf{n inn out b:Nat}{w:World}{F:Nat->Prop}(h:CRT b n inn out w t60 F):bJ n true (uw b) w F:=
 ⟨⟨_,_,rfl⟩,T6,eZ (vD inn out),CRT b n inn out,ok6 n,t60,λpb=>Gp pb b n inn out,h,sP (λf q=>by rcases q with q|q<;>cases q) (λ_=>rfl),λ_=>iF (Ez n inn out)⟩
theorem FJ{n b:Nat}{w:World}{F:Nat->Prop}(h:CRA b n w t70 F):bJ n true (uS b) w F:=
 ⟨⟨_,_,rfl⟩,T7,eZ (vy n),CRA b n,ok7 n,t70,λpb=>FL pb b n,h,sP (λf q=>by rcases q with q|q<;>cases q) (λ_=>rfl),λ_=>iF (ED n)⟩
theorem FU{n b:Nat}{w:World}{F:Nat->Prop}(h1:1<=n)(hn:n<=30000)(h:CRP b n w (pr0 n) F):bJ n true (tM b) w F:=
 ⟨⟨_,_,rfl⟩,PrS,eZ (vU n),CRP b n,ok8 n,pr0 n,λpb=>FB pb b n hn,h,⟨(pk0 h1).1,(pk0 h1).2,λf hf=>rfl,λf hf q=>(q rfl).elim⟩,λ_=>iF (E5 n)⟩
end
section
open Go.Proofs.Tryz Go.RowKit
theorem qv(n:Nat)(w:World)(h1:1<=n)(hn:n<=65535):
  Calls prog 33 #[.int .i64 n] w λe w'=>∃b F,e=.returned (.tuple #[.pointer (some ⟨b,0,none⟩),.int .i64 0])/\LRu w' b n [] (λ_=>false) F/\(∀i,F i->w.heap.size<=i)/\Fr NoF w w':=by
 have mk1:=mkB n (by omega);have MK:=Hd mk1;have HN:=Hd (gG n 1 w (by omega) (by omega) (by omega));clear mk1;go_enter func33,ntmps33
 go_wp2_with fail
 refine HN.out.mono ?_;clear HN;rintro e w1⟨rb,FR,rfl,hR,hF,hf⟩;have HR:=Hd hR;have HF:=Hd hF;have HFr:=Hd hf;have mk1:=MK.out w1;clear hR hF hf;go_wp2;go_returns;have hz:=HFr.out.size;have hfA:Fr NoF w1 ((w1.alloc (.cells (madeCells #[.bool false] n) 4)).alloc (.cells #[.pointer (some ⟨rb,0,none⟩),.slice (some ⟨w1.heap.size,0,none⟩) n n,.int .i64 0] 161)):=((Fr.refl _ _).alloc _).alloc _;have hlt:=HR.out.lt;refine⟨w1.heap.size+1,λi=>i=w1.heap.size+1\/i=w1.heap.size\/FR i,rfl,⟨rb,w1.heap.size,FR,⟨?_,?_,HR.out.fr hfA (λ_ _ q=>q),by omega,λq=>by have:=hlt _ q;omega,λq=>by have:=hlt _ q;omega,λf hf=>(by cases hf),hn⟩,λ_=>Iff.rfl⟩,?_,HFr.out.trans hfA (λ_ q=>q.elim)⟩
 .refine Blk.new _ _ _ 3 _ _ (by simp) rfl (λi hi=>?_)
  match i,hi with
  |0,_=>rfl
  |1,_=>rfl
  |2,_=>rfl
 .refine(Blk.new _ _ _ n _ _ rfl (by simp[size_madeCells]) (λi hi=>?_)).alloc _
  rw[iJ hi,show(#[Value.bool false]:Array Value).size=1 from rfl,Nat.mod_one];rfl
 .intro i hi
  rcases hi with rfl|rfl|q
  .omega
  .omega
  .exact HF.out i q
end
section
open Go.Maps Go.Proofs.Tryz Go.RowKit
section
variable{w w':World}{n:Nat}
theorem n4(w:World)(h:1<=n/\n<=6):Calls prog 33 #[.int .i64 n] w λe w'=>∃b F,e=.returned (.tuple #[.pointer (some ⟨b,0,none⟩),.int .i64 0])/\bJ n true (um b) w' F/\(∀i,F i->w.heap.size<=i)/\Fr NoF w w':=
 (qv n w h.1 (by omega)).mono λe w' ⟨b,F,he,h1,h2,h3⟩=>⟨b,F,he,Gx h1,h2,h3⟩
theorem n5(w:World)(h:1<=n/\n<=6):Calls prog 34 #[.int .i64 n,.int .i64 2,.int .i64 1,.int .i64 n] w λe w'=>∃b F,e=.returned (.tuple #[.pointer (some ⟨b,0,none⟩),.int .i64 0])/\bJ n true (uG b) w' F/\(∀i,F i->w.heap.size<=i)/\Fr NoF w w':=
 (Cg n 2 1 n w ⟨h.1,by omega⟩ (by omega) (by omega) (by omega)).mono λe w' ⟨b,F,he,h1,h2,h3⟩=>⟨b,F,he,Gd h1,h2,h3⟩
theorem n6(w:World)(h:1<=n/\n<=6):Calls prog 35 #[.int .i64 n,.int .i64 (n/4:Nat),.int .i64 (n/2:Nat)] w λe w'=>∃b F,e=.returned (.tuple #[.pointer (some ⟨b,0,none⟩),.int .i64 0])/\bJ n true (uw b) w' F/\(∀i,F i->w.heap.size<=i)/\Fr NoF w w':=
 (sw n (n/4) (n/2) w h.1 (by omega) (by omega) (by omega)).mono λe w' ⟨b,F,he,h1,h2,h3⟩=>⟨b,F,he,Gf h1,h2,h3⟩
theorem n7(w:World)(h:1<=n/\n<=6):Calls prog 36 #[.int .i64 n] w λe w'=>∃b F,e=.returned (.tuple #[.pointer (some ⟨b,0,none⟩),.int .i64 0])/\bJ n true (uS b) w' F/\(∀i,F i->w.heap.size<=i)/\Fr NoF w w':=
 (rC n w h.1 (by omega)).mono λe w' ⟨b,F,he,h1,h2,h3⟩=>⟨b,F,he,FJ h1,h2,h3⟩
theorem n8(w:World)(h:1<=n/\n<=6):Calls prog 37 #[.int .i64 n] w λe w'=>∃b F,e=.returned (.tuple #[.pointer (some ⟨b,0,none⟩),.int .i64 0])/\bJ n true (tM b) w' F/\(∀i,F i->w.heap.size<=i)/\Fr NoF w w':=
 (ts n w h.1 (by omega)).mono λe w' ⟨b,F,he,h1,h2,h3⟩=>⟨b,F,he,FU h.1 (by omega) h1,h2,h3⟩
theorem nA(w:World){v:Value}{l:List Int}(h:SlZ w v l)(hl:l.length<=65535):Calls prog 41 #[v] w λe w'=>∃lb F,e=.returned (cM lb)/\bJ n false (cM lb) w' F/\(∀i,F i->w.heap.size<=i)/\Fr NoF w w':=
 (ot h hl).mono λe w' ⟨b,F,he,h1,h2,h3⟩=>⟨b,F,he,Gk h1,h2,h3⟩
def EU(n k:Nat)(rv:Value)(w0 w:World):Prop:=∃F,bJ n (decide (k<5)) rv w F/\(∀i,F i->w0.heap.size<=i)/\Fr NoF w0 w
theorem Gh{n:Nat}(h:n<=6):Int.tdiv (n:Int) 4=((n/4:Nat):Int):=rfl
theorem Gb{n:Nat}(h:n<=6):Int.tdiv (n:Int) 2=((n/2:Nat):Int):=rfl
theorem oT(k:Nat)(hk:k<6)(w:World)(h:1<=n/\n<=6){v:Value}{l:List Int}(hv:SlZ w v l)(hl:l.length<=65535):Calls prog 10 #[.int .i64 k,.int .i64 n,v] w λe w'=>∃rv,e=.returned rv/\EU n k rv w w':=by
 have HV:=Hd hv;have HL:=Hd hl;have HN:=Hd h;clear hv hl;obtain⟨h1,h2⟩:=h;have hd4:=Gh h2;have hd2:=Gb h2;rcases(by omega:k=0\/k=1\/k=2\/k=3\/k=4\/k=5)with rfl|rfl|rfl|rfl|rfl|rfl
 all_goals
  go_enter func10,ntmps10
  go_wp2_with fail
  first
   |refine(n4 _ HN.out).mono ?_
   |refine(n5 _ HN.out).mono ?_
   |refine(n6 _ HN.out).mono ?_
   |refine(n7 _ HN.out).mono ?_
   |refine(n8 _ HN.out).mono ?_
   |refine(nA (n:=n) _ HV.out HL.out).mono ?_
  rintro e w1⟨b,F,rfl,a1,a2,a3⟩;have KEY:=Hd (show∃F,bJ n _ _ w1 F/\(∀i,F i->w.heap.size<=i)/\Fr NoF w w1 from⟨F,a1,a2,a3⟩);clear a1 a2 a3;go_wp2;go_returns;exact⟨_,rfl,KEY.out⟩
theorem qj(k:Nat)(hk:k<6)(w:World)(h:1<=n/\n<=6):Calls prog 8 #[.int .i64 k,.int .i64 n] w λe w'=>e=.returned (.bool true)/\Fr NoF w w':=by
 have HN:=Hd h;obtain⟨h1,h2⟩:=h;have h0:Hid (Fr NoF w w):=Fr.refl _ _;have HK:=Hd hk;go_enter func8,ntmps8
 go_wp2_with fail
 refine(n4 _ HN.out).mono ?_;rintro e w1⟨b1,F,rfl,_,_,a3⟩;have g1:=Hd a3;clear a3
 go_wp2_with fail
 refine(n5 _ HN.out).mono ?_;rintro e w2⟨b2,F,rfl,_,_,a3⟩;have g2:=Hd (g1.out.trans a3 (λ_ q=>q.elim));clear a3 g1
 go_wp2_with fail
 refine(n6 _ HN.out).mono ?_;rintro e w3⟨b3,F,rfl,_,_,a3⟩;have g3:=Hd (g2.out.trans a3 (λ_ q=>q.elim));clear a3 g2
 go_wp2_with fail
 refine(n7 _ HN.out).mono ?_;rintro e w4⟨b4,F,rfl,_,_,a3⟩;have g4:=Hd (g3.out.trans a3 (λ_ q=>q.elim));clear a3 g3
 go_wp2_with fail
 refine(n8 _ HN.out).mono ?_;rintro e w5⟨b5,F,rfl,_,_,a3⟩;have g5:=Hd (g4.out.trans a3 (λ_ q=>q.elim));clear a3 g4;rcases(by omega:k=0\/k=1\/k=2\/k=3\/k=4\/k=5)with rfl|rfl|rfl|rfl|rfl|rfl
 all_goals go_wp2
 all_goals go_returns
 all_goals first|exact⟨rfl,g5.out⟩|exact⟨rfl,g5.out.alloc _⟩
end
end
section
open Go.ChangeAt Go.ChangeShapes Go.Proofs.Tryz Go.RowKit Go.WideShapes
def yr:List Int:=Lib.deBruijn64tab.map λ(n:Nat)=>(n:Int)
theorem EG:prog.globalNamed "math/bits.deBruijn64tab" =some 0:=by kernel_rfl
theorem Bn{W:World}(h:laidMet prog [("math/bits.deBruijn64tab",Lib.tabData .u8 yr)] W):cJ W:=by
 have h1:=Lib.tabIs_of_head (t:=248) (e:=5) (n:=64) EG (by kernel_rfl) underlying248 underlying5 (by kernel_rfl) (by kernel_rfl) h;refine⟨λj hj=>?_⟩;have h2:=h1.cell EG j (by simpa[yr]using hj);rw[h2]
 congr 2
 unfold yr;rw[List.getD_eq_getElem?_getD,List.getElem?_map,List.getD_eq_getElem?_getD];have:j<Lib.deBruijn64tab.length:=hj;simp[List.getElem?_eq_getElem this]
noncomputable def qu(os:Os):World:=
 let w0:=World.holding prog os ⟨#[],#[],[]⟩
 {w0 with heap:=w0.heap.modify 0 fun
   |.cells _ t frozen=>.cells (yr.map λz=>Value.int .u8 z).toArray t frozen
   |o=>o}
theorem Cr(os:Os)(args:Array Value):laidMet prog [("math/bits.deBruijn64tab",Lib.tabData .u8 yr)] ((qu os).forCall (λ_ _=>0) ⟨#[],args,[]⟩).memory:=
 laidMet_of_run' 8 (by kernel_rfl) (by kernel_rfl)
theorem FV:ownKnob prog.godebug=none:=by kernel_rfl
theorem qG:laidOutB prog=true:=by kernel_rfl
theorem Ds{α:Type}(l:List α)(h:(⟨l⟩:Array α).size=3):∃a b c,l=[a,b,c]:=by
 match l,h with
 |[a,b,c],_=>exact⟨a,b,c,rfl⟩
theorem B9:prog.cellsOf 52=3:=by kernel_rfl
theorem jX:prog.cellsOf 3=1:=by kernel_rfl
theorem Be:prog.cellsOf 42=1:=by kernel_rfl
theorem BJ:prog.cellsOf 25=1:=by kernel_rfl
theorem Es{H:Type}{enc:TypeId×Value->H}{P:Program}{w:World}{base:Nat}{spare:Nat->Bool}{held:Bool}{t:TypeId}{f0 f1 f2:Field}{fuel:Nat}{cs:List Value}{x:DataW H×List MemPlace}(ht:P.underlying t=some (.struct #[f0,f1,f2]))(h:DataW.trod enc P w base spare held fuel t cs=some x):
  ∃y0 y1 y2 n,x=(.agg [y0.1,y1.1,y2.1],y0.2++(y1.2++y2.2))/\DataW.trod enc P w base spare held n f0.type ((cs.drop f0.offset).take (P.cellsOf f0.type))=some y0/\
   DataW.trod enc P w base spare held n f1.type ((cs.drop f1.offset).take (P.cellsOf f1.type))=some y1/\DataW.trod enc P w base spare held n f2.type ((cs.drop f2.offset).take (P.cellsOf f2.type))=some y2:=by
 obtain⟨xs,n,_,rfl,hl,hlen,hf⟩:=DataW.trod_struct ht h
 match xs,hlen with
 |[y0,y1,y2],_=>exact⟨y0,y1,y2,n,by simp,by simpa using hf 0 f0 rfl,by simpa using hf 1 f1 rfl,by simpa using hf 2 f2 rfl⟩
end
section
open Go.Maps Go.RowKit
theorem zj(l:List OpF):∀u∈opsC l,u.oneCell'=true:=by
 intro u hu;obtain⟨o,_,ho⟩:=List.mem_flatMap.1 hu;simp only[opC,List.mem_cons,List.not_mem_nil,or_false]at ho;rcases ho with rfl|rfl|rfl<;>rfl
section
variable{w w':World}{v:Value}{l:List OpF}
end
end
section
open Go.ChangeAt Go.ChangeShapes Go.Proofs.Tryz Go.RowKit Go.WideShapes
section
open Go.Deep
theorem uF{k:IntKind}{z:Int}(h:(Lit.int k z).wf=true)(hm:k.min=0):∃m:Nat,z=(m:Int)/\(m:Int)<=k.max:=by
 simp only[Lit.wf,Bool.and_eq_true,decide_eq_true_eq]at h;obtain⟨m,rfl⟩:=Int.eq_ofNat_of_zero_le (show 0<=z by omega);exact⟨m,rfl,h.2⟩
theorem uc(b off i j k:Nat):((({block:=b,off:=off,spot:=none}:Addr).add (i*k)).add j)=⟨b,off+i*k+j,none⟩:=by
 unfold Addr.add;by_cases h1:i*k=0<;>by_cases h2:j=0<;>simp[h1,h2]
theorem lF{t e:TypeId}{W:World}{base:Nat}{a:Addr}{len1 cap1:Nat}(ht:prog.underlying t=some (.slice e))(h:Value.okWide prog W .any base t (.slice (some a) len1 cap1)):a.spot=none/\a.block<W.heap.size:=by
 simp only[Value.okWide,ht,Cell.okWide,Cell.ok]at h;obtain⟨_,_,_,h2,row,cells,h3,_⟩:=h;refine⟨h2,?_⟩;unfold World.shape? at h3;rcases Nat.lt_or_ge a.block W.heap.size with q|q
 .exact q
 .rw[Array.getElem?_eq_none q]at h3;cases h3
theorem pB(l:List OpF):(opsC l).length=l.length*3:=by
 induction l with
 |nil=>rfl
 |cons x l ih=>show(opC x++opsC l).length=_;rw[List.length_append,ih];simp[opC];omega
theorem AK{L:List OpF}{P:Nat->Value->Prop}(h:∀i (hi:i<L.length),P (i*3) (.int .i64 L[i].k)/\P (i*3+1) (.int .u32 (L[i].id:Nat))/\P (i*3+2) (.int .u64 (L[i].v:Nat))){j:Nat}{u:Value}(hj:(opsC L)[j]?=some u):P j u:=by
 have hl:j<L.length*3:=by
  rw[<-pB];rcases Nat.lt_or_ge j (opsC L).length with q|q
  .exact q
  .rw[List.getElem?_eq_none q]at hj;cases hj
 have hi:j/3<L.length:=by omega
 obtain⟨a0,a1,a2⟩:=vi L hi;obtain⟨b0,b1,b2⟩:=h _ hi;have:j=j/3*3\/j=j/3*3+1\/j=j/3*3+2:=by omega
 rcases this with e|e|e<;>rw[e]at hj⊢
 .rw[hj]at a0;cases a0;exact b0
 .rw[hj]at a1;cases a1;exact b1
 .rw[hj]at a2;cases a2;exact b2
def ArgP(w:World)(v:Value)(L:List OpF):Prop:=SlC w 3 v L.length (opsC L)/\∀o∈L,o.ok
theorem BH{H:Type}{enc:TypeId×Value->H}{W:World}{base fuel:Nat}{held:Bool}{a1:Option Addr}{len1 cap1:Nat}{x:DataW H×List MemPlace}
  (hv:∀a,a1=some a->a.spot=none/\a.block<W.heap.size)(h:DataW.trod enc prog W base (λ_=>true) held fuel 23 [.slice a1 len1 cap1]=some x):∃L,ArgP W (.slice a1 len1 cap1) L/\L.length=len1:=by
 rcases open_slice underlying23 h with⟨hcs,_⟩|⟨a,len,cap,m,n,D,Pl,hcs,_,hl,hm,hmm,_,hi⟩
 .simp at hcs
  obtain⟨rfl,rfl,rfl⟩:=hcs;exact⟨[],⟨SlC.nil _ _,λo q=>by cases q⟩,rfl⟩
 .simp at hcs
  obtain⟨rfl,rfl,rfl⟩:=hcs;simp only[if_true]at hmm;obtain⟨b,off,spot⟩:=a;obtain⟨rfl,hb⟩:spot=none/\b<W.heap.size:=hv _ rfl
  have each:∀i,∃z:OpF,z.ok/\(i<len1->W.cell? ⟨b,off+i*3,none⟩=some (.int .i64 z.k)/\W.cell? ⟨b,off+i*3+1,none⟩=some (.int .u32 (z.id:Nat))/\W.cell? ⟨b,off+i*3+2,none⟩=some (.int .u64 (z.v:Nat))):=by
   intro i;by_cases hil:i<len1
   .obtain⟨cs,hc,ht⟩:=hi i (by omega)
    rw[B9]at hc;obtain⟨_,hlen,hat⟩:=World.cells?_some hc;obtain⟨y0,y1,y2,n',_,t0,t1,t2⟩:=Es underlying52 ht
    match cs,hlen with
    |[v0,v1,v2],_=>
     have g0:=hat 0 (by omega);have g1:=hat 1 (by omega);have g2:=hat 2 (by omega);rw[uc]at g0 g1 g2;simp only[jX,Be,BJ,List.drop_zero,List.drop_succ_cons,List.take_succ_cons,List.take_zero]at t0 t1 t2;obtain⟨z0,e0,_,wf0⟩:=DataW.trod_int underlying3 t0;obtain⟨z1,e1,_,wf1⟩:=DataW.trod_int underlying42 t1;obtain⟨z2,e2,_,wf2⟩:=DataW.trod_int underlying25 t2;obtain⟨m1,rfl,b1⟩:=uF wf1 rfl;obtain⟨m2,rfl,b2⟩:=uF wf2 rfl;simp at e0 e1 e2;subst e0 e1 e2;simp only[Lit.wf,Bool.and_eq_true,decide_eq_true_eq,IntKind.min,IntKind.max,IntKind.bits,IntKind.signed]at wf0;simp[IntKind.max,IntKind.bits,IntKind.signed]at b1 b2;exact⟨⟨z0,m1,m2⟩,⟨by show m1<_;omega,by show m2<_;omega,by have:=wf0.1;simp at this;exact this,by have:=wf0.2;simp at this;exact this⟩,λ_=>⟨g0,g1,g2⟩⟩
   .exact⟨⟨0,0,0⟩,⟨by decide,by decide,by decide,by decide⟩,λh=>(hil h).elim⟩
  obtain⟨f,hf⟩:=Classical.skolem.1 each;have hL:((List.range len1).map f).length=len1:=by simp
  refine⟨(List.range len1).map f,⟨⟨_,cap1,by rw[hL],by rw[pB],zj _,by rw[hL];exact hl,hm,.inr ⟨b,off,rfl,hb,λj u hj=>?_⟩⟩,λo ho=>?_⟩,hL⟩
  .refine AK (P:=λj u=>W.cell? ⟨b,off+j,none⟩=some u) (λi q=>?_) hj
   rw[hL]at q;have:=(hf i).2 q;simp only[List.getElem_map,List.getElem_range];exact this
  .obtain⟨i,_,rfl⟩:=List.mem_map.1 ho
   exact(hf i).1
theorem CQ{H:Type}{enc:TypeId×Value->H}{W:World}{base fuel:Nat}{held:Bool}{a1:Option Addr}{len1 cap1:Nat}{x:DataW H×List MemPlace}
  (hv:∀a,a1=some a->a.spot=none/\a.block<W.heap.size)(h:DataW.trod enc prog W base (λ_=>true) held fuel 24 [.slice a1 len1 cap1]=some x):∃l:List Int,SlZ W (.slice a1 len1 cap1) l/\l.length=len1:=by
 rcases open_slice underlying24 h with⟨hcs,_⟩|⟨a,len,cap,m,n,D,Pl,hcs,_,hl,hm,hmm,_,hi⟩
 .simp at hcs
  obtain⟨rfl,rfl,rfl⟩:=hcs;exact⟨[],SlC.nil _ _,rfl⟩
 .simp at hcs
  obtain⟨rfl,rfl,rfl⟩:=hcs;simp only[if_true]at hmm;obtain⟨b,off,spot⟩:=a;obtain⟨rfl,hb⟩:spot=none/\b<W.heap.size:=hv _ rfl
  have each:∀i,∃z:Int,i<len1->W.cell? ⟨b,off+i,none⟩=some (.int .i64 z):=by
   intro i;by_cases hil:i<len1
   .obtain⟨cs,hc,ht⟩:=hi i (by omega)
    rw[jX]at hc;obtain⟨_,hlen,hat⟩:=World.cells?_some hc
    match cs,hlen with
    |[v0],_=>
     have g0:=hat 0 (by omega);rw[uc,Nat.mul_one]at g0;obtain⟨z0,e0,_,_⟩:=DataW.trod_int underlying3 ht;simp at e0;subst e0;exact⟨z0,λ_=>g0⟩
   .exact⟨0,λh=>(hil h).elim⟩
  obtain⟨f,hf⟩:=Classical.skolem.1 each;have hL:((List.range len1).map f).length=len1:=by simp
  refine⟨(List.range len1).map f,⟨_,cap1,by rw[hL],by simp,λu hu=>?_,by rw[hL];exact hl,hm,.inr ⟨b,off,rfl,hb,λj u hj=>?_⟩⟩,hL⟩
  .obtain⟨z,_,rfl⟩:=List.mem_map.1 hu;rfl
  .have hjl:j<len1:=by
    rcases Nat.lt_or_ge j len1 with q|q
    .exact q
    .rw[List.getElem?_eq_none (by simpa using q)]at hj;cases hj
   have:u=.int .i64 (f j):=by simpa[hjl]using hj.symm
   rw[this];exact hf j hjl
end
theorem uP:prog.cellsOf 22=3:=by kernel_rfl
theorem EK{H:Type}{enc:TypeId×Value->H}{W:World}{base:Nat}{sp:Nat->Bool}{held:Bool}{v:Value}{d:DataW H}{p:List MemPlace}(hval:Value.okWide prog W .any base 22 v)(h:DataW.Trod enc prog W 0 sp held 22 v d p):
  ∃x0 x1 x2:Int,v=.agg #[.int .i64 x0,.int .i64 x1,.int .i64 x2]/\d=.agg [.lit (.int .i64 x0),.lit (.int .i64 x1),.lit (.int .i64 x2)]/\p=[]/\(Lit.int .i64 x0).wf=true/\(Lit.int .i64 x1).wf=true/\(Lit.int .i64 x2).wf=true:=by
 obtain⟨cs,rfl,hsz,_⟩:∃cs,v=.agg cs/\cs.size=prog.cellsOf 22/\Row.okWide prog W .any base 22 cs:=by
  simpa[Value.okWide,underlying22]using hval
 rw[uP]at hsz;obtain⟨l⟩:=cs;obtain⟨c0,c1,c2,rfl⟩:=Ds l hsz;obtain⟨fuel,hf⟩:=h;obtain⟨y0,y1,y2,m,hx,hy0,hy1,hy2⟩:=trod_array3 underlying22 jX hf;obtain⟨x0,e0,rfl,w0⟩:=DataW.trod_int underlying3 hy0;obtain⟨x1,e1,rfl,w1⟩:=DataW.trod_int underlying3 hy1;obtain⟨x2,e2,rfl,w2⟩:=DataW.trod_int underlying3 hy2;simp at e0 e1 e2;subst e0 e1 e2;simp only[Prod.mk.injEq]at hx;obtain⟨rfl,rfl⟩:=hx;exact⟨x0,x1,x2,rfl,rfl,rfl,w0,w1,w2⟩
theorem EN{H:Type}{enc:TypeId×Value->H}(W:World)(base:Nat)(sp:Nat->Bool)(held:Bool){x0 x1 x2:Int}(w0:(Lit.int .i64 x0).wf=true)(w1:(Lit.int .i64 x1).wf=true)(w2:(Lit.int .i64 x2).wf=true):
  DataW.Trod enc prog W base sp held 22 (.agg #[.int .i64 x0,.int .i64 x1,.int .i64 x2]) (.agg [.lit (.int .i64 x0),.lit (.int .i64 x1),.lit (.int .i64 x2)]) []:=
 ⟨2,by simp[DataW.trod,Value.cells,underlying22,underlying3,jX,uP,w0,w1,w2,List.range,List.range.loop]⟩
end
end Go.Proofs.YtkjhnllcphidpaaGreatDoor
