/-
  FrontPolicies: whichever two policies there are, the same picks make the same Log: the row, and its card. No condition of its own; the library's table of trailing zeros (math/bits.deBruijn64tab) is as its initialiser lays it: the card ties it to the program's text.
-/
import Derived.Test.YtkjhnllcphidpaaGreatDoorQ49
import Derived.Test.YtkjhnllcphidpaaGreatDoorCards
import Derived.Deep.Strs
namespace Go.Proofs.YtkjhnllcphidpaaGreatDoor
set_option linter.all false
set_option maxHeartbeats 16000000
set_option maxRecDepth 100000
section
open Go.ChangeAt Go.ChangeShapes Go.Proofs.Tryz Go.RowKit Go.WideShapes
section
open Go.Deep
theorem vK{k:IntKind}{z:Int}(h:(Lit.int k z).wf=true)(hm:k.min=0):∃m:Nat,z=(m:Int)/\(m:Int)<=k.max:=by
 simp only[Lit.wf,Bool.and_eq_true,decide_eq_true_eq]at h;obtain⟨m,rfl⟩:=Int.eq_ofNat_of_zero_le (show 0<=z by omega);exact⟨m,rfl,h.2⟩
theorem pe(b off i j k:Nat):((({block:=b,off:=off,spot:=none}:Addr).add (i*k)).add j)=⟨b,off+i*k+j,none⟩:=by
 unfold Addr.add;by_cases h1:i*k=0<;>by_cases h2:j=0<;>simp[h1,h2]
theorem k8{t e:TypeId}{W:World}{base:Nat}{a:Addr}{len1 cap1:Nat}(ht:prog.underlying t=some (.slice e))(h:Value.okWide prog W .any base t (.slice (some a) len1 cap1)):a.spot=none/\a.block<W.heap.size:=by
 simp only[Value.okWide,ht,Cell.okWide,Cell.ok]at h;obtain⟨_,_,_,h2,row,cells,h3,_⟩:=h;refine⟨h2,?_⟩;unfold World.shape? at h3;rcases Nat.lt_or_ge a.block W.heap.size with q|q
 .exact q
 .rw[Array.getElem?_eq_none q]at h3;cases h3
theorem qz(l:List OpF):(opsC l).length=l.length*3:=by
 induction l with
 |nil=>rfl
 |cons x l ih=>show(opC x++opsC l).length=_;rw[List.length_append,ih];simp[opC];omega
theorem A6{L:List OpF}{P:Nat->Value->Prop}(h:∀i (hi:i<L.length),P (i*3) (.int .i64 L[i].k)/\P (i*3+1) (.int .u32 (L[i].id:Nat))/\P (i*3+2) (.int .u64 (L[i].v:Nat))){j:Nat}{u:Value}(hj:(opsC L)[j]?=some u):P j u:=by
 have hl:j<L.length*3:=by
  rw[<-qz];rcases Nat.lt_or_ge j (opsC L).length with q|q
  .exact q
  .rw[List.getElem?_eq_none q]at hj;cases hj
 have hi:j/3<L.length:=by omega
 obtain⟨a0,a1,a2⟩:=oU L hi;obtain⟨b0,b1,b2⟩:=h _ hi;have:j=j/3*3\/j=j/3*3+1\/j=j/3*3+2:=by omega
 rcases this with e|e|e<;>rw[e]at hj⊢
 .rw[hj]at a0;cases a0;exact b0
 .rw[hj]at a1;cases a1;exact b1
 .rw[hj]at a2;cases a2;exact b2
def Hv(w:World)(v:Value)(L:List OpF):Prop:=SlC w 3 v L.length (opsC L)/\∀o∈L,o.ok
theorem Dn{H:Type}{enc:TypeId×Value->H}{W:World}{base fuel:Nat}{held:Bool}{a1:Option Addr}{len1 cap1:Nat}{x:DataW H×List MemPlace}
  (hv:∀a,a1=some a->a.spot=none/\a.block<W.heap.size)(h:DataW.trod enc prog W base (λ_=>true) held fuel 23 [.slice a1 len1 cap1]=some x):∃L,Hv W (.slice a1 len1 cap1) L/\L.length=len1:=by
 rcases open_slice underlying23 h with⟨hcs,_⟩|⟨a,len,cap,m,n,D,Pl,hcs,_,hl,hm,hmm,_,hi⟩
 .simp at hcs
  obtain⟨rfl,rfl,rfl⟩:=hcs;exact⟨[],⟨SlC.nil _ _,λo q=>by cases q⟩,rfl⟩
 .simp at hcs
  obtain⟨rfl,rfl,rfl⟩:=hcs;simp only[if_true]at hmm;obtain⟨b,off,spot⟩:=a;obtain⟨rfl,hb⟩:spot=none/\b<W.heap.size:=hv _ rfl
  have each:∀i,∃z:OpF,z.ok/\(i<len1->W.cell? ⟨b,off+i*3,none⟩=some (.int .i64 z.k)/\W.cell? ⟨b,off+i*3+1,none⟩=some (.int .u32 (z.id:Nat))/\W.cell? ⟨b,off+i*3+2,none⟩=some (.int .u64 (z.v:Nat))):=by
   intro i;by_cases hil:i<len1
   .obtain⟨cs,hc,ht⟩:=hi i (by omega)
    rw[vq]at hc;obtain⟨_,hlen,hat⟩:=World.cells?_some hc;obtain⟨y0,y1,y2,n',_,t0,t1,t2⟩:=Fz underlying52 ht
    match cs,hlen with
    |[v0,v1,v2],_=>
     have g0:=hat 0 (by omega);have g1:=hat 1 (by omega);have g2:=hat 2 (by omega);rw[pe]at g0 g1 g2;simp only[ku,Dm,Du,List.drop_zero,List.drop_succ_cons,List.take_succ_cons,List.take_zero]at t0 t1 t2;obtain⟨z0,e0,_,wf0⟩:=DataW.trod_int underlying3 t0;obtain⟨z1,e1,_,wf1⟩:=DataW.trod_int underlying42 t1;obtain⟨z2,e2,_,wf2⟩:=DataW.trod_int underlying25 t2;obtain⟨m1,rfl,b1⟩:=vK wf1 rfl;obtain⟨m2,rfl,b2⟩:=vK wf2 rfl;simp at e0 e1 e2;subst e0 e1 e2;simp only[Lit.wf,Bool.and_eq_true,decide_eq_true_eq,IntKind.min,IntKind.max,IntKind.bits,IntKind.signed]at wf0;simp[IntKind.max,IntKind.bits,IntKind.signed]at b1 b2;exact⟨⟨z0,m1,m2⟩,⟨by show m1<_;omega,by show m2<_;omega,by have:=wf0.1;simp at this;exact this,by have:=wf0.2;simp at this;exact this⟩,λ_=>⟨g0,g1,g2⟩⟩
   .exact⟨⟨0,0,0⟩,⟨by decide,by decide,by decide,by decide⟩,λh=>(hil h).elim⟩
  obtain⟨f,hf⟩:=Classical.skolem.1 each;have hL:((List.range len1).map f).length=len1:=by simp
  refine⟨(List.range len1).map f,⟨⟨_,cap1,by rw[hL],by rw[qz],ma _,by rw[hL];exact hl,hm,.inr ⟨b,off,rfl,hb,λj u hj=>?_⟩⟩,λo ho=>?_⟩,hL⟩
  .refine A6 (P:=λj u=>W.cell? ⟨b,off+j,none⟩=some u) (λi q=>?_) hj
   rw[hL]at q;have:=(hf i).2 q;simp only[List.getElem_map,List.getElem_range];exact this
  .obtain⟨i,_,rfl⟩:=List.mem_map.1 ho
   exact(hf i).1
theorem Cp{H:Type}{enc:TypeId×Value->H}{W:World}{base fuel:Nat}{held:Bool}{a1:Option Addr}{len1 cap1:Nat}{x:DataW H×List MemPlace}
  (hv:∀a,a1=some a->a.spot=none/\a.block<W.heap.size)(h:DataW.trod enc prog W base (λ_=>true) held fuel 24 [.slice a1 len1 cap1]=some x):∃l:List Int,SlZ W (.slice a1 len1 cap1) l/\l.length=len1:=by
 rcases open_slice underlying24 h with⟨hcs,_⟩|⟨a,len,cap,m,n,D,Pl,hcs,_,hl,hm,hmm,_,hi⟩
 .simp at hcs
  obtain⟨rfl,rfl,rfl⟩:=hcs;exact⟨[],SlC.nil _ _,rfl⟩
 .simp at hcs
  obtain⟨rfl,rfl,rfl⟩:=hcs;simp only[if_true]at hmm;obtain⟨b,off,spot⟩:=a;obtain⟨rfl,hb⟩:spot=none/\b<W.heap.size:=hv _ rfl
  have each:∀i,∃z:Int,i<len1->W.cell? ⟨b,off+i,none⟩=some (.int .i64 z):=by
   intro i;by_cases hil:i<len1
   .obtain⟨cs,hc,ht⟩:=hi i (by omega)
    rw[ku]at hc;obtain⟨_,hlen,hat⟩:=World.cells?_some hc
    match cs,hlen with
    |[v0],_=>
     have g0:=hat 0 (by omega);rw[pe,Nat.mul_one]at g0;obtain⟨z0,e0,_,_⟩:=DataW.trod_int underlying3 ht;simp at e0;subst e0;exact⟨z0,λ_=>g0⟩
   .exact⟨0,λh=>(hil h).elim⟩
  obtain⟨f,hf⟩:=Classical.skolem.1 each;have hL:((List.range len1).map f).length=len1:=by simp
  refine⟨(List.range len1).map f,⟨_,cap1,by rw[hL],by simp,λu hu=>?_,by rw[hL];exact hl,hm,.inr ⟨b,off,rfl,hb,λj u hj=>?_⟩⟩,hL⟩
  .obtain⟨z,_,rfl⟩:=List.mem_map.1 hu;rfl
  .have hjl:j<len1:=by
    rcases Nat.lt_or_ge j len1 with q|q
    .exact q
    .rw[List.getElem?_eq_none (by simpa using q)]at hj;cases hj
   have:u=.int .i64 (f j):=by simpa[hjl]using hj.symm
   rw[this];exact hf j hjl
end
theorem uF:prog.cellsOf 22=3:=by kernel_rfl
theorem Hi{H:Type}{enc:TypeId×Value->H}{W:World}{base:Nat}{sp:Nat->Bool}{held:Bool}{v:Value}{d:DataW H}{p:List MemPlace}(hval:Value.okWide prog W .any base 22 v)(h:DataW.Trod enc prog W 0 sp held 22 v d p):
  ∃x0 x1 x2:Int,v=.agg #[.int .i64 x0,.int .i64 x1,.int .i64 x2]/\d=.agg [.lit (.int .i64 x0),.lit (.int .i64 x1),.lit (.int .i64 x2)]/\p=[]/\(Lit.int .i64 x0).wf=true/\(Lit.int .i64 x1).wf=true/\(Lit.int .i64 x2).wf=true:=by
 obtain⟨cs,rfl,hsz,_⟩:∃cs,v=.agg cs/\cs.size=prog.cellsOf 22/\Row.okWide prog W .any base 22 cs:=by
  simpa[Value.okWide,underlying22]using hval
 rw[uF]at hsz;obtain⟨l⟩:=cs;obtain⟨c0,c1,c2,rfl⟩:=Fq l hsz;obtain⟨fuel,hf⟩:=h;obtain⟨y0,y1,y2,m,hx,hy0,hy1,hy2⟩:=trod_array3 underlying22 ku hf;obtain⟨x0,e0,rfl,w0⟩:=DataW.trod_int underlying3 hy0;obtain⟨x1,e1,rfl,w1⟩:=DataW.trod_int underlying3 hy1;obtain⟨x2,e2,rfl,w2⟩:=DataW.trod_int underlying3 hy2;simp at e0 e1 e2;subst e0 e1 e2;simp only[Prod.mk.injEq]at hx;obtain⟨rfl,rfl⟩:=hx;exact⟨x0,x1,x2,rfl,rfl,rfl,w0,w1,w2⟩
theorem Ge{H:Type}{enc:TypeId×Value->H}(W:World)(base:Nat)(sp:Nat->Bool)(held:Bool){x0 x1 x2:Int}(w0:(Lit.int .i64 x0).wf=true)(w1:(Lit.int .i64 x1).wf=true)(w2:(Lit.int .i64 x2).wf=true):
  DataW.Trod enc prog W base sp held 22 (.agg #[.int .i64 x0,.int .i64 x1,.int .i64 x2]) (.agg [.lit (.int .i64 x0),.lit (.int .i64 x1),.lit (.int .i64 x2)]) []:=
 ⟨2,by simp[DataW.trod,Value.cells,underlying22,underlying3,ku,uF,w0,w1,w2,List.range,List.range.loop]⟩
end
section
open Go.ChangeAt Go.ChangeShapes Go.Deep Go.Proofs.Tryz Go.RowKit Go.WideShapes
theorem CU:prog.cellsOf 23=1:=by kernel_rfl
theorem DA{H:Type}{enc:TypeId×Value->H}{W:World}{base fuel:Nat}{held:Bool}{v:Value}{x:DataW H×List MemPlace}
  (h:DataW.trod enc prog W base (λ_=>true) held fuel 23 [v]=some x):∃L,InO W v L/\∀o∈L,o.ok:=by
 rcases open_slice underlying23 h with⟨hcs,_⟩|⟨a,len,cap,m,n,D,Pl,hcs,_,hl,hm,hmm,_,hi⟩
 .simp at hcs
  subst hcs;exact⟨[],.inl (SlC.nil _ _),λo q=>by cases q⟩
 .simp at hcs
  subst hcs;simp only[if_true]at hmm;by_cases hc:cap=0
  .obtain rfl:len=0:=by omega
   subst hc;exact⟨[],.inr ⟨rfl,_,rfl⟩,λo q=>by cases q⟩
  .obtain⟨cs,hcs,_⟩:=hi 0 (by omega)
   rw[vq]at hcs;obtain⟨_,hlen,hat⟩:=World.cells?_some hcs;obtain⟨b,off,spot⟩:=a
   match cs,hlen with
   |[v0,v1,v2],_=>
    have c0:W.cell? _=some v0:=hat 0 (by omega)
    have hs:spot=none:=by
     cases spot with
     |none=>rfl
     |some q=>
      simp only[Nat.zero_mul,Addr.add,World.cell?]at c0
      split at c0<;>simp at c0
    subst hs;rw[pe]at c0;have hb:b<W.heap.size:=World.block_lt_of_cell? (w:=W) (a:=⟨b,off+0*3+0,none⟩) c0;obtain⟨L,⟨k1,k2⟩,k3⟩:=Dn (λa e=>by cases e;exact⟨rfl,hb⟩) h;exact⟨L,.inl k1,k2⟩
theorem Bj{H:Type}{enc:TypeId×Value->H}{W:World}{base fuel:Nat}{held:Bool}{a1:Option Addr}{len1 cap1:Nat}{x:DataW H×List MemPlace}
  (hv:∀a,a1=some a->a.spot=none/\a.block<W.heap.size)(h:DataW.trod enc prog W base (λ_=>true) held fuel 59 [.slice a1 len1 cap1]=some x):∃L:Nat->List OpF,SlOI W (.slice a1 len1 cap1) len1 L/\∀i,i<len1->∀o∈L i,o.ok:=by
 rcases open_slice1 underlying59 CU h with⟨hcs,_⟩|⟨a,len,cap,m,n,V,D,Pl,hcs,_,hl,hm,hmm,_,hi⟩
 .simp at hcs
  obtain⟨rfl,rfl,rfl⟩:=hcs;exact⟨λ_=>[],⟨[],SlC.nil _ _,λi hi=>by omega⟩,λi hi=>by omega⟩
 .simp at hcs
  obtain⟨rfl,rfl,rfl⟩:=hcs;simp only[if_true]at hmm;obtain⟨b,off,spot⟩:=a;obtain⟨rfl,hb⟩:spot=none/\b<W.heap.size:=hv _ rfl
  have each:∀i,∃L,(i<len1->W.cell? ⟨b,off+i,none⟩=some (V i)/\InO W (V i) L)/\∀o∈L,o.ok:=by
   intro i;by_cases hil:i<len1
   .obtain⟨hc,ht⟩:=hi i (by omega)
    obtain⟨L,k1,k2⟩:=DA ht;have e:({block:=b,off:=off,spot:=none}:Addr).add i=⟨b,off+i,none⟩:=by unfold Addr.add;by_cases h1:i=0<;>simp[h1]
    rw[e]at hc;exact⟨L,λ_=>⟨hc,k1⟩,k2⟩
   .exact⟨[],λh=>(hil h).elim,λo q=>by cases q⟩
  obtain⟨f,hf⟩:=Classical.skolem.1 each;refine⟨f,⟨(List.range len1).map V,⟨_,cap1,rfl,by simp,λu hu=>?_,hl,hm,.inr ⟨b,off,rfl,hb,λj u hj=>?_⟩⟩,λi hi=>?_⟩,λi _=>(hf i).2⟩
  .obtain⟨i,hi,rfl⟩:=List.mem_map.1 hu
   obtain⟨_,_,e,_⟩:=((hf i).1 (List.mem_range.1 hi)).2.shape;rw[e];rfl
  .have hjl:j<len1:=by
    rcases Nat.lt_or_ge j len1 with q|q
    .exact q
    .rw[List.getElem?_eq_none (by simpa using q)]at hj;cases hj
   have:u=V j:=by simpa[hjl]using hj.symm
   rw[this];exact((hf j).1 hjl).1
  .exact⟨V i,by simp[hi],((hf i).1 hi).2⟩
end
section
open Go.ChangeAt Go.ChangeShapes Go.Proofs.Tryz Go.RowKit Go.WideShapes
namespace frontPolicies
theorem lifted(os:Os)(started:os.Started)(H:Type)(enc:TypeId×Value->H):
  ReturnsInHanded {} Tryz.checked os 5 .any (λw args=>(Rows.frontPoliciesSpec.pre enc prog Tryz.f5 Rows.frontPoliciesRow.domain false w args/\laidMet prog Rows.frontPoliciesRow.laid w)/\sizedMet enc prog Tryz.f5 (OpenSpec.ofChange Rows.frontPoliciesSpec) false w args)
   (Rows.frontPoliciesSpec.post enc prog Tryz.f5 false true false false):=by
 refine returnsInHanded_of_change_and (C:=Tryz.checked) (X:=λw _=>laidMet prog Rows.frontPoliciesRow.laid w) (λ_ _ _ hh h=>h.of_heap hh) Ir started (by kernel_rfl) func5
  (ChangeSpec.witness_at (enc:=enc) (C:=Tryz.checked) (os:=os) (X:=λw _=>laidMet prog Rows.frontPoliciesRow.laid w) false (qN os) #[.agg #[.int .i64 0,.int .i64 0,.int .i64 0],.slice none 0 0,.slice none 0 0] 8 rfl (by kernel_rfl) (by kernel_rfl) (by kernel_rfl) (by kernel_rfl) (by kernel_rfl) (DM os _)) ?_
 intro W base args ds gs before hval0 hW _ _ hL _;have hval:∀(j:Nat) t v,Tryz.f5.params[j]?=some t->args[j]?=some v->Value.okWide prog W .any base t v:=hval0;have hW':=hW;obtain⟨p,q,hA0,hV,rfl,hfz,hnd⟩:=hW;have hA:DataW.TrodAll enc prog W 0 (λ_=>true) true Tryz.f5.params.toList args.toList ds p:=hA0;rw[Tryz.params5]at hA hval;obtain⟨v0,vs0,d0,ds0,p0,q0,hargs,rfl,rfl,h0,r0⟩:=trodAll_cons hA;obtain⟨v1,vs1,d1,ds1,p1,q1,rfl,rfl,rfl,h1,r1⟩:=trodAll_cons r0;obtain⟨v2,vs2,d2,ds2,p2,q2,rfl,rfl,rfl,h2,r2⟩:=trodAll_cons r1;obtain⟨rfl,rfl,rfl⟩:=trodAll_nil r2;obtain rfl:args=#[v0,v1,v2]:=by cases args;simp_all
 obtain⟨rfl,rfl⟩:=trodVars_none hV;obtain⟨x0,x1,x2,rfl,rfl,rfl,w0,w0',w0''⟩:=Hi (hval 0 22 v0 rfl rfl) h0;obtain⟨a1,len1,cap1,rfl⟩:=okWide_slice underlying59 (hval 1 59 v1 rfl rfl);obtain⟨a2,len2,cap2,rfl⟩:=okWide_slice underlying24 (hval 2 24 v2 rfl rfl);have hv1:∀a,a1=some a->a.spot=none/\a.block<W.heap.size:=λa e=>by subst e;exact k8 underlying59 (hval 1 59 _ rfl rfl)
 have hv2:∀a,a2=some a->a.spot=none/\a.block<W.heap.size:=λa e=>by subst e;exact k8 underlying24 (hval 2 24 _ rfl rfl)
 have k1:=h1;have k2:=h2;have lt1:∀x∈p1,x.block<W.heap.size:=by obtain⟨m,hm⟩:=k1;exact DataW.trod_lt m _ _ _ hm
 have lt2:∀x∈p2,x.block<W.heap.size:=by obtain⟨m,hm⟩:=k2;exact DataW.trod_lt m _ _ _ hm
 obtain⟨L,wz,wok⟩:∃L:Nat->List OpF,SlOI W (.slice a1 len1 cap1) len1 L/\∀i,i<len1->∀o∈L i,o.ok:=by
  obtain⟨fuel,hf⟩:=h1;exact Bj hv1 hf
 obtain⟨l,wl,_⟩:∃l:List Int,SlZ W (.slice a2 len2 cap2) l/\l.length=len2:=by
  obtain⟨fuel,hf⟩:=h2;exact Cp hv2 hf
 clear hA0 hval0;have hT:dq W:=Dc hL;simp only[List.append_nil,List.nil_append]at hW';refine(xg x0 x1 x2 _ _ len1 L l W wz wok wl hT).mono λe W' ⟨he,hf⟩=>?_
 have bel:=hf.below;subst he;exact⟨_,rfl,_,_,_,[],_,[],hW',trodAll_mk1 (shut_bool underlying4 _),(trodAll_cons_mk (Ge W' _ _ _ w0 w0' w0'') (trodAll_cons_mk (Below.trod qT (by kernel_rfl) (of_decide_eq_true (by kernel_rfl)) k1 bel lt1) (trodAll_cons_mk (Below.trod qT (by kernel_rfl) (of_decide_eq_true (by kernel_rfl)) k2 bel lt2) trodAll_mk0))),rfl,bel.frame _,λh=>by cases h⟩
theorem said:Rows.FrontPoliciesSaid:=
 OpenClaim.holds_of_wide 5 Tryz.f5 rfl rfl rfl rfl rfl rfl rfl ⟨rfl,rfl,rfl,rfl,rfl⟩ rfl rfl rfl rfl rfl (by kernel_rfl) func5 (by kernel_rfl)
  (of_decide_eq_true (by kernel_rfl)) (by unfold Func.isWrapper;first|(rw[if_pos (by decide+kernel)];kernel_rfl)|(rw[if_neg (by decide+kernel)];exact⟨rfl,rfl⟩))
  (λos started H enc _=>lifted os started H enc)
theorem proved:Rows.FrontPoliciesCardSaid:=
 Claim7.holds_tied_plain_at .later [] [.data] true (true, "5b16b7d9d07b525f472cd6f6e2ab884ca09d3cbfa683e58d2cd44a1ccdc019b9") true
  said (λ_ h=>by cases h) (by kernel_rfl) (λ_ h=>by cases h) frontPolicies_row_tie rfl ⟨rfl,rfl⟩ (by kernel_rfl) rfl
  (λf fn hf hfn=>by
   obtain rfl:f=5:=Option.some.inj ((show prog.funcNamed "hatcheck/hatchecklaw11.FrontPolicies" =some 5 by kernel_rfl).symm.trans hf)|>.symm
   obtain rfl:fn=Tryz.f5:=(Option.some.inj (func5.symm.trans hfn)).symm
   exact⟨by kernel_rfl,λj t ht=>by
    rw[Tryz.params5]at ht
    have h3:t=22\/t=59\/t=24:=by
     rcases j with _|_|_|j
     .left;simpa using ht.symm
     .right;left;simpa using ht.symm
     .right;right;simpa using ht.symm
     .simp at ht
    rcases h3 with rfl|rfl|rfl
    .exact(show prog.wantsStandIn 22=false by kernel_rfl)
    .exact(show prog.wantsStandIn 59=false by kernel_rfl)
    .exact(show prog.wantsStandIn 24=false by kernel_rfl)⟩)
  (by kernel_rfl)
#print axioms proved
end frontPolicies
end
end Go.Proofs.YtkjhnllcphidpaaGreatDoor
