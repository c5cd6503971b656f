/- Part 49. -/
import Derived.Test.YtkjhnllcphidpaaGreatDoorQ48
import Derived.Test.YtkjhnllcphidpaaGreatDoorQ15
import Derived.Test.YtkjhnllcphidpaaGreatDoorQ45
import Derived.Test.YtkjhnllcphidpaaGreatDoorTie
import Derived.Lib.LaidTab
namespace Go.Proofs.YtkjhnllcphidpaaGreatDoor
set_option linter.all false
set_option maxHeartbeats 16000000
set_option maxRecDepth 100000
section
open Go.Maps Go.RowKit
theorem iE{τ:Type}{P:Pol τ}{pre:τ->Cl->Prop}{n:Nat}{ok:Nat->τ->(Nat->Nat)->(Nat->Bool)->Prop}(O:kJ P pre n ok):mw (fj P) n ok:=λm s pg ev id h hx=>by
 cases e:P.victim s id with
 |none=>exact(O.some h hx e).elim
 |some a=>exact⟨a,e,O.goer h e⟩
theorem tH{n:Nat}{r:Nat->Prop}{page:Nat->Nat}{e:Nat->Bool}(hr:∀f,¬r f)(he:∀f,e f=false):an n r page e (λ_=>0) (λ_=>true):=
 ⟨λf=>⟨λq=>(hr f q).elim,λq=>(q.2 rfl).elim⟩,λf q=>(hr f q).elim,λf q=>(hr f q).elim,λf _=>he f⟩
theorem Ib{n b:Nat}{w:World}{F:Nat->Prop}(h:LRu w b n [] (λ_=>false) F):bE n true (uZ b) w F:=
 ⟨⟨_,_,rfl⟩,LT,fj jC,AD b n,ok4 n,([],λ_=>false),λpb=>Hw pb b n,h,⟨λ_=>0,tH (λf q=>by cases q) (λ_=>rfl)⟩,λ_=>iE (Gn n)⟩
theorem Fl(n:Nat):bp (λ_=>none) n=0:=by
 induction n with
 |zero=>rfl
 |succ n ih=>unfold bp;rw[ih];rfl
theorem Hr{n K near kept b:Nat}{w:World}{F:Nat->Prop}(h:CRL w b (gY n K near kept) F):bE n true (vg b) w F:=by
 refine⟨⟨_,_,rfl⟩,LK,fj ga,CR5 b,ok5 n,gY n K near kept,λpb=>Hm pb b n,?_,?_,λ_=>iE (Gu n)⟩
 .exact⟨by show 0<800000;omega,λ_=>false,λx a b q _=>(by cases q),h⟩
 .refine⟨rfl,Nat.zero_le _,Nat.zero_le _,λf hf=>rfl,λf hf q=>(q rfl).elim,λf=>⟨λq=>(by cases q),λq=>(q.2.1 rfl).elim⟩,?_,λf hf q=>(q rfl).elim,λf g hf hg q=>(q rfl).elim⟩
  exact(Fl n).symm
theorem Im{n inn out b:Nat}{w:World}{F:Nat->Prop}(h:CRT b n inn out w t60 F):bE n true (vB b) w F:=
 ⟨⟨_,_,rfl⟩,T6,fj (xC inn out),CRT b n inn out,ok6 n,t60,λpb=>Ic pb b n inn out,h,tH (λf q=>by rcases q with q|q<;>cases q) (λ_=>rfl),λ_=>iE (GT n inn out)⟩
theorem Ip{n b:Nat}{w:World}{F:Nat->Prop}(h:CRA b n w t70 F):bE n true (wa b) w F:=
 ⟨⟨_,_,rfl⟩,T7,fj (xV n),CRA b n,ok7 n,t70,λpb=>Ii pb b n,h,tH (λf q=>by rcases q with q|q<;>cases q) (λ_=>rfl),λ_=>iE (Hh n)⟩
theorem Il{n b:Nat}{w:World}{F:Nat->Prop}(h1:1<=n)(hn:n<=30000)(h:CRP b n w (pr0 n) F):bE n true (vA b) w F:=
 ⟨⟨_,_,rfl⟩,PrS,fj (wO n),CRP b n,ok8 n,pr0 n,λpb=>Hp pb b n hn,h,⟨(pk0 h1).1,(pk0 h1).2,λf hf=>rfl,λf hf q=>(q rfl).elim⟩,λ_=>iE (GS n)⟩
end
section
open Go.Proofs.Tryz Go.RowKit
theorem rc(n:Nat)(w:World)(h1:1<=n)(hn:n<=65535):
  Calls prog 33 #[.int .i64 n] w λe w'=>∃b F,e=.returned (.tuple #[.pointer (some ⟨b,0,none⟩),.int .i64 0])/\LRu w' b n [] (λ_=>false) F/\(∀i,F i->w.heap.size<=i)/\Fr NoF w w':=by
 have mk1:=mkB n (by omega);have MK:=Hd mk1;have HN:=Hd (gG n 1 w (by omega) (by omega) (by omega));clear mk1;go_enter func33,ntmps33
 go_wp2_with fail
 refine HN.out.mono ?_;clear HN;rintro e w1⟨rb,FR,rfl,hR,hF,hf⟩;have HR:=Hd hR;have HF:=Hd hF;have HFr:=Hd hf;have mk1:=MK.out w1;clear hR hF hf;go_wp2;go_returns;have hz:=HFr.out.size;have hfA:Fr NoF w1 ((w1.alloc (.cells (madeCells #[.bool false] n) 4)).alloc (.cells #[.pointer (some ⟨rb,0,none⟩),.slice (some ⟨w1.heap.size,0,none⟩) n n,.int .i64 0] 161)):=((Fr.refl _ _).alloc _).alloc _;have hlt:=HR.out.lt;refine⟨w1.heap.size+1,λi=>i=w1.heap.size+1\/i=w1.heap.size\/FR i,rfl,⟨rb,w1.heap.size,FR,⟨?_,?_,HR.out.fr hfA (λ_ _ q=>q),by omega,λq=>by have:=hlt _ q;omega,λq=>by have:=hlt _ q;omega,λf hf=>(by cases hf),hn⟩,λ_=>Iff.rfl⟩,?_,HFr.out.trans hfA (λ_ q=>q.elim)⟩
 .refine Blk.new _ _ _ 3 _ _ (by simp) rfl (λi hi=>?_)
  match i,hi with
  |0,_=>rfl
  |1,_=>rfl
  |2,_=>rfl
 .refine(Blk.new _ _ _ n _ _ rfl (by simp[size_madeCells]) (λi hi=>?_)).alloc _
  rw[jj hi,show(#[Value.bool false]:Array Value).size=1 from rfl,Nat.mod_one];rfl
 .intro i hi
  rcases hi with rfl|rfl|q
  .omega
  .omega
  .exact HF.out i q
end
section
open Go.Maps Go.Proofs.Tryz Go.RowKit
section
variable{w w':World}{n:Nat}
theorem n4(w:World)(h:1<=n/\n<=6):Calls prog 33 #[.int .i64 n] w λe w'=>∃b F,e=.returned (.tuple #[.pointer (some ⟨b,0,none⟩),.int .i64 0])/\bE n true (uZ b) w' F/\(∀i,F i->w.heap.size<=i)/\Fr NoF w w':=
 (rc n w h.1 (by omega)).mono λe w' ⟨b,F,he,h1,h2,h3⟩=>⟨b,F,he,Ib h1,h2,h3⟩
theorem n5(w:World)(h:1<=n/\n<=6):Calls prog 34 #[.int .i64 n,.int .i64 2,.int .i64 1,.int .i64 n] w λe w'=>∃b F,e=.returned (.tuple #[.pointer (some ⟨b,0,none⟩),.int .i64 0])/\bE n true (vg b) w' F/\(∀i,F i->w.heap.size<=i)/\Fr NoF w w':=
 (DN n 2 1 n w ⟨h.1,by omega⟩ (by omega) (by omega) (by omega)).mono λe w' ⟨b,F,he,h1,h2,h3⟩=>⟨b,F,he,Hr h1,h2,h3⟩
theorem n6(w:World)(h:1<=n/\n<=6):Calls prog 35 #[.int .i64 n,.int .i64 (n/4:Nat),.int .i64 (n/2:Nat)] w λe w'=>∃b F,e=.returned (.tuple #[.pointer (some ⟨b,0,none⟩),.int .i64 0])/\bE n true (vB b) w' F/\(∀i,F i->w.heap.size<=i)/\Fr NoF w w':=
 (sE n (n/4) (n/2) w h.1 (by omega) (by omega) (by omega)).mono λe w' ⟨b,F,he,h1,h2,h3⟩=>⟨b,F,he,Im h1,h2,h3⟩
theorem n7(w:World)(h:1<=n/\n<=6):Calls prog 36 #[.int .i64 n] w λe w'=>∃b F,e=.returned (.tuple #[.pointer (some ⟨b,0,none⟩),.int .i64 0])/\bE n true (wa b) w' F/\(∀i,F i->w.heap.size<=i)/\Fr NoF w w':=
 (sO n w h.1 (by omega)).mono λe w' ⟨b,F,he,h1,h2,h3⟩=>⟨b,F,he,Ip h1,h2,h3⟩
theorem n8(w:World)(h:1<=n/\n<=6):Calls prog 37 #[.int .i64 n] w λe w'=>∃b F,e=.returned (.tuple #[.pointer (some ⟨b,0,none⟩),.int .i64 0])/\bE n true (vA b) w' F/\(∀i,F i->w.heap.size<=i)/\Fr NoF w w':=
 (sY n w h.1 (by omega)).mono λe w' ⟨b,F,he,h1,h2,h3⟩=>⟨b,F,he,Il h.1 (by omega) h1,h2,h3⟩
theorem nA(w:World){v:Value}{l:List Int}(h:SlZ w v l)(hl:l.length<=65535):Calls prog 41 #[v] w λe w'=>∃lb F,e=.returned (cH lb)/\bE n false (cH lb) w' F/\(∀i,F i->w.heap.size<=i)/\Fr NoF w w':=
 (iT h hl).mono λe w' ⟨b,F,he,h1,h2,h3⟩=>⟨b,F,he,Gy h1,h2,h3⟩
def GK(n k:Nat)(rv:Value)(w0 w:World):Prop:=∃F,bE n (decide (k<5)) rv w F/\(∀i,F i->w0.heap.size<=i)/\Fr NoF w0 w
theorem Hs{n:Nat}(h:n<=6):Int.tdiv (n:Int) 4=((n/4:Nat):Int):=rfl
theorem If{n:Nat}(h:n<=6):Int.tdiv (n:Int) 2=((n/2:Nat):Int):=rfl
theorem pz(k:Nat)(hk:k<6)(w:World)(h:1<=n/\n<=6){v:Value}{l:List Int}(hv:SlZ w v l)(hl:l.length<=65535):Calls prog 10 #[.int .i64 k,.int .i64 n,v] w λe w'=>∃rv,e=.returned rv/\GK n k rv w w':=by
 have HV:=Hd hv;have HL:=Hd hl;have HN:=Hd h;clear hv hl;obtain⟨h1,h2⟩:=h;have hd4:=Hs h2;have hd2:=If h2;rcases(by omega:k=0\/k=1\/k=2\/k=3\/k=4\/k=5)with rfl|rfl|rfl|rfl|rfl|rfl
 all_goals
  go_enter func10,ntmps10
  go_wp2_with fail
  first
   |refine(n4 _ HN.out).mono ?_
   |refine(n5 _ HN.out).mono ?_
   |refine(n6 _ HN.out).mono ?_
   |refine(n7 _ HN.out).mono ?_
   |refine(n8 _ HN.out).mono ?_
   |refine(nA (n:=n) _ HV.out HL.out).mono ?_
  rintro e w1⟨b,F,rfl,a1,a2,a3⟩;have KEY:=Hd (show∃F,bE n _ _ w1 F/\(∀i,F i->w.heap.size<=i)/\Fr NoF w w1 from⟨F,a1,a2,a3⟩);clear a1 a2 a3;go_wp2;go_returns;exact⟨_,rfl,KEY.out⟩
theorem rX(k:Nat)(hk:k<6)(w:World)(h:1<=n/\n<=6):Calls prog 8 #[.int .i64 k,.int .i64 n] w λe w'=>e=.returned (.bool true)/\Fr NoF w w':=by
 have HN:=Hd h;obtain⟨h1,h2⟩:=h;have h0:Hid (Fr NoF w w):=Fr.refl _ _;have HK:=Hd hk;go_enter func8,ntmps8
 go_wp2_with fail
 refine(n4 _ HN.out).mono ?_;rintro e w1⟨b1,F,rfl,_,_,a3⟩;have g1:=Hd a3;clear a3
 go_wp2_with fail
 refine(n5 _ HN.out).mono ?_;rintro e w2⟨b2,F,rfl,_,_,a3⟩;have g2:=Hd (g1.out.trans a3 (λ_ q=>q.elim));clear a3 g1
 go_wp2_with fail
 refine(n6 _ HN.out).mono ?_;rintro e w3⟨b3,F,rfl,_,_,a3⟩;have g3:=Hd (g2.out.trans a3 (λ_ q=>q.elim));clear a3 g2
 go_wp2_with fail
 refine(n7 _ HN.out).mono ?_;rintro e w4⟨b4,F,rfl,_,_,a3⟩;have g4:=Hd (g3.out.trans a3 (λ_ q=>q.elim));clear a3 g3
 go_wp2_with fail
 refine(n8 _ HN.out).mono ?_;rintro e w5⟨b5,F,rfl,_,_,a3⟩;have g5:=Hd (g4.out.trans a3 (λ_ q=>q.elim));clear a3 g4;rcases(by omega:k=0\/k=1\/k=2\/k=3\/k=4\/k=5)with rfl|rfl|rfl|rfl|rfl|rfl
 all_goals go_wp2
 all_goals go_returns
 all_goals first|exact⟨rfl,g5.out⟩|exact⟨rfl,g5.out.alloc _⟩
end
theorem Ab{n:Nat}{L:Nat->List OpF}{k:Nat}(h:∀i,i<n->(L i).length<=k):(FSt.new n L).total<=n*k:=by
 have e:∀j,j<=n->cQ (λi=>((FSt.new n L).cl i).ops.length) j<=j*k:=λj=>by
  induction j with
  |zero=>intro _;exact Nat.zero_le _
  |succ j ih=>
   intro hj;have h1:=ih (by omega);have h2:=h j (by omega)
   show cQ _ j+(L j).length<=_
   rw[Nat.succ_mul];omega
 exact e n (Nat.le_refl _)
theorem iV{a0 a1:Int}{n ka nc:Nat}(en:wrap64 (1+wrap64 ((IntKind.u64.wrap a0).tmod 6))=(n:Int))(hn:1<=n/\n<=6)(ea:wrap64 ((IntKind.u64.wrap a1).tmod 6)=(ka:Int))(hka:ka<6){av cv:Value}{l:List Int}{L:Nat->List OpF}(w:World)
  (ha:SlZ w av l)(hl:l.length<=100000)(hc:SlOI w cv nc L)(hnc:1<=nc/\nc<=8)(hL:∀i,i<nc->(L i).length<=40/\∀o∈L i,o.ok)(hT:dq w):
  Calls prog 17 #[.agg #[.int .i64 a0,.int .i64 a1],av,cv] w λe w'=>∃p A,p.n=n/\e=.returned (.tuple #[.pointer (some ⟨A.fb,0,none⟩),p.ptr])/\∃H,FrY p (decide (ka<5)) A 1000 (am0 12) (FSt.new nc L) w' H/\(∀i,H i->w.heap.size<=i)/\Fr NoF w w':=by
 obtain⟨aa,ac,rfl,p1,p2⟩:=SlC.shape ha;unfold maxLen at p2;have HAD:=Hd ha;have HC:=Hd hc;have HLL:=Hd hL;have HT:=Hd hT;have HN:=Hd hn;have hk6:ka<6:=hka;clear ha hc hL hT;go_enter func17,ntmps17
 go_wp2_with fail
 go_quiet (fail)
 rw[en,ea];clear en ea
 go_wp2_with fail
 have f0:Hid (Fr NoF w ((w.alloc (.cells #[.int .i64 a0,.int .i64 a1] 58)).drewN nq)):=((Fr.refl NoF w).alloc _).drewN nq;refine(Ax 12 _ (by omega) (by omega)).mono ?_;rintro e w1⟨db,FD,rfl,d1,d2,d3⟩;have D1:=Hd d1;have D2:Hid (∀i,FD i->w.heap.size<=i):=λi q=>Nat.le_trans f0.out.size (d2 i q)
 have F1:=Hd (f0.out.trans d3 (λ_ q=>q.elim));clear d1 d2 d3 f0
 go_wp2_with fail
 refine(rX ka (by omega) _ HN.out).mono ?_;rintro e w3⟨rfl,f2⟩;have F3:=Hd (F1.out.trans f2 (λ_ q=>q.elim));have D4:=Hd (D1.out.fr0 f2);clear f2 F1 D1
 go_wp2_with fail
 have HK:Hid ((min (l.length:Int) 200).toNat<=l.length/\(min (l.length:Int) 200).toNat<=200):=⟨by omega,by omega⟩;generalize(min (l.length:Int) 200).toNat=k at*;have HA2:=Hd (HAD.out.cut k HK.out.1);have hlk:(l.take k).length=k:=by rw[List.length_take];have:=HK.out.1;omega
 have hl2:(l.take k).length<=65535:=by have:=HK.out.2;omega
 generalize l.take k=L2 at*;subst hlk;clear HAD HK p1;refine(pz ka (by omega) _ HN.out (HA2.out.keep F3.out) hl2).mono ?_;rintro e w4⟨rv,rfl,FA,a1,a2,a3⟩;have F4:=Hd (F3.out.trans a3 (λ_ q=>q.elim));have HNW:=Hd (uK (n:=n) (D4.out.fr0 a3) (by omega) a1 (λi q k=>by have:=D4.out.lt i q;have:=a2 i k;omega) (HT.out.fr0 F4.out) ⟨λq=>by have:=D2.out _ q;have:=HT.out.lt;omega,λq=>by have:=a2 _ q;have:=HT.out.lt;have:=F3.out.size;omega⟩ ⟨by omega,by omega⟩ (by omega));have A2:Hid (∀i,FA i->w.heap.size<=i):=λi q=>Nat.le_trans F3.out.size (a2 i q)
 clear a1 a2 a3 HA2 D4
 go_wp2_with fail
 refine HNW.out.mono ?_;rintro e w5⟨p,k1,k2,k3,rfl,⟨F,k4,k5⟩,k6⟩;clear HNW k2 k3;have K1:=Hd k1;have F5:=Hd (F4.out.trans k6 (λ_ q=>q.elim));have HP:=Hd k4
 have HF:Hid (∀i,F i->w.heap.size<=i):=λi q=>by
  rcases k5 i q with c|c|c
  .exact D2.out i c
  .exact A2.out i c
  .have:=F4.out.size;omega
 clear k1 k4 k5 k6 D2 A2 F3 F4;unfold PP.ptr
 go_wp2_with fail
 refine(rg (HC.out.keep F5.out) hnc.2 (λi hi=>(HLL.out i hi).1)).mono ?_;rintro e w6⟨v6,rfl,c6,f6⟩;have F6:=Hd (F5.out.trans f6 (λ_ q=>q.elim));have HP6:=Hd (HP.out.fr0 f6);have htot:=Ab (n:=nc) (L:=L) (k:=40) (λi hi=>(HLL.out i hi).1);have htl:1000+100*(FSt.new nc L).total<58000:=by omega
 have H7:=Hd (by
  obtain⟨ivs,i1,i2⟩:=c6;exact GY HP6.out (by show 12<=65535;omega) i1 hnc.1 hnc.2 i2 (λi hi=>⟨by have:=(HLL.out i hi).1;omega,(HLL.out i hi).2⟩) HP6.out.lt (Nat.lt_of_lt_of_le HT.out.lt F6.out.size) (λc=>by have:=HF.out _ c;have:=HT.out.lt;omega) htl)
 clear c6 f6 HP F5 HC;unfold PP.ptr at H7
 go_wp2_with fail
 refine H7.out.mono ?_;clear H7;rintro e w7⟨A,G,rfl,k1,k2,k3,k4⟩
 have H8:Hid (∃H,FrY p (decide (ka<5)) A 1000 (am0 12) (FSt.new nc L) w7 H/\(∀i,H i->w.heap.size<=i)/\Fr NoF w w7):=⟨_,⟨G,k1,λi=>Iff.rfl⟩,λi z=>by
  have:=F6.out.size;rcases z with z|z
  .rcases k3 i z with c|c
   .exact HF.out i c
   .omega
  .have:=k4 i z;omega,F6.out.trans k2 (λ_ q=>q.elim)⟩
 clear k1 k2 k3 k4;go_wp2;go_returns;exact⟨p,A,K1.out,rfl,H8.out⟩
end
section
open Go.Maps Go.RowKit
def Be:Nat->List OpF:=λi=>if i=0 then[⟨0,0,0⟩]else[⟨3,1,0⟩]
def cT:AM:={am0 9 with ids:=[1],val:=upd (λ_=>0) 1 0,pin:=upd (λ_=>0) 1 1}
theorem DK(r:Nat):(am0 r).gap=0:=by
 exact Nat.le_zero.1 (bS ((am0 r).ids.map (λx=>(x,0)))).le
theorem A5:(am0 9).ccall 2 ⟨0,0,0⟩ (λ_=>0)=(⟨0,1,0⟩,cT,upd (λ_=>0) 1 1):=by
 have e:(am0 9).newPage 2=((1,0),cT):=by
  unfold AM.newPage;rw[if_neg (by decide),if_neg (by decide),DK];rfl
 unfold AM.ccall;rw[if_neg (by decide)];unfold AM.call;rw[if_pos rfl,e];rfl
theorem yk:cT.ccall 2 ⟨3,1,0⟩ (λ_=>0)=(⟨5,0,0⟩,cT,λ_=>0):=by
 unfold AM.ccall;rw[if_pos (by decide)];rfl
theorem kN{a b:Bool}{M0 M1 M2:AM}{S0 S1 S2:FSt}(hn:S0.n=2)(h0:S0.pick 2 M0 0=(a,M1,S1))(h1:S1.pick 2 M1 1=(b,M2,S2)):S0.round 2 M0=(a||b,M2,S2):=by
 unfold FSt.round;rw[hn];simp only[FSt.sweep,h0,h1,Bool.false_or]
def tC(d s:Nat)(p:Nat->Nat):CSt:=⟨[⟨0,0,0⟩],d,p,s⟩
def tD(d s:Nat):CSt:=⟨[⟨3,1,0⟩],d,λ_=>0,s⟩
def tS(la:Option Nat)(c0 c1:CSt)(log:List EnF):FSt:=⟨2,λi=>if i=0 then c0 else if i=1 then c1 else tD 0 1,la,log⟩
theorem Ei(la la':Option Nat)(c0 c1 c:CSt)(log log':List EnF):(⟨2,upd (tS la c0 c1 log).cl 0 c,la',log'⟩:FSt)=tS la' c c1 log':=by
 unfold tS
 congr 1
 funext i
 by_cases h:i=0
 .subst h;rw[upd_same];rfl
 .rw[ab _ _ h];simp[h]
theorem EJ(la la':Option Nat)(c0 c1 c:CSt)(log log':List EnF):(⟨2,upd (tS la c0 c1 log).cl 1 c,la',log'⟩:FSt)=tS la' c0 c log':=by
 unfold tS
 congr 1
 funext i
 by_cases h:i=1
 .subst h;rw[upd_same];rfl
 .rw[ab _ _ h];simp[h]
def tP:Nat->Nat:=upd (λ_=>0) 1 1
def tE:EnF:=⟨0,0,⟨0,0,0⟩,⟨0,1,0⟩⟩
def tF:EnF:=⟨1,0,⟨3,1,0⟩,⟨5,0,0⟩⟩
theorem FF:FSt.new 2 Be=tS none (tC 0 1 λ_=>0) (tD 0 1) []:=by
 unfold FSt.new tS
 congr 1
 funext i
 by_cases h:i=0
 .subst h;rfl
 .by_cases h1:i=1
  .subst h1;rfl
  .rw[if_neg h,if_neg h1];unfold Be;rw[if_neg h];rfl
section
variable(M:AM)(la:Option Nat)(c0 c1:CSt)(log:List EnF)
theorem Cw(h:c0.st=1):(tS none c0 c1 log).pick 2 M 0=(true,M,tS (some 0) {c0 with st:=2} c1 log):=by
 rw[<-Ei none (some 0) c0 c1 _ log log];unfold FSt.pick;rw[if_pos (show((tS none c0 c1 log).cl 0).st=1 from h)];rfl
theorem B5(h:c1.st=1):(tS none c0 c1 log).pick 2 M 1=(true,M,tS (some 1) c0 {c1 with st:=2} log):=by
 rw[<-EJ none (some 1) c0 c1 _ log log];unfold FSt.pick;rw[if_pos (show((tS none c0 c1 log).cl 1).st=1 from h)];rfl
theorem vC(x:Nat)(h:c1.st=1):(tS (some x) c0 c1 log).pick 2 M 1=(false,M,tS (some x) c0 c1 log):=by
 unfold FSt.pick;rw[if_pos (show((tS (some x) c0 c1 log).cl 1).st=1 from h)];rfl
theorem pL(h:c0.st=0):(tS la c0 c1 log).pick 2 M 0=(false,M,tS la c0 c1 log):=by
 have e:((tS la c0 c1 log).cl 0).st=0:=h;unfold FSt.pick;rw[e];rfl
theorem Ck(h:c1.st=0):(tS la c0 c1 log).pick 2 M 1=(false,M,tS la c0 c1 log):=by
 have e:((tS la c0 c1 log).cl 1).st=0:=h;unfold FSt.pick;rw[e];rfl
theorem CH(h:c0.st=3):(tS la c0 c1 log).pick 2 M 0=(true,M,tS none {c0 with st:=go1 c0.done c0.ops.length} c1 log):=by
 rw[<-Ei la none c0 c1 _ log log];have e:((tS la c0 c1 log).cl 0).st=3:=h;unfold FSt.pick;rw[e];rfl
theorem Db(h:c1.st=3):(tS la c0 c1 log).pick 2 M 1=(true,M,tS none c0 {c1 with st:=go1 c1.done c1.ops.length} log):=by
 rw[<-EJ la none c0 c1 _ log log];have e:((tS la c0 c1 log).cl 1).st=3:=h;unfold FSt.pick;rw[e];rfl
theorem GJ:(tS (some 0) (tC 0 2 λ_=>0) c1 []).pick 2 (am0 9) 0=(true,cT,tS (some 0) (tC 1 3 tP) c1 [tE]):=by
 rw[<-Ei (some 0) (some 0) (tC 0 2 λ_=>0) c1 (tC 1 3 tP) [] [tE]];have e:((tS (some 0) (tC 0 2 λ_=>0) c1 []).cl 0)=tC 0 2 λ_=>0:=rfl
 unfold FSt.pick;rw[e,if_neg (by decide),if_pos (show(tC 0 2 λ_=>0).st=2 from rfl),show(tC 0 2 λ_=>0).op=⟨0,0,0⟩from rfl,show(tC 0 2 λ_=>0).pin=λ_=>0 from rfl,A5];rfl
theorem FY:(tS (some 1) c0 (tD 0 2) [tE]).pick 2 cT 1=(true,cT,tS (some 1) c0 (tD 1 3) [tE,tF]):=by
 rw[<-EJ (some 1) (some 1) c0 (tD 0 2) (tD 1 3) [tE] [tE,tF]];have e:((tS (some 1) c0 (tD 0 2) [tE]).cl 1)=tD 0 2:=rfl;unfold FSt.pick;rw[e,if_neg (by decide),if_pos (show(tD 0 2).st=2 from rfl),show(tD 0 2).op=⟨3,1,0⟩from rfl,show(tD 0 2).pin=λ_=>0 from rfl,yk];rfl
end
theorem ip{g:Nat}{M M':AM}{S S':FSt}(h:S.round 2 M=(true,M',S')):FSt.restG 2 (g+1) M S=FSt.restG 2 g M' S':=by
 show(if(S.round 2 M).1=true then FSt.restG 2 g (S.round 2 M).2.1 (S.round 2 M).2.2 else(S.round 2 M).2)=_
 rw[h];rfl
theorem yr{g:Nat}{M M':AM}{S S':FSt}(h:S.round 2 M=(false,M',S')):FSt.restG 2 (g+1) M S=(M',S'):=by
 show(if(S.round 2 M).1=true then FSt.restG 2 g (S.round 2 M).2.1 (S.round 2 M).2.2 else(S.round 2 M).2)=_
 rw[h];rfl
theorem AL:(tS (some 0) (tC 0 2 λ_=>0) (tD 0 1) []).rest 2 (am0 9)=(cT,tS none (tC 1 0 tP) (tD 1 0) [tE,tF]):=by
 have r:(tS (some 0) (tC 0 2 λ_=>0) (tD 0 1) []).rem+1=6:=rfl;unfold FSt.rest;rw[r];have a1:=kN rfl (GJ (tD 0 1)) (vC cT (tC 1 3 tP) (tD 0 1) [tE] 0 rfl);have a2:=kN rfl (CH cT (some 0) (tC 1 3 tP) (tD 0 1) [tE] rfl) (B5 cT (tC 1 0 tP) (tD 0 1) [tE] rfl);have a3:=kN rfl (pL cT (some 1) (tC 1 0 tP) (tD 0 2) [tE] rfl) (FY (tC 1 0 tP));have a4:=kN rfl (pL cT (some 1) (tC 1 0 tP) (tD 1 3) [tE,tF] rfl) (Db cT (some 1) (tC 1 0 tP) (tD 1 3) [tE,tF] rfl);have a5:=kN rfl (pL cT none (tC 1 0 tP) (tD 1 0) [tE,tF] rfl) (Ck cT none (tC 1 0 tP) (tD 1 0) [tE,tF] rfl);exact(ip a1).trans ((ip a2).trans ((ip a3).trans ((ip a4).trans (yr a5))))
end
section
open Go.Maps Go.Proofs.Tryz Go.RowKit
theorem zj{w0 w1 w2:World}{room n db lb:Nat}{FD FA:Nat->Prop}(hd:CD db ⟨room,[],[],[],0,0,false,0⟩ 0 w1 FD)(d2:∀i,FD i->w0.heap.size<=i)(d3:Fr NoF w0 w1)(ha:AR lb w2 [] FA)(a2:∀i,FA i->w1.heap.size<=i)(a3:Fr NoF w1 w2)(ht:dq w0)(hn:1<=n/\n<=65535)(hr:room<=65535):
  Calls prog 9 #[.pointer (some ⟨db,0,none⟩),.int .i64 n,cH lb] w2 λe w'=>∃p:PP,p.n=n/\e=.returned (.tuple #[p.ptr,.int .i64 0])/\(∃F,aq p false (am0 room) 1000 w' F/\∀i,F i->w0.heap.size<=i/\i<w'.heap.size)/\Fr NoF w0 w':=by
 have htl:=ht.lt;have s1:=d3.size;refine(uK (hd.fr0 a3) (by omega) (Gy (n:=n) ha) (λi q k=>by have:=hd.lt i q;have:=a2 i k;omega) ((ht.fr0 d3).fr0 a3) ⟨λq=>by have:=d2 _ q;omega,λq=>by have:=a2 _ q;omega⟩ hn hr).mono ?_;rintro e w'⟨p,h1,h2,h3,he,⟨F,h4,h5⟩,f⟩;have s2:=a3.size;refine⟨p,h1,he,⟨F,h4,λi q=>⟨?_,h4.lt i q⟩⟩,(d3.trans a3 (λ_ z=>.inl z)).trans f (λ_ z=>.inl z)⟩;rcases h5 i q with z|z|z
 .exact d2 i z
 .have:=a2 i z;omega
 .omega
theorem rF{w:World}(hT:dq w):Calls prog 18 #[] w λe w'=>e=.returned (.bool true)/\Fr NoF w w':=by
 have HT:=Hd hT;clear hT;go_enter func18,ntmps18
 go_wp2_with fail
 refine(Ax 9 _ (by omega) (by omega)).mono ?_;rintro e w1⟨db,FD,rfl,d1,d2,d3⟩;have D1:=Hd d1;have D2:=Hd d2;have D3:=Hd d3;clear d1 d2 d3
 go_wp2_with fail
 refine(iT (v:=.slice none 0 0) (l:=[]) (SlC.nil _ _) (by show 0<=65535;omega)).mono ?_;rintro e w2⟨lb,FA,rfl,a1,a2,a3⟩;have HN:=Hd (zj (n:=2) D1.out D2.out D3.out a1 a2 a3 HT.out ⟨by omega,by omega⟩ (by omega));clear a1 a2 a3 D1 D2 D3
 go_wp2_with fail
 refine HN.out.mono ?_;clear HN;rintro e w3⟨p,hpn,rfl,h3,f3⟩;have HP:=Hd hpn;have H3:=Hd h3;have F3:=Hd f3;have HQ:Hid (p.ptr=.pointer (some ⟨p.pb,0,none⟩)):=rfl;clear hpn h3 f3;unfold PP.ptr
 go_wp2_with fail
 obtain⟨F,hA,hFl⟩:=H3.out;have s3:=F3.out.size;have htl:=HT.out.lt;have fa:Fr NoF w3 (((w3.alloc (.cells #[.int .i64 0,.int .u32 0,.int .u64 0] 50)).alloc (.cells #[.int .i64 3,.int .u32 1,.int .u64 0] 50)).alloc (.cells #[.slice (some ⟨w3.heap.size,0,none⟩) 1 1,.slice (some ⟨w3.heap.size+1,0,none⟩) 1 1] 135)):=(((Fr.refl NoF w3).alloc _).alloc _).alloc _;have sa:=fa.size;have i0:SlC w3 0 (.slice none 0 0) 0 []:=SlC.nil _ _;have o0:=((SlC.ofOwn (bo (w0:=w3) (Nat.le_refl _) #[.int .i64 0,.int .u32 0,.int .u64 0] 50 3 1 _ rfl rfl (by unfold maxLen;omega)) (by intro u hu;simp at hu;rcases hu with rfl|rfl|rfl<;>rfl)).keep ((Fr.refl NoF _).alloc (.cells #[.int .i64 3,.int .u32 1,.int .u64 0] 50))).keep ((Fr.refl NoF _).alloc (.cells #[.slice (some ⟨w3.heap.size,0,none⟩) 1 1,.slice (some ⟨w3.heap.size+1,0,none⟩) 1 1] 135));have o1:=(SlC.ofOwn (bo (w0:=w3.alloc (.cells #[.int .i64 0,.int .u32 0,.int .u64 0] 50)) (Nat.le_refl _) #[.int .i64 3,.int .u32 1,.int .u64 0] 50 3 1 (w3.heap.size+1) (by simp) rfl (by unfold maxLen;omega)) (by intro u hu;simp at hu;rcases hu with rfl|rfl|rfl<;>rfl)).keep ((Fr.refl NoF _).alloc (.cells #[.slice (some ⟨w3.heap.size,0,none⟩) 1 1,.slice (some ⟨w3.heap.size+1,0,none⟩) 1 1] 135));have oo:=SlC.ofOwn (bo (w:=(w3.alloc (.cells #[.int .i64 0,.int .u32 0,.int .u64 0] 50)).alloc (.cells #[.int .i64 3,.int .u32 1,.int .u64 0] 50)) (w0:=(w3.alloc (.cells #[.int .i64 0,.int .u32 0,.int .u64 0] 50)).alloc (.cells #[.int .i64 3,.int .u32 1,.int .u64 0] 50)) (Nat.le_refl _) #[.slice (some ⟨w3.heap.size,0,none⟩) 1 1,.slice (some ⟨w3.heap.size+1,0,none⟩) 1 1] 135 1 2 (w3.heap.size+1+1) (by simp) rfl (by unfold maxLen;omega)) (by intro u hu;simp at hu;rcases hu with rfl|rfl<;>rfl)
 have HW:=Hd (Hz (L:=Be) (hA.fr0 fa) (by show 9<=65535;omega) oo (by omega) (by omega) (λi hi=>by
  match i,hi with
  |0,_=>exact⟨_,rfl,o0⟩
  |1,_=>exact⟨_,rfl,o1⟩) (λi hi=>by
  match i,hi with
  |0,_=>exact⟨by decide,λo ho=>by obtain rfl:=List.mem_singleton.1 ho;unfold OpF.ok;simp⟩
  |1,_=>exact⟨by decide,λo ho=>by obtain rfl:=List.mem_singleton.1 ho;unfold OpF.ok;simp⟩) (λx z=>by have:=(hFl x z).2;omega) (by omega) (λz=>by have:=(hFl _ z).1;omega) (by show 1000+100*2<58000;omega))
 rw[HQ.out]at HW;have FZ:=Hd (F3.out.trans fa (λ_ z=>.inl z));have GZ:Hid (∀x,F x->w.heap.size<=x):=Hd (λx z=>(hFl x z).1);clear oo o0 o1 i0 fa hA hFl H3 HQ;refine HW.out.mono ?_;clear HW;rintro e w4⟨A,G,rfl,k1,k2,k3⟩;have F4:=Hd (FZ.out.trans k2 (λ_ z=>.inl z))
 have G4:Hid (∀x,G x->w.heap.size<=x):=Hd (λx z=>by
  rcases k3 x z with y|y
  .exact GZ.out x y
  .have:=FZ.out.size;omega)
 clear k2 k3 FZ GZ sa s3;rw[FF]at k1;have hn:=HP.out;have X1:=wi (k:=0) k1 (by omega);rw[hn,show whoF 0 (tS none (tC 0 1 λ_=>0) (tD 0 1) []).n=0 from rfl,Cw (am0 9) (tC 0 1 λ_=>0) (tD 0 1) [] rfl]at X1;have X1:=Hd X1;clear k1
 go_wp2_with fail
 refine X1.out.mono ?_;clear X1;rintro e w5⟨rfl,G5,k1,f5,g5⟩;have F5:=Hd (F4.out.trans f5 (λx z=>.inr (G4.out x z)));have G6:Hid (∀x,G5 x->w.heap.size<=x):=Hd (λx z=>(g5 x z).elim (G4.out x) (λy=>by have:=F4.out.size;omega));have X1:=wi (k:=1) k1 (by omega);rw[hn,show whoF 1 (tS (some 0) {(tC 0 1 λ_=>0)with st:=2} (tD 0 1) []).n=1 from rfl,vC (am0 9) _ (tD 0 1) [] 0 rfl]at X1;have X1:=Hd X1;clear k1 f5 g5 F4 G4
 go_wp2_with fail
 refine X1.out.mono ?_;clear X1;rintro e w6⟨rfl,G7,k1,f5,g5⟩;have F6:=Hd (F5.out.trans f5 (λx z=>.inr (G6.out x z)));have G8:Hid (∀x,G7 x->w.heap.size<=x):=Hd (λx z=>(g5 x z).elim (G6.out x) (λy=>by have:=F5.out.size;omega));have X1:=DV k1 (by omega);rw[hn,show(tS (some 0) {(tC 0 1 λ_=>0)with st:=2} (tD 0 1) []).rest 2 (am0 9)=_ from AL]at X1;have X1:=Hd X1;clear k1 f5 g5 F5 G6
 go_wp2_with fail
 refine X1.out.mono ?_;clear X1;rintro e w7⟨rfl,G9,k1,f5,g5⟩;have F7:=Hd (F6.out.trans f5 (λx z=>.inr (G8.out x z)));have X1:=Hd (EG k1);clear k1 f5 g5 F6 G8
 go_wp2_with fail
 refine X1.out.mono ?_;clear X1;rintro e w8⟨v',rfl,l1,k1,f5⟩;have F8:=Hd (F7.out.trans f5 (λx z=>z.elim));have one:∀u∈logC [tE,tF],u.oneCell'=true:=dS _;have l2:=SlC.ofOwn l1 one;obtain⟨b1,o1,c1,rfl,-,-,hb1,g1⟩:=l2.at (k:=0) (by show 0<2;omega) (by omega);have q6:=g1 6 (.int .u32 1) rfl;have q8:=g1 8 (.int .i64 1) rfl;have q13:=g1 13 (.int .i64 5) rfl;have X1:=Hd (Fn (c:=0) (id:=1) k1 (by omega));rw[show(tS none (tC 1 0 tP) (tD 1 0) [tE,tF]).log.length=2 from rfl];rw[show(tS none (tC 1 0 tP) (tD 1 0) [tE,tF]).holds 0 1=1 from rfl]at X1;clear k1 f5 l1 l2 one g1 F7
 go_wp2_with fail
 refine X1.out.mono ?_;clear X1;rintro e w9⟨rfl,k9,f9⟩;have F9:=Hd (F8.out.trans f9 (λx z=>z.elim));have X3:=Ev k9;rw[show(tS none (tC 1 0 tP) (tD 1 0) [tE,tF]).latch= -1 from rfl]at X3;have X3:=Hd X3;clear k9 f9 F8
 go_wp2_with fail
 refine X3.out.mono ?_;clear X3;rintro e w10⟨rfl,rfl⟩;go_wp2;go_returns;exact⟨rfl,F9.out⟩
theorem rW(l:List EnF){k r:Nat}(hk:k<l.length)(hr:r<8):(logC l)[k*8+r]?=l[k].cells[r]?:=by
 induction l generalizing k with
 |nil=>simp at hk
 |cons x l ih=>
  have e:x.cells.length=8:=rfl
  show(x.cells++logC l)[k*8+r]?=_
  cases k with
  |zero=>rw[List.getElem?_append_left (by omega)];simp
  |succ k=>
   rw[List.getElem?_append_right (by omega),show(k+1)*8+r-x.cells.length=k*8+r by omega];exact ih (by simpa using hk)
theorem Gq(n:Nat):1<=jH n/\jH n<=8:=by unfold jH;split<;>omega
theorem GM{n:Nat}{L:Nat->List OpF}(h:∀i,i<n->∀o∈L i,o.ok):∀i,i<jH n->(fewL n L i).length<=40/\∀o∈fewL n L i,o.ok:=by
 intro i hi;unfold jH at hi;unfold fewL;by_cases e:n=0
 .rw[if_pos e]
  refine⟨by simp,λo ho=>?_⟩;simp at ho;subst ho;exact⟨by decide,by decide,by decide,by decide⟩
 .rw[if_neg e]at hi⊢
  exact⟨by rw[List.length_take];omega,λo ho=>h i (by omega) o (List.mem_of_mem_take ho)⟩
theorem xg(a0 a1 a2:Int)(cv pv:Value)(nc:Nat)(L:Nat->List OpF)(ks:List Int)(w:World)(hc:SlOI w cv nc L)(hok:∀i,i<nc->∀o∈L i,o.ok)(hp:SlZ w pv ks)(hT:dq w):Calls prog 5 #[.agg #[.int .i64 a0,.int .i64 a1,.int .i64 a2],cv,pv] w λe w'=>e=.returned (.bool true)/\Fr NoF w w':=by
 obtain⟨pa,pc,rfl,p1,p2⟩:=SlC.shape hp;unfold maxLen at p2;have HC:=Hd hc;have HP:=Hd hp;have HT:=Hd hT;have HNF:=Gq nc;have HLF:=Hd (GM hok);clear hc hp hT hok;obtain⟨n,hn1,hn2,en⟩:=Gi a0 (k:=6) (by decide) (by decide);obtain⟨ka,hka,ea⟩:=Fp a1 (k:=6) (by decide) (by decide);obtain⟨kb,hkb,eb⟩:=Fp a2 (k:=6) (by decide) (by decide);have EN:=Hd en;have EA:=Hd ea;have EB:=Hd eb;have HN:Hid (1<=n/\n<=6):=⟨by omega,by omega⟩;clear en ea eb;go_enter func5,ntmps5
 go_wp2_with fail
 have f0:Hid (Fr NoF w (w.alloc (.cells #[.int .i64 a0,.int .i64 a1,.int .i64 a2] 22))):=(Fr.refl NoF w).alloc _
 have B0:Hid (Blk (w.alloc (.cells #[.int .i64 a0,.int .i64 a1,.int .i64 a2] 22)) w.heap.size 3 (λi=>match i with|0=>.int .i64 a0|1=>.int .i64 a1|_=>.int .i64 a2)):=Blk.new _ _ _ _ _ _ rfl rfl (λi hi=>by
  match i,hi with
  |0,_=>rfl
  |1,_=>rfl
  |2,_=>rfl)
 refine(ya (HC.out.keep f0.out)).mono ?_;rintro e w1⟨v1,rfl,c1,f1⟩;have C1:=Hd c1;have F1:=Hd (f0.out.trans f1 (λ_ q=>q.elim));have B1:=Hd (B0.out.fr f1 id);clear c1 f1 f0 B0 HC;have hb1:=B1.out.lt;have x0:=B1.out.cell (i:=0) (by omega);have x1:=B1.out.cell (i:=1) (by omega);simp only at x0 x1
 go_wp2_with fail
 refine(iV EN.out HN.out EA.out (by omega) _ (l:=[]) (SlC.nil _ _) (Nat.zero_le _) C1.out HNF HLF.out (HT.out.fr0 F1.out)).mono ?_;rintro e w2⟨q1,A1,k1,rfl,H1,y1,z1,f1⟩;have K1:=Hd k1;have Y1:=Hd y1;have Z1:=Hd z1;have F2:=Hd (F1.out.trans f1 (λ_ q=>q.elim));have B2:=Hd (B1.out.fr f1 id);have C2:=Hd (C1.out.keep f1);have hb2:=B2.out.lt;have x2:=B2.out.cell (i:=0) (by omega);have x3:=B2.out.cell (i:=2) (by omega);simp only at x2 x3;clear k1 y1 z1 f1 B1 C1 x0 x1;unfold PP.ptr
 go_wp2_with fail
 refine(iV EN.out HN.out EB.out (by omega) _ (l:=[]) (SlC.nil _ _) (Nat.zero_le _) C2.out HNF HLF.out (HT.out.fr0 F2.out)).mono ?_;rintro e w3⟨q2,A2,k1,rfl,H2,y2,z2,f2⟩;have K2:=Hd k1
 have D3:Hid (Duo (FrY q1 (decide (ka<5)) A1 1000 (am0 12) (FSt.new (jH nc) (fewL nc L))) (FrY q2 (decide (kb<5)) A2 1000 (am0 12) (FSt.new (jH nc) (fewL nc L))) w w3):=
  ⟨HT.out.lt,H1,H2,gq.fro Y1.out f2 (λ_ _ q=>q) (λq=>q),y2,λi s t=>by have:=gq.lt Y1.out i s;have:=z2 i t;omega,λi s=>by
   have:=F1.out.size;have:=F2.out.size;rcases s with s|s
   .have:=Z1.out i s;omega
   .have:=z2 i s;omega,F2.out.trans f2 (λ_ q=>q.elim)⟩
 clear k1 y2 z2 f2 B2 C2 x2 x3 Y1 Z1 F1 F2;unfold PP.ptr
 go_wp2_with fail
 refine(rF (HT.out.fr0 D3.out.fin)).mono ?_;rintro e w4⟨rfl,f4⟩;have D4:=Hd (D3.out.frm gq gq f4);clear f4 D3
 go_wp2_with fail
 have HK:Hid ((min (ks.length:Int) 600).toNat<=ks.length/\(min (ks.length:Int) 600).toNat<=600):=⟨by omega,by omega⟩;generalize(min (ks.length:Int) 600).toNat=k at*;have HP2:=Hd (HP.out.cut k HK.out.1);have hlk:(ks.take k).length=k:=by rw[List.length_take];have:=HK.out.1;omega
 have hl2:(ks.take k).length<=100000:=by have:=HK.out.2;omega
 generalize ks.take k=K at*;subst hlk;have HPO:Hid (∀j,(Value.slice pa K.length pc).ownBlock=some j->j<w.heap.size):=SlC.lt HP2.out;clear HK HP p1;refine(D4.out.leftB (Q:=λe=>e=.returned (.tuple #[])) gq (λH y z=>Hb y (by rw[K1.out];omega) (HP2.out.keep D4.out.fin) hl2 (λj e c=>by have:=HPO.out j e;have:=z j c;omega))).mono ?_;rintro e w5⟨rfl,d5⟩;have D5:=Hd d5;clear d5 D4
 go_wp2_with fail
 refine(D5.out.rightB (Q:=λe=>e=.returned (.tuple #[])) gq (λH y z=>Hb y (by rw[K2.out];omega) (HP2.out.keep D5.out.fin) hl2 (λj e c=>by have:=HPO.out j e;have:=z j c;omega))).mono ?_;rintro e w6⟨rfl,d6⟩;have D6:=Hd d6;clear d6 D5
 go_wp2_with fail
 refine(D6.out.left (Q:=λe=>e=.returned (.tuple #[])) gq (λH y=>Ed y (by rw[K1.out];omega))).mono ?_;rintro e w7⟨rfl,d7⟩;have D7:=Hd d7;clear d7 D6
 go_wp2_with fail
 refine(D7.out.right (Q:=λe=>e=.returned (.tuple #[])) gq (λH y=>Ed y (by rw[K2.out];omega))).mono ?_;rintro e w8⟨rfl,d8⟩;rw[K1.out,K2.out]at d8;generalize(FSt.rest n (FSt.run n (am0 12) (FSt.new (jH nc) (fewL nc L)) K).1 (FSt.run n (am0 12) (FSt.new (jH nc) (fewL nc L)) K).2)=R at d8;obtain⟨M,S⟩:=R;obtain⟨_,G1,G2,⟨g1,u1,_⟩,⟨g2,u2,_⟩,_,_,f8⟩:=d8;have U1:=Hd u1;have U2:=Hd u2;have F8:=Hd f8;clear u1 u2 f8 D7
 go_wp2_with fail
 refine(EG U1.out).mono ?_;rintro e w9⟨l1,rfl,m1,_,f9⟩;have M1:=Hd m1;have F9:=Hd (F8.out.trans f9 (λ_ q=>q.elim));have U3:=Hd (U2.out.fr0 f9);clear m1 f9 U1 U2 F8
 go_wp2_with fail
 refine(EG U3.out).mono ?_;rintro e w10⟨l2,rfl,m2,_,f10⟩;have hsl:=U3.out.few;have htl:=U3.out.2.2;have S1:=Hd (SlC.ofOwn (am M1.out f10 (λ_ _ q=>q)) (dS _));have S2:=Hd (SlC.ofOwn m2 (dS _));have F10:=Hd (F9.out.trans f10 (λ_ q=>q.elim));have hX:S.log.length<=1000:=by omega
 clear m2 f10 U3 F9 M1 hsl htl;generalize S.log=X at*;obtain⟨b1,e1,rfl,r1,r2⟩:=S1.out.shape;obtain⟨b2,e2,rfl,r3,r4⟩:=S2.out.shape;unfold maxLen at r2 r4
 go_wp2_with fail
 obtain⟨wo,ewo⟩:∃x,x=w10:=⟨w10,rfl⟩;subst ewo
 go_loopw [13] (λi wq=>∃j:Nat,j<=X.length/\i=.int .i64 j/\Fr NoF wo wq) (λi _=>X.length-(intOf i).toNat)
 case atStart=>exact⟨0,Nat.zero_le _,rfl,Fr.refl _ _⟩
 case round=>
  obtain⟨j,hj,rfl,hf⟩:=hrel;have HFQ:=Hd hf;by_cases hlt:j<X.length
  .obtain⟨g1,o1,c1,e1,_,_,l1,y1⟩:=(S1.out.keep hf).at hlt (by omega)
   simp only[Value.slice.injEq]at e1;obtain⟨rfl,_,rfl⟩:=e1;obtain⟨g2,o2,c2,e2,_,_,l2,y2⟩:=(S2.out.keep hf).at hlt (by omega);simp only[Value.slice.injEq]at e2;obtain⟨rfl,_,rfl⟩:=e2;have hg:∀r u,r<8->X[j].cells[r]?=some u->wr.cell? ⟨g1,o1+(j*8+r),none⟩=some u/\wr.cell? ⟨g2,o2+(j*8+r),none⟩=some u:=λr u hr he=>⟨y1 _ _ (by rw[rW X hlt hr];exact he),y2 _ _ (by rw[rW X hlt hr];exact he)⟩
   clear y1 y2 hf;generalize X[j]=x at hg;obtain⟨xc,xi,⟨ok,oi,ov⟩,⟨ae,ai,av⟩⟩:=x;have p0:wr.cell? ⟨g1,o1+j*8,none⟩=_:=(hg 0 _ (by omega) rfl).1;have p1:wr.cell? ⟨g1,o1+j*8+1,none⟩=_:=(hg 1 _ (by omega) rfl).1;have p2:wr.cell? ⟨g1,o1+j*8+2,none⟩=_:=(hg 2 _ (by omega) rfl).1;have p3:wr.cell? ⟨g1,o1+j*8+3,none⟩=_:=(hg 3 _ (by omega) rfl).1;have p4:wr.cell? ⟨g1,o1+j*8+4,none⟩=_:=(hg 4 _ (by omega) rfl).1;have p5:wr.cell? ⟨g1,o1+j*8+5,none⟩=_:=(hg 5 _ (by omega) rfl).1;have p6:wr.cell? ⟨g1,o1+j*8+6,none⟩=_:=(hg 6 _ (by omega) rfl).1;have p7:wr.cell? ⟨g1,o1+j*8+7,none⟩=_:=(hg 7 _ (by omega) rfl).1;have q0:wr.cell? ⟨g2,o2+j*8,none⟩=_:=(hg 0 _ (by omega) rfl).2;have q1:wr.cell? ⟨g2,o2+j*8+1,none⟩=_:=(hg 1 _ (by omega) rfl).2;have q2:wr.cell? ⟨g2,o2+j*8+2,none⟩=_:=(hg 2 _ (by omega) rfl).2;have q3:wr.cell? ⟨g2,o2+j*8+3,none⟩=_:=(hg 3 _ (by omega) rfl).2;have q4:wr.cell? ⟨g2,o2+j*8+4,none⟩=_:=(hg 4 _ (by omega) rfl).2;have q5:wr.cell? ⟨g2,o2+j*8+5,none⟩=_:=(hg 5 _ (by omega) rfl).2;have q6:wr.cell? ⟨g2,o2+j*8+6,none⟩=_:=(hg 6 _ (by omega) rfl).2;have q7:wr.cell? ⟨g2,o2+j*8+7,none⟩=_:=(hg 7 _ (by omega) rfl).2;clear hg
   go_wp2_with fail
   go_quiet (fail)
   go_wp2
   go_roundw
   case rel=>exact⟨j+1,by omega,by go_num,HFQ.out.drewN _⟩
   case measure=>simp[intOf];omega
  .obtain rfl:j=X.length:=by omega
   clear hf;go_wp2;go_returns;exact⟨rfl,F10.out.trans HFQ.out (λ_ q=>.inl q)⟩
end
section
open Go.ChangeAt Go.ChangeShapes Go.Proofs.Tryz Go.RowKit Go.WideShapes
def BS:List Int:=Lib.deBruijn64tab.map λ(n:Nat)=>(n:Int)
theorem GI:prog.globalNamed "math/bits.deBruijn64tab" =some 0:=by kernel_rfl
theorem Dc{W:World}(h:laidMet prog [("math/bits.deBruijn64tab",Lib.tabData .u8 BS)] W):dq W:=by
 have h1:=Lib.tabIs_of_head (t:=248) (e:=5) (n:=64) GI (by kernel_rfl) underlying248 underlying5 (by kernel_rfl) (by kernel_rfl) h;refine⟨λj hj=>?_⟩;have h2:=h1.cell GI j (by simpa[BS]using hj);rw[h2]
 congr 2
 unfold BS;rw[List.getD_eq_getElem?_getD,List.getElem?_map,List.getD_eq_getElem?_getD];have:j<Lib.deBruijn64tab.length:=hj;simp[List.getElem?_eq_getElem this]
noncomputable def qN(os:Os):World:=
 let w0:=World.holding prog os ⟨#[],#[],[]⟩
 {w0 with heap:=w0.heap.modify 0 fun
   |.cells _ t frozen=>.cells (BS.map λz=>Value.int .u8 z).toArray t frozen
   |o=>o}
theorem DM(os:Os)(args:Array Value):laidMet prog [("math/bits.deBruijn64tab",Lib.tabData .u8 BS)] ((qN os).forCall (λ_ _=>0) ⟨#[],args,[]⟩).memory:=
 laidMet_of_run' 8 (by kernel_rfl) (by kernel_rfl)
theorem Ir:ownKnob prog.godebug=none:=by kernel_rfl
theorem qT:laidOutB prog=true:=by kernel_rfl
theorem Fq{α:Type}(l:List α)(h:(⟨l⟩:Array α).size=3):∃a b c,l=[a,b,c]:=by
 match l,h with
 |[a,b,c],_=>exact⟨a,b,c,rfl⟩
theorem vq:prog.cellsOf 52=3:=by kernel_rfl
theorem ku:prog.cellsOf 3=1:=by kernel_rfl
theorem Dm:prog.cellsOf 42=1:=by kernel_rfl
theorem Du:prog.cellsOf 25=1:=by kernel_rfl
theorem Fz{H:Type}{enc:TypeId×Value->H}{P:Program}{w:World}{base:Nat}{spare:Nat->Bool}{held:Bool}{t:TypeId}{f0 f1 f2:Field}{fuel:Nat}{cs:List Value}{x:DataW H×List MemPlace}(ht:P.underlying t=some (.struct #[f0,f1,f2]))(h:DataW.trod enc P w base spare held fuel t cs=some x):
  ∃y0 y1 y2 n,x=(.agg [y0.1,y1.1,y2.1],y0.2++(y1.2++y2.2))/\DataW.trod enc P w base spare held n f0.type ((cs.drop f0.offset).take (P.cellsOf f0.type))=some y0/\
   DataW.trod enc P w base spare held n f1.type ((cs.drop f1.offset).take (P.cellsOf f1.type))=some y1/\DataW.trod enc P w base spare held n f2.type ((cs.drop f2.offset).take (P.cellsOf f2.type))=some y2:=by
 obtain⟨xs,n,_,rfl,hl,hlen,hf⟩:=DataW.trod_struct ht h
 match xs,hlen with
 |[y0,y1,y2],_=>exact⟨y0,y1,y2,n,by simp,by simpa using hf 0 f0 rfl,by simpa using hf 1 f1 rfl,by simpa using hf 2 f2 rfl⟩
end
end Go.Proofs.YtkjhnllcphidpaaGreatDoor
