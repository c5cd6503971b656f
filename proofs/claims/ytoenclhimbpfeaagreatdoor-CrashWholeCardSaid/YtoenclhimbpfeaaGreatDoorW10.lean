/- Part 10. -/
import Derived.Test.YtoenclhimbpfeaaGreatDoorW09
namespace Go.Proofs.YtoenclhimbpfeaaGreatDoor
set_option linter.all false
set_option maxHeartbeats 16000000
set_option maxRecDepth 100000
section
open Go.Maps Go.Proofs.Tryz Go.RowKit
def mj(R:Nat->Option (Int×Int))(Fa Fb:Nat->Bool)(until':Int):Prop:=∀x a b,R x=some (a,b)->(Fb x=true↔(Fa x=true\/b<=until'))
def i5(R:Nat->Option (Int×Int))(Fa Fb:Nat->Bool)(until':Int):Prop:=∀x a b,R x=some (a,b)->((Fa x=true->Fb x=true)/\(Fb x=true->(Fa x=true\/b<=until')))
theorem i5.refl(R:Nat->Option (Int×Int))(Fa:Nat->Bool)(u:Int):i5 R Fa Fa u:=λx a b _=>⟨λq=>q,λq=>.inl q⟩
theorem i5.step{R:Nat->Option (Int×Int)}{Fa Fb:Nat->Bool}{u:Int}(h:i5 R Fa Fb u){x:Nat}{a b:Int}(hx:R x=some (a,b))(hb:b<=u):i5 R Fa (updB1 Fb x true) u:=by
 intro z c d hz;by_cases e:z=x
 .subst e
  rw[hx]at hz
  injection hz with hz
  injection hz with h1 h2
  subst h1;subst h2;rw[gZ];exact⟨λ_=>rfl,λ_=>.inr hb⟩
 .rw[fG _ _ e]
  exact h z c d hz
theorem i5.done{R:Nat->Option (Int×Int)}{Fa Fb:Nat->Bool}{u:Int}(h:i5 R Fa Fb u)(hl:∀z c d,freshK R Fb z=some (c,d)->u<d):mj R Fa Fb u:=by
 intro x a b hx;refine⟨(h x a b hx).2,λq=>?_⟩;rcases q with q|q
 .exact(h x a b hx).1 q
 .cases e:Fb x with
  |true=>rfl
  |false=>
   have:=hl x a b (by unfold freshK;rw[e];exact hx);omega
theorem sQ{R:Nat->Option (Int×Int)}{Fa:Nat->Bool}{x:Nat}{p:Int×Int}(hx:R x=some p):updKK (farK (updKK R x none) Fa) x (some p)=farK R (updB1 Fa x true):=by
 funext z;unfold updKK farK updB1
 by_cases e:z=x
 .subst e;simp[hx]
 .simp[e]
theorem io{R:Nat->Option (Int×Int)}{Fa:Nat->Bool}{x:Nat}:freshK (updKK R x none) Fa=freshK R (updB1 Fa x true):=by
 funext z;unfold updKK freshK updB1
 by_cases e:z=x
 .subst e;simp
 .simp[e]
theorem qu{R:Nat->Option (Int×Int)}{Fa:Nat->Bool}{x:Nat}:bP (updKK R x none) Fa=bP R (updB1 Fa x true):=by
 funext z;unfold bP;rw[io]
section
variable{w w':World}{lb t:Nat}{R:Nat->Option (Int×Int)}{Fa:Nat->Bool}{q1 q2 q3 nf nr:Nat}{F F1 F2 F3:Nat->Prop}
theorem CAt.moved{x:Nat}{p:Int×Int}(hx:R x=some p){nf' nr' nf2:Nat}(h:CAt w lb (updKK R x none) Fa q1 q2 q3 nf' nr' F1 F2 F3){F1':Nat->Prop}(h1:QK w' q1 (updKK (farK (updKK R x none) Fa) x (some p)) nf2 F1')(f:Fr F1 w w')(hF:∀i,F1' i->F1 i\/w.heap.size<=i)(ok:∀x a b,R x=some (a,b)->i64 a/\i64 b/\okN x):CAt w' lb R (updB1 Fa x true) q1 q2 q3 nf2 nr' F1' F2 F3:=by
 refine⟨?_,?_,?_,Nat.lt_of_lt_of_le h.lt f.size,?_,?_,?_,λi q q'=>?_,λi q q'=>?_,h.d23,λq=>?_,h.n2,h.n3,ok⟩
 .rw[f.cell (p:=⟨lb,6,none⟩) h.lt h.n1];exact h.p6
 .rw[f.cell (p:=⟨lb,7,none⟩) h.lt h.n1];exact h.p7
 .rw[f.cell (p:=⟨lb,8,none⟩) h.lt h.n1];exact h.p8
 .rw[<-sQ hx];exact h1
 .rw[<-io];exact h.h2.fr f (λi q q'=>h.d12 i q' q)
 .rw[<-qu];exact h.h3.fr f (λi q q'=>h.d13 i q' q)
 .exact(hF i q).elim (λz=>h.d12 i z q') (λz=>by have:=h.h2.lt i q';omega)
 .exact(hF i q).elim (λz=>h.d13 i z q') (λz=>by have:=h.h3.lt i q';omega)
 .exact(hF _ q).elim h.n1 (λz=>by have:=h.lt;omega)
theorem tu{z:Nat}{c d:Int}(h:freshK R Fa z=some (c,d)):bP R Fa z=some (d,0):=by unfold bP;rw[h];rfl
theorem rY{z:Nat}{c d:Int}(h:bP R Fa z=some (c,d)):∃e,freshK R Fa z=some (e,c)/\d=0:=by
 unfold bP at h
 cases e:freshK R Fa z with
 |none=>rw[e]at h;cases h
 |some p=>
  rw[e]at h
  injection h with h
  injection h with h1 h2
  exact⟨p.1,by rw[<-h1],h2.symm⟩
theorem ud{z:Nat}{c d:Int}(h:freshK R Fa z=some (c,d)):Fa z=false/\R z=some (c,d):=by
 unfold freshK at h
 cases e:Fa z with
 |true=>rw[e]at h;cases h
 |false=>rw[e]at h;exact⟨rfl,h⟩
theorem EE(h:CAt w lb R Fa q1 q2 q3 nf nr F1 F2 F3)(ht:nf+nr<900000)(u:Int):Calls prog 199 #[.pointer (some ⟨lb,6,none⟩),.int .i64 u] w λe w'=>e=.returned (.tuple #[])/\∃Fb nf' nr' F1',CAt w' lb R Fb q1 q2 q3 nf' nr' F1' F2 F3/\nf'+nr'=nf+nr/\mj R Fa Fb u/\Fr (λi=>F1 i\/F2 i\/F3 i) w w'/\∀i,F1' i->F1 i\/w.heap.size<=i:=by
 have HC:=Hd h;clear h;go_enter func199,ntmps199
 go_wp2_with fail
 go_loopg [] nr (λg wr=>∃Fb nf' F1',CAt wr lb R Fb q1 q2 q3 nf' g F1' F2 F3/\nf'+g=nf+nr/\i5 R Fa Fb u/\Fr (λi=>F1 i\/F2 i\/F3 i) w wr/\∀i,F1' i->F1 i\/w.heap.size<=i)
 case atStart=>exact⟨Fa,nf,F1,HC.out,rfl,i5.refl _ _ _,Fr.refl _ _,λi q=>.inl q⟩
 case round=>
  obtain⟨Fb,nf',F1',hc,hn,hag,hf,hF1⟩:=hrel;have HK:=Hd hc;have HN:=Hd hn;have HAG:=Hd hag;have HFR:=Hd hf;have HF1:=Hd hF1;have p8:=hc.p8;have p7:=hc.p7;have lt:=hc.lt;by_cases h0:gk=0
  .subst h0
   have HL:=Hd (jN hc.h3);have HO:=Hd (vw hc.h2 (x:=0) (show(0:Nat)<4294967296 by omega))
   have hend:mj R Fa Fb u:=hag.done (λz c d q=>by
    have:=hc.h2.zero z;rw[this]at q
    cases q)
   have HE:=Hd hend;clear hc hn hag hf hF1 hend
   go_wp2_with fail
   refine HL.out.mono ?_;rintro e w1⟨rfl,rfl⟩
   go_wp2_with fail
   refine HO.out.mono ?_;rintro e w1⟨rfl,f1⟩;have HF2:=Hd f1;clear f1;go_wp2;go_returns;exact⟨rfl,Fb,nf',0,F1',HK.out.fr0 (HF2.out.alloc _),HN.out,HE.out,HFR.out.trans (HF2.out.alloc _) (λ_ q=>q.elim),HF1.out⟩
  .obtain⟨x,hl,HL⟩:=i7 hc.h3 (by omega)
   obtain⟨tb,t0,htx,hmin⟩:=hl;obtain⟨ra,hfx,rfl⟩:=rY htx;obtain⟨hFx,hRx⟩:=ud hfx;obtain⟨iA,iB,hx⟩:=hc.ok x ra tb hRx;have HO:=Hd (vw hc.h2 hx);rw[hfx]at HO;simp only[Option.getD_some,Option.isSome_some]at HO;have HX:=Hd hx;have HRX:=Hd hRx;have HFX:=Hd hFx;have HFR2:=Hd hfx;have HIA:=Hd iA;have HIB:=Hd iB;have HMIN:=Hd hmin;by_cases hb:u<tb
   .have hend:mj R Fa Fb u:=hag.done (λz c d q=>by
     rcases hmin z d 0 (tu q)with h|⟨h,_⟩<;>omega)
    have HE:=Hd hend;clear hc hn hag hf hF1 hend hx hRx hFx hfx iA iB hmin htx
    go_wp2_with fail
    refine(HL.out _ (Fr.refl _ _)).mono ?_;rintro e w1⟨rfl,rfl⟩
    go_wp2_with fail
    refine HO.out.mono ?_;rintro e w1⟨rfl,f1⟩;have HF2:=Hd f1;clear f1;go_wp2;go_returns;exact⟨rfl,Fb,nf',gk,F1',HK.out.fr0 (HF2.out.alloc _),HN.out,HE.out,HFR.out.trans (HF2.out.alloc _) (λ_ q=>q.elim),HF1.out⟩
   .have HB:=Hd hb
    have hd:decide (u<tb)=false:=by simpa using hb
    clear hc hn hag hf hF1 hx hRx hFx hfx iA iB hmin htx hb
    go_wp2_with fail
    refine(HL.out _ (Fr.refl _ _)).mono ?_;rintro e w1⟨rfl,rfl⟩
    go_wp2_with fail
    refine HO.out.mono ?_;rintro e w1⟨rfl,f1⟩;have HF2:=Hd f1;clear f1
    go_wp2_with fail
    have fA:Fr NoF wr (w1.alloc (.cells #[.int .i64 ra,.int .i64 tb] 265)):=HF2.out.alloc _
    have bA:Blk (w1.alloc (.cells #[.int .i64 ra,.int .i64 tb] 265)) w1.heap.size 2 (λi=>if i=0 then .int .i64 ra else .int .i64 tb):=Blk.new w1 _ 265 2 _ _ rfl rfl (λi hi=>by
     match i,hi with
     |0,_=>rfl
     |1,_=>rfl)
    have HFA:=Hd fA;have HBA:=Hd bA;have HKA:=Hd (HK.out.fr0 fA);have hwr:=HF2.out.size;clear fA bA HF2;generalize w1.heap.size=kb at*;generalize w1.alloc (.cells #[.int .i64 ra,.int .i64 tb] 265)=wA at*;refine(us HKA.out HX.out).mono ?_;rintro e w2⟨rfl,hc2,f2⟩;have nK:¬(F1' kb\/F2 kb\/F3 kb):=λq=>q.elim (λq=>by have:=HK.out.h1.lt _ q;omega) (λq=>q.elim (λq=>by have:=HK.out.h2.lt _ q;omega) (λq=>by have:=HK.out.h3.lt _ q;omega))
    have hb2:=HBA.out.fr f2 nK;have k0:w2.cell? ⟨kb,0,none⟩=some (.int .i64 ra):=hb2.cell (i:=0) (by omega);have k1:w2.cell? ⟨kb,1,none⟩=some (.int .i64 tb):=hb2.cell (i:=1) (by omega);have lk:=hb2.lt;have p6:=hc2.p6;have lt2:=hc2.lt
    have hnf:lessN nf' (farK R Fb x).isSome=nf':=by
     have e:farK R Fb x=none:=by unfold farK;rw[HFX.out];rfl
     rw[e];rfl
    have hnr:lessN gk (freshK R Fb x).isSome=gk-1:=by rw[HFR2.out];rfl
    rw[hnf,hnr]at hc2;have e0:(farK (updKK R x none) Fb x).isSome=false:=by unfold farK;rw[az];split<;>rfl
    have HP:=oH (hc2.h1.fr0 (Fr.refl NoF w2).drew) HX.out HIA.out HIB.out (by have:=HN.out;omega);rw[e0]at HP;have HP:=Hd HP;have HC2:=Hd hc2;have HF3:=Hd f2;clear hc2 f2 hb2 p7 p8 e0 hnf hnr nK
    go_wp2_with fail
    go_still_tail 6,(by kernel_rfl)
    go_wp2_with fail
    refine HP.out.mono ?_;rintro e w3⟨rfl,F1n,h3,f3,hF3⟩;have f23:Fr F1' w2 w3:=((Fr.refl F1' w2).drew).trans f3 (λ_ q=>.inl q);have hk3:=HC2.out.moved HRX.out h3 f23 hF3 HK.out.ok;have HK3:=Hd hk3;have HF4:=Hd f23;have HG3:=Hd hF3;clear h3 f3 f23 hF3 hk3 k0 k1;go_wp2
    go_roundg (gk-1)
    case rel=>
     have hw2:w.heap.size<=w2.heap.size:=Nat.le_trans HFR.out.size (Nat.le_trans HFA.out.size HF3.out.size);have g1:∀i,F1' i->F1 i\/w.heap.size<=i:=HF1.out;have g3:∀i,F1n i->F1' i\/w2.heap.size<=i:=HG3.out;refine⟨_,_,F1n,HK3.out,?_,HAG.out.step HRX.out (by have:=HB.out;omega),?_,λi q=>?_⟩
     .show dM nf' false+(gk-1)=nf+nr
      have:=HN.out;have:dM nf' false=nf'+1:=rfl;omega
     .have fA:Fr (λi=>F1' i\/F2 i\/F3 i) wr w3:=((HFA.out.mono (λ_ q=>q.elim)).trans HF3.out (λ_ q=>.inl q)).trans HF4.out (λ_ q=>.inl (.inl q))
      refine HFR.out.trans fA (λi q=>?_);rcases q with q|q|q
      .exact(g1 i q).elim (λz=>.inl (.inl z)) (λz=>.inr z)
      .exact .inl (.inr (.inl q))
      .exact .inl (.inr (.inr q))
     .exact(g3 i q).elim (g1 i) (λz=>.inr (by omega))
    case measure=>omega
def bj(R:Nat->Option (Int×Int))(Fb:Nat->Bool)(x:Nat):Prop:=fH (farK R Fb) x\/((∀z,farK R Fb z=none)/\fH (freshK R Fb) x)
theorem Bp(h:CC w lb R Fa t F)(ht:t<900000)(h0:0<t)(u:Int):Calls prog 192 #[.pointer (some ⟨lb,6,none⟩),.int .i64 u] w λe w'=>∃x:Nat,e=.returned (.tuple #[.int .i64 x,.bool true])/\∃Fb F',CC w' lb R Fb t F'/\mj R Fa Fb u/\bj R Fb x/\Fr F w w'/\∀i,F' i->F i\/w.heap.size<=i:=by
 obtain⟨q1,q2,q3,nf,nr,F1,F2,F3,h,rfl,hF⟩:=h;have HA:=Hd (EE h ht u);have HH:=Hd h;have HHF:=Hd hF;clear h hF;go_enter func192,ntmps192
 go_wp2_with fail
 refine HA.out.mono ?_;rintro e w1⟨rfl,Fb,nf',nr',F1',hc,hn,hag,hf,hF1⟩;have p6:=hc.p6;have p7:=hc.p7;have lt:=hc.lt
 have HRES:Hid (CC w1 lb R Fb (nf+nr) (λi=>F1' i\/F2 i\/F3 i)/\mj R Fa Fb u/\Fr F w w1/\∀i,(F1' i\/F2 i\/F3 i)->F i\/w.heap.size<=i):=⟨⟨q1,q2,q3,nf',nr',F1',F2,F3,hc,hn,λi=>Iff.rfl⟩,hag,hf.mono (λi q=>(HHF.out i).2 q),λi q=>by
  rcases q with q|q|q
  .exact(hF1 i q).elim (λz=>.inl ((HHF.out i).2 (.inl z))) .inr
  .exact .inl ((HHF.out i).2 (.inr (.inl q)))
  .exact .inl ((HHF.out i).2 (.inr (.inr q)))⟩
 by_cases hz:nf'=0
 .subst hz
  have HL:=Hd (jN hc.h1);obtain⟨x,hl,HL2⟩:=i7 hc.h2 (by omega);have HLC:Hid (bj R Fb x):=.inr ⟨λz=>hc.h1.zero z,hl⟩;clear hc hn hag hf hF1 hl
  go_wp2_with fail
  refine HL.out.mono ?_;rintro e w2⟨rfl,rfl⟩
  go_wp2_with fail
  refine(HL2.out _ (Fr.refl _ _)).mono ?_;rintro e w2⟨rfl,rfl⟩;go_wp2;go_returns;exact⟨x,rfl,Fb,_,HRES.out.1,HRES.out.2.1,HLC.out,HRES.out.2.2⟩
 .obtain⟨x,hl,HL⟩:=i7 hc.h1 (by omega)
  have HLC:Hid (bj R Fb x):=.inl hl;clear hc hn hag hf hF1 hl
  go_wp2_with fail
  refine(HL.out _ (Fr.refl _ _)).mono ?_;rintro e w2⟨rfl,rfl⟩;go_wp2;go_returns;exact⟨x,rfl,Fb,_,HRES.out.1,HRES.out.2.1,HLC.out,HRES.out.2.2⟩
end
structure LK where
 n:Nat
 k:Nat
 near:Nat
 kept:Nat
 T:Nat
 fr:Nat->Bool×Nat
 P:Nat->Option (Int×(Nat->Int))
 R:Nat->Option (Int×Int)
 Fa:Nat->Bool
 t:Nat
 Old:List (Nat×Nat)
 gone:Nat
def bC:Value:=bJ 0 (λ_=>0)
def psM(P:Nat->Option (Int×(Nat->Int))):Int->Option Value:=λx=>if x<0 then none else(P x.toNat).map λp=>bJ p.1 p.2
def gO{α:Type}(P:Nat->Option α)(x:Nat)(y:Option α):Nat->Option α:=λz=>if z=x then y else P z
theorem hZ{α:Type}(P:Nat->Option α)(x:Nat)(y:Option α):gO P x y x=y:=if_pos rfl
theorem fO{α:Type}(P:Nat->Option α){x z:Nat}(y:Option α)(h:¬z=x):gO P x y z=P z:=if_neg h
theorem zU(P:Nat->Option (Int×(Nat->Int)))(x:Nat):psM P (x:Int)=(P x).map λp=>bJ p.1 p.2:=by
 unfold psM;rw[if_neg (by omega)];rfl
theorem vJ(P:Nat->Option (Int×(Nat->Int)))(x:Nat)(p:Option (Int×(Nat->Int))):dJ (psM P) (x:Int) (p.map λp=>bJ p.1 p.2)=psM (gO P x p):=by
 funext z
 by_cases e:z=(x:Int)
 .subst e;rw[gd,zU,hZ]
 .rw[eH _ _ e]
  unfold psM;by_cases h:z<0
  .rw[if_pos h,if_pos h]
  .rw[if_neg h,if_neg h,fO _ _ (by omega)]
def pastOf(S:LK)(x:Nat):Int×(Nat->Int):=(S.P x).getD (0,λ_=>0)
def bY(S:LK)(x:Nat):Int×Int:=((pastOf S x).2 (S.k-1),(pastOf S x).1)
def bb(l:List (Nat×Nat)):Nat->Option (Int×Int):=λx=>(l.find? λp=>decide (p.1=x)).map λp=>((p.2:Int),0)
def jc(f:Nat->Bool×Nat):Nat->Value:=λi=>if i%2=0 then .bool (f (i/2)).1 else .int .u32 ((f (i/2)).2:Nat)
def lC(S:LK)(fb mb q1 q2 q3 q4:Nat):Nat->Value
 |0=>.int .i64 S.k
 |1=>.int .i64 S.near
 |2=>.int .i64 S.kept
 |3=>.int .i64 S.T
 |4=>.slice (some ⟨fb,0,none⟩) S.n S.n
 |5=>.map (some mb)
 |6=>.pointer (some ⟨q1,0,none⟩)
 |7=>.pointer (some ⟨q2,0,none⟩)
 |8=>.pointer (some ⟨q3,0,none⟩)
 |9=>.pointer (some ⟨q4,0,none⟩)
 |_=>.int .i64 S.gone
theorem MVp:MV prog 131 34 261 .u32 bC:=⟨underlying131,underlying34,λw=>by kernel_rfl⟩
def bo(R:Nat->Option (Int×Int)):Nat->Nat
 |0=>0
 |n+1=>bo R n+(if(R n).isSome then 1 else 0)
theorem CS(R:Nat->Option (Int×Int))(n:Nat):bo R n<=n:=by
 induction n with
 |zero=>exact Nat.le_refl _
 |succ n ih=>unfold bo;split<;>omega
theorem fY(R:Nat->Option (Int×Int)){x:Nat}(y:Option (Int×Int)):∀{n:Nat},n<=x->bo (updKK R x y) n=bo R n
 |0,_=>rfl
 |n+1,h=>by unfold bo;rw[fY R y (by omega),ao _ _ (by omega)]
theorem kL(R:Nat->Option (Int×Int)){x:Nat}:∀{n:Nat},x<n->(R x).isSome=true->0<bo R n
 |n+1,h,hx=>by
  unfold bo;by_cases e:x=n
  .subst e;rw[if_pos hx];omega
  .have:=kL R (n:=n) (by omega) hx;omega
theorem lE(R:Nat->Option (Int×Int)){x:Nat}(p:Int×Int):∀{n:Nat},x<n->bo (updKK R x (some p)) n=dM (bo R n) (R x).isSome
 |n+1,h=>by
  unfold bo;by_cases e:x=n
  .subst e;rw[fY R _ (Nat.le_refl _),az];unfold dM;cases(R x).isSome<;>simp
  .rw[lE R p (n:=n) (by omega),ao _ _ (by omega)];unfold dM;split<;>split<;>omega
theorem cX(R:Nat->Option (Int×Int)){x:Nat}:∀{n:Nat},x<n->bo (updKK R x none) n=lessN (bo R n) (R x).isSome
 |n+1,h=>by
  unfold bo;by_cases e:x=n
  .subst e;rw[fY R _ (Nat.le_refl _),az];unfold lessN;cases(R x).isSome<;>simp
  .rw[cX R (n:=n) (by omega),ao _ _ (by omega)]
   have hp:=kL R (x:=x) (n:=n) (by omega);unfold lessN
   cases hx:(R x).isSome with
   |false=>simp
   |true=>have:=hp hx;rw[if_pos rfl,if_pos rfl];split<;>omega
structure LOk(S:LK):Prop where
 n1:1<=S.n/\S.n<=65535
 k1:1<=S.k/\S.k<=8
 near:S.near<=1000000
 kept:S.kept<=65535
 fr:∀i,okN (S.fr i).2
 past:∀x p,S.P x=some p->0<=p.1/\p.1<=S.T/\∀j,0<=p.2 j/\p.2 j<=p.1/\p.2 j<=p.2 0
 tn:S.t=bo S.R S.n
 old:∀p,p∈S.Old->okN p.1/\p.2<=S.gone
 oldn:S.Old.length<=S.gone
 ord:S.Old.Pairwise λp q=>p.2<q.2/\¬p.1=q.1
theorem LOk.tle{S:LK}(h:LOk S):S.t<=S.n:=by rw[h.tn];exact CS _ _
structure LM(w:World)(lb:Nat)(S:LK)(fb mb q1 q2 q3 q4 ne:Nat)(FC F4:Nat->Prop):Prop where
 blk:Blk w lb 11 (lC S fb mb q1 q2 q3 q4)
 frs:Blk w fb (2*S.n) (jc S.fr)
 mp:MpV prog 34 .u32 bC w mb ne (psM S.P)
 cc:CC w lb S.R S.Fa S.t FC
 qk:QK w q4 (bb S.Old) S.Old.length F4
 d1:¬fb=lb
 d2:¬mb=lb
 d3:¬mb=fb
 d4:¬FC fb
 d5:¬FC mb
 d6:¬F4 lb
 d7:¬F4 fb
 d8:¬F4 mb
 d9:∀i,FC i->¬F4 i
 ne:ne<=S.T
 ok:LOk S
def LFK(lb fb mb:Nat)(FC F4:Nat->Prop):Nat->Prop:=λi=>i=lb\/i=fb\/i=mb\/FC i\/F4 i
section
variable{w w':World}{lb fb mb q1 q2 q3 q4 ne:Nat}{S:LK}{FC F4:Nat->Prop}
theorem LM.fr0(h:LM w lb S fb mb q1 q2 q3 q4 ne FC F4)(f:Fr NoF w w'):LM w' lb S fb mb q1 q2 q3 q4 ne FC F4:=
 ⟨h.blk.fr f (λq=>q),h.frs.fr f (λq=>q),h.mp.fr f (λq=>q),h.cc.fr0 f,h.qk.fr0 f,h.d1,h.d2,h.d3,h.d4,h.d5,h.d6,h.d7,h.d8,h.d9,h.ne,h.ok⟩
theorem LM.fr(h:LM w lb S fb mb q1 q2 q3 q4 ne FC F4){G:Nat->Prop}(f:Fr G w w')(g:∀i,LFK lb fb mb FC F4 i->¬G i):LM w' lb S fb mb q1 q2 q3 q4 ne FC F4:=
 ⟨h.blk.fr f (g lb (.inl rfl)),h.frs.fr f (g fb (.inr (.inl rfl))),h.mp.fr f (g mb (.inr (.inr (.inl rfl)))),h.cc.fr f (λi q=>g i (.inr (.inr (.inr (.inl q))))) (g lb (.inl rfl)),h.qk.fr f (λi q=>g i (.inr (.inr (.inr (.inr q))))),h.d1,h.d2,h.d3,h.d4,h.d5,h.d6,h.d7,h.d8,h.d9,h.ne,h.ok⟩
theorem LM.lt(h:LM w lb S fb mb q1 q2 q3 q4 ne FC F4):∀i,LFK lb fb mb FC F4 i->i<w.heap.size:=by
 rintro i(rfl|rfl|rfl|q|q)
 .exact h.blk.lt
 .exact h.frs.lt
 .exact h.mp.lt
 .exact h.cc.lt i q
 .exact h.qk.lt i q
theorem LM.ce(h:LM w lb S fb mb q1 q2 q3 q4 ne FC F4)(i:Nat)(hi:i<11):w.cell? ⟨lb,i,none⟩=some (lC S fb mb q1 q2 q3 q4 i):=h.blk.cell hi
theorem LM.full(h:LM w lb S fb mb q1 q2 q3 q4 ne FC F4){at':Nat}(ha:at'<S.n):w.cell? ⟨fb,at'*2,none⟩=some (.bool (S.fr at').1):=by
 have:=h.frs.cell (i:=at'*2) (by omega);unfold jc at this;rw[if_pos (by omega),show at'*2/2=at' from by omega]at this;exact this
theorem LM.page(h:LM w lb S fb mb q1 q2 q3 q4 ne FC F4){at':Nat}(ha:at'<S.n):w.cell? ⟨fb,at'*2+1,none⟩=some (.int .u32 ((S.fr at').2:Nat)):=by
 have:=h.frs.cell (i:=at'*2+1) (by omega);unfold jc at this;rw[if_neg (by omega),show(at'*2+1)/2=at' from by omega]at this;exact this
theorem dD(h:LM w lb S fb mb q1 q2 q3 q4 ne FC F4){at':Nat}(ha:at'<S.n):Calls prog 183 #[.pointer (some ⟨lb,0,none⟩),.int .i64 at'] w λe w'=>e=.returned (.bool true)/\w=w':=by
 have c4:w.cell? ⟨lb,4,none⟩=some (.slice (some ⟨fb,0,none⟩) S.n S.n):=h.ce 4 (by omega);have lt:=h.blk.lt;have h1:(at':Int)<S.n:=by omega
 have h2:0<=(at':Int):=by omega
 clear h;go_enter func183,ntmps183;go_wp2;go_returns;exact⟨rfl,rfl⟩
theorem kS(h:LM w lb S fb mb q1 q2 q3 q4 ne FC F4){at':Nat}(ha:at'<S.n):Calls prog 189 #[.pointer (some ⟨lb,0,none⟩),.int .i64 at'] w λe w'=>e=.returned (.bool (S.fr at').1)/\w=w':=by
 have HI:=Hd (dD h ha);have c4:w.cell? ⟨lb,4,none⟩=some (.slice (some ⟨fb,0,none⟩) S.n S.n):=h.ce 4 (by omega);have lt:=h.blk.lt;have hfu:=h.full ha;have lf:=h.frs.lt;have h1:(at':Int)<S.n:=by omega
 have h2:0<=(at':Int):=by omega
 generalize(S.fr at').1=fu at*;clear h;go_enter func189,ntmps189
 go_wp2_with fail
 refine HI.out.mono ?_;rintro e w1⟨rfl,rfl⟩;go_wp2;go_returns;exact⟨rfl,rfl⟩
theorem jL(h:LM w lb S fb mb q1 q2 q3 q4 ne FC F4):Calls prog 181 #[.pointer (some ⟨lb,0,none⟩)] w λe w'=>e=.returned (.int .i64 (S.t:Nat))/\Fr NoF w w':=by
 have HL:=Hd (Ee h.cc (by have:=h.ok.tle;have:=h.ok.n1;omega));have lt:=h.blk.lt;clear h;go_enter func181,ntmps181
 go_wp2_with fail
 refine HL.out.mono ?_;rintro e w1⟨rfl,f1⟩;go_wp2;go_returns;exact⟨rfl,f1⟩
theorem q9(w:World)(lb:Nat)(x:Int):Calls prog 178 #[.pointer (some ⟨lb,0,none⟩),.int .u32 x] w λe w'=>e=.returned (.tuple #[])/\w=w':=by
 go_enter func178,ntmps178;go_wp2;go_returns;exact⟨rfl,rfl⟩
theorem nV{x:Nat}(h:okN x):(Lit.int .u32 (x:Nat)).wf=true:=WalkArith.wf_u32 ⟨by omega,by unfold okN at h;omega⟩
end
def dd(f:Nat->Bool×Nat)(x:Nat)(p:Bool×Nat):Nat->Bool×Nat:=λi=>if i=x then p else f i
theorem dc(f:Nat->Bool×Nat)(x:Nat)(p:Bool×Nat):dd f x p x=p:=if_pos rfl
theorem ca(f:Nat->Bool×Nat){x z:Nat}(p:Bool×Nat)(h:¬z=x):dd f x p z=f z:=if_neg h
section
variable{w w':World}{lb fb mb q1 q2 q3 q4 ne:Nat}{S:LK}{FC F4:Nat->Prop}
theorem LM.newFr(h:LM w lb S fb mb q1 q2 q3 q4 ne FC F4){f':Nat->Bool×Nat}(hb:Blk w' fb (2*S.n) (jc f'))(f:Fr (λi=>i=fb) w w')(hok:∀i,okN (f' i).2):LM w' lb {S with fr:=f'} fb mb q1 q2 q3 q4 ne FC F4:=
 ⟨h.blk.fr f (λq=>h.d1 q.symm),hb,h.mp.fr f h.d3,h.cc.fr f (λi q e=>h.d4 (e▸q)) (λq=>h.d1 q.symm),h.qk.fr f (λi q e=>h.d7 (e▸q)),h.d1,h.d2,h.d3,h.d4,h.d5,h.d6,h.d7,h.d8,h.d9,h.ne,⟨h.ok.n1,h.ok.k1,h.ok.near,h.ok.kept,hok,h.ok.past,h.ok.tn,h.ok.old,h.ok.oldn,h.ok.ord⟩⟩
theorem LM.newCC(h:LM w lb S fb mb q1 q2 q3 q4 ne FC F4){R':Nat->Option (Int×Int)}{Fa':Nat->Bool}{t':Nat}{FC':Nat->Prop}(hc:CC w' lb R' Fa' t' FC')(f:Fr FC w w')(hF:∀i,FC' i->FC i\/w.heap.size<=i)(ht:t'=bo R' S.n):LM w' lb {S with R:=R',Fa:=Fa',t:=t'} fb mb q1 q2 q3 q4 ne FC' F4:=by
 have l1:=h.blk.lt;have l2:=h.frs.lt;have l3:=h.mp.lt;have l4:=h.qk.lt;exact⟨h.blk.fr f h.cc.notl,h.frs.fr f h.d4,h.mp.fr f h.d5,hc,h.qk.fr f (λi q q'=>h.d9 i q' q),h.d1,h.d2,h.d3,λq=>(hF _ q).elim h.d4 (λz=>by omega),λq=>(hF _ q).elim h.d5 (λz=>by omega),h.d6,h.d7,h.d8,λi q q'=>(hF i q).elim (λz=>h.d9 i z q') (λz=>by have:=l4 i q';omega),h.ne,⟨h.ok.n1,h.ok.k1,h.ok.near,h.ok.kept,h.ok.fr,h.ok.past,ht,h.ok.old,h.ok.oldn,h.ok.ord⟩⟩
theorem LM.newQ(h:LM w lb S fb mb q1 q2 q3 q4 ne FC F4){l':List (Nat×Nat)}{F4':Nat->Prop}(hq:QK w' q4 (bb l') l'.length F4')(f:Fr F4 w w')(hF:∀i,F4' i->F4 i\/w.heap.size<=i)(ho:∀p,p∈l'->okN p.1/\p.2<=S.gone)(hn:l'.length<=S.gone)(hord:l'.Pairwise λp q=>p.2<q.2/\¬p.1=q.1):LM w' lb {S with Old:=l'} fb mb q1 q2 q3 q4 ne FC F4':=by
 have l1:=h.blk.lt;have l2:=h.frs.lt;have l3:=h.mp.lt;have l4:=h.cc.lt;exact⟨h.blk.fr f h.d6,h.frs.fr f h.d7,h.mp.fr f h.d8,h.cc.fr f h.d9 h.d6,hq,h.d1,h.d2,h.d3,h.d4,h.d5,λq=>(hF _ q).elim h.d6 (λz=>by omega),λq=>(hF _ q).elim h.d7 (λz=>by omega),λq=>(hF _ q).elim h.d8 (λz=>by omega),λi q q'=>(hF i q').elim (λz=>h.d9 i q z) (λz=>by have:=l4 i q;omega),h.ne,⟨h.ok.n1,h.ok.k1,h.ok.near,h.ok.kept,h.ok.fr,h.ok.past,h.ok.tn,ho,hn,hord⟩⟩
theorem LM.newMap(h:LM w lb S fb mb q1 q2 q3 q4 ne FC F4){P':Nat->Option (Int×(Nat->Int))}{ne':Nat}(hm:MpV prog 34 .u32 bC w' mb ne' (psM P'))(f:Fr (λi=>i=mb) w w')(hn:ne'<=S.T)(hp:∀x p,P' x=some p->0<=p.1/\p.1<=S.T/\∀j,0<=p.2 j/\p.2 j<=p.1/\p.2 j<=p.2 0):LM w' lb {S with P:=P'} fb mb q1 q2 q3 q4 ne' FC F4:=
 ⟨h.blk.fr f (λq=>h.d2 q.symm),h.frs.fr f (λq=>h.d3 q.symm),hm,h.cc.fr f (λi q e=>h.d5 (e▸q)) (λq=>h.d2 q.symm),h.qk.fr f (λi q e=>h.d8 (e▸q)),h.d1,h.d2,h.d3,h.d4,h.d5,h.d6,h.d7,h.d8,h.d9,hn,⟨h.ok.n1,h.ok.k1,h.ok.near,h.ok.kept,h.ok.fr,hp,h.ok.tn,h.ok.old,h.ok.oldn,h.ok.ord⟩⟩
theorem CC.set{R:Nat->Option (Int×Int)}{Fa:Nat->Bool}{t:Nat}{F:Nat->Prop}{c:Nat->Value}(h:CC w lb R Fa t F)(hb:Blk w lb 11 c){i:Nat}(hi:¬i=6/\¬i=7/\¬i=8)(v:Value):CC (w.setCell ⟨lb,i,none⟩ v) lb R Fa t F:=by
 have hn:=h.notl;obtain⟨p1,p2,p3,nf,nr,F1,F2,F3,h,ht,hF⟩:=h;have f:Fr (λz=>z=lb) w (w.setCell ⟨lb,i,none⟩ v):=(Fr.refl (λz=>z=lb) w).setCell (p:=⟨lb,i,none⟩) (.inl rfl) v;have hb2:=hb.set i v
 have e6:(w.setCell ⟨lb,i,none⟩ v).cell? ⟨lb,6,none⟩=w.cell? ⟨lb,6,none⟩:=by
  rw[hb2.cell (i:=6) (by omega),hb.cell (i:=6) (by omega),aa _ _ (by omega)]
 have e7:(w.setCell ⟨lb,i,none⟩ v).cell? ⟨lb,7,none⟩=w.cell? ⟨lb,7,none⟩:=by
  rw[hb2.cell (i:=7) (by omega),hb.cell (i:=7) (by omega),aa _ _ (by omega)]
 have e8:(w.setCell ⟨lb,i,none⟩ v).cell? ⟨lb,8,none⟩=w.cell? ⟨lb,8,none⟩:=by
  rw[hb2.cell (i:=8) (by omega),hb.cell (i:=8) (by omega),aa _ _ (by omega)]
 exact⟨p1,p2,p3,nf,nr,F1,F2,F3,⟨e6.trans h.p6,e7.trans h.p7,e8.trans h.p8,Nat.lt_of_lt_of_le h.lt f.size,h.h1.fr f (λi q e=>h.n1 (e▸q)),h.h2.fr f (λi q e=>h.n2 (e▸q)),h.h3.fr f (λi q e=>h.n3 (e▸q)),h.d12,h.d13,h.d23,h.n1,h.n2,h.n3,h.ok⟩,ht,hF⟩
theorem LM.tick(h:LM w lb S fb mb q1 q2 q3 q4 ne FC F4){z:Int}(hz:z=((S.T+1:Nat):Int)):LM (w.setCell ⟨lb,3,none⟩ (.int .i64 z)) lb {S with T:=S.T+1} fb mb q1 q2 q3 q4 ne FC F4/\Fr (λi=>i=lb) w (w.setCell ⟨lb,3,none⟩ (.int .i64 z)):=by
 subst hz;have f:Fr (λz=>z=lb) w (w.setCell ⟨lb,3,none⟩ (.int .i64 ((S.T+1:Nat):Int))):=(Fr.refl (λz=>z=lb) w).setCell (p:=⟨lb,3,none⟩) (.inl rfl) _;refine⟨⟨(h.blk.set 3 _).congr (λi hi=>?_),h.frs.fr f h.d1,h.mp.fr f h.d2,h.cc.set h.blk (by omega) _,h.qk.fr f (λi q e=>h.d6 (e▸q)),h.d1,h.d2,h.d3,h.d4,h.d5,h.d6,h.d7,h.d8,h.d9,Nat.le_succ_of_le h.ne,⟨h.ok.n1,h.ok.k1,h.ok.near,h.ok.kept,h.ok.fr,λx p q=>?_,h.ok.tn,h.ok.old,h.ok.oldn,h.ok.ord⟩⟩,f⟩
 .match i,hi with
  |0,_|1,_|2,_|3,_|4,_|5,_|6,_|7,_|8,_|9,_|10,_=>rfl
 .obtain⟨a,b,c⟩:=h.ok.past x p q
  exact⟨a,by show p.1<=((S.T+1:Nat):Int);omega,c⟩
theorem LM.goes(h:LM w lb S fb mb q1 q2 q3 q4 ne FC F4){z:Int}(hz:z=((S.gone+1:Nat):Int)):LM (w.setCell ⟨lb,10,none⟩ (.int .i64 z)) lb {S with gone:=S.gone+1} fb mb q1 q2 q3 q4 ne FC F4/\Fr (λi=>i=lb) w (w.setCell ⟨lb,10,none⟩ (.int .i64 z)):=by
 subst hz;have f:Fr (λz=>z=lb) w (w.setCell ⟨lb,10,none⟩ (.int .i64 ((S.gone+1:Nat):Int))):=(Fr.refl (λz=>z=lb) w).setCell (p:=⟨lb,10,none⟩) (.inl rfl) _;refine⟨⟨(h.blk.set 10 _).congr (λi hi=>?_),h.frs.fr f h.d1,h.mp.fr f h.d2,h.cc.set h.blk (by omega) _,h.qk.fr f (λi q e=>h.d6 (e▸q)),h.d1,h.d2,h.d3,h.d4,h.d5,h.d6,h.d7,h.d8,h.d9,h.ne,⟨h.ok.n1,h.ok.k1,h.ok.near,h.ok.kept,h.ok.fr,h.ok.past,h.ok.tn,λp q=>⟨(h.ok.old p q).1,Nat.le_succ_of_le (h.ok.old p q).2⟩,Nat.le_succ_of_le h.ok.oldn,h.ok.ord⟩⟩,f⟩
 match i,hi with
 |0,_|1,_|2,_|3,_|4,_|5,_|6,_|7,_|8,_|9,_|10,_=>rfl
theorem zT(f:Nat->Bool×Nat)(x:Nat)(b:Bool):upd (jc f) (x*2) (.bool b)=jc (dd f x (b,(f x).2)):=by
 funext i
 unfold upd jc dd;by_cases e:i=x*2
 .subst e;rw[if_pos rfl,if_pos (by omega),show x*2/2=x from by omega,if_pos rfl]
 .rw[if_neg e]
  by_cases e2:i/2=x
  .rw[if_neg (by omega),if_neg (by omega),if_pos e2,e2]
  .rw[if_neg e2]
theorem zh(f:Nat->Bool×Nat)(x:Nat)(b:Bool)(p:Nat):upd (upd (jc f) (x*2) (.bool b)) (x*2+1) (.int .u32 p)=jc (dd f x (b,p)):=by
 funext i
 unfold upd jc dd;by_cases e:i=x*2
 .subst e;rw[if_neg (by omega),if_pos rfl,if_pos (by omega),show x*2/2=x from by omega,if_pos rfl]
 .by_cases e3:i=x*2+1
  .subst e3;rw[if_pos rfl,if_neg (by omega),show(x*2+1)/2=x from by omega,if_pos rfl]
  .rw[if_neg e3,if_neg e,if_neg (show¬i/2=x by omega)]
theorem ik(h:LM w lb S fb mb q1 q2 q3 q4 ne FC F4){at':Nat}(ha:at'<S.n):Calls prog 190 #[.pointer (some ⟨lb,0,none⟩),.int .i64 at'] w λe w'=>e=.returned (.tuple #[])/\
  LM w' lb {S with fr:=dd S.fr at' (false,(S.fr at').2),R:=updKK S.R at' none,t:=lessN S.t (S.R at').isSome} fb mb q1 q2 q3 q4 ne FC F4/\Fr (λi=>i=fb\/FC i) w w':=by
 have hx:okN at':=by have:=h.ok.n1;unfold okN;omega
 have fA:Fr (λi=>i=fb) w (w.setCell ⟨fb,at'*2,none⟩ (.bool false)):=(Fr.refl (λz=>z=fb) w).setCell (p:=⟨fb,at'*2,none⟩) (.inl rfl) _;have hb:=h.frs.set (at'*2) (.bool false);rw[zT]at hb
 have h2:=h.newFr hb fA (λi=>by
  unfold dd
  split
  .exact h.ok.fr at'
  .exact h.ok.fr i)
 have HC:=Hd (vn h2.cc hx);have H2:=Hd h2;have HFA:=Hd fA;have c4:w.cell? ⟨lb,4,none⟩=some (.slice (some ⟨fb,0,none⟩) S.n S.n):=h.ce 4 (by omega);have lt:=h.blk.lt;have lf:=h.frs.lt;have hfu:=h.full ha;have fz:=h.frs.frozen (at'*2);have h1:(at':Int)<S.n:=by omega
 have h0:0<=(at':Int):=by omega
 have HTN:=Hd h.ok.tn;have HAT:Hid (at'<S.n):=ha;clear h h2 hb fA hx;generalize(S.fr at').1=fu at*;go_enter func190,ntmps190
 go_wp2_with fail
 refine HC.out.mono ?_;rintro e w1⟨rfl,hc,f1⟩;have h3:=H2.out.newCC hc f1 (λi q=>.inl q) (by show lessN S.t (S.R at').isSome=bo (updKK S.R at' none) S.n;rw[cX _ HAT.out,<-HTN.out]);have H3:=Hd h3;have HF1:=Hd f1;clear h3 f1 hc;go_wp2;go_returns;exact⟨rfl,H3.out,(HFA.out.mono (λ_ q=>.inl q)).trans HF1.out (λ_ q=>.inl (.inr q))⟩
end
def woO(l:List (Nat×Nat))(x:Nat):List (Nat×Nat):=l.filter λp=>!decide (p.1=x)
theorem aY(p:Nat×Nat)(l:List (Nat×Nat))(z:Nat):bb (p::l) z=if p.1=z then some ((p.2:Int),0)else bb l z:=by
 unfold bb;rw[List.find?_cons];by_cases e:p.1=z
 .simp[e]
 .simp[e]
theorem jr{l:List (Nat×Nat)}{z:Nat}:bb l z=none↔∀p,p∈l->¬p.1=z:=by
 induction l with
 |nil=>simp[bb]
 |cons p l ih=>
  rw[aY];by_cases e:p.1=z
  .rw[if_pos e]
   exact⟨λq=>(by cases q),λq=>absurd e (q p (by simp))⟩
  .rw[if_neg e,ih]
   exact⟨λq r hr=>by
    rcases List.mem_cons.1 hr with rfl|hr
    .exact e
    .exact q r hr,λq r hr=>q r (by simp[hr])⟩
theorem lP(p:Nat×Nat)(l:List (Nat×Nat))(x:Nat):woO (p::l) x=if p.1=x then woO l x else p::woO l x:=by
 unfold woO;rw[List.filter_cons];by_cases e:p.1=x
 .simp[e]
 .simp[e]
theorem um(l:List (Nat×Nat))(x:Nat):bb (woO l x)=updKK (bb l) x none:=by
 funext z
 induction l with
 |nil=>unfold updKK woO bb;simp
 |cons p l ih=>
  rw[lP];by_cases e:p.1=x
  .rw[if_pos e,ih]
   unfold updKK;by_cases e2:z=x
   .rw[if_pos e2,if_pos e2]
   .rw[if_neg e2,if_neg e2,aY,if_neg (by omega)]
  .rw[if_neg e,aY,ih]
   unfold updKK;by_cases e2:z=x
   .rw[if_pos e2,if_pos e2,if_neg (by omega)]
   .rw[if_neg e2,if_neg e2,aY]
def pn(l:List (Nat×Nat)):Prop:=l.Pairwise λp q=>p.2<q.2/\¬p.1=q.1
theorem Dk{l:List (Nat×Nat)}(h:pn l)(x:Nat):(woO l x).length=lessN l.length (bb l x).isSome:=by
 induction l with
 |nil=>rfl
 |cons p l ih=>
  obtain⟨h1,h2⟩:=List.pairwise_cons.1 h;rw[lP,aY];by_cases e:p.1=x
  .rw[if_pos e,if_pos e,ih h2]
   have:bb l x=none:=jr.2 (λq hq e2=>(h1 q hq).2 (by omega));rw[this];simp[lessN]
  .rw[if_neg e,if_neg e,List.length_cons,ih h2]
   cases e3:bb l x with
   |none=>simp[lessN]
   |some y=>
    have:l≠[]:=by rintro rfl;simp[bb]at e3
    have:=List.length_pos_iff.2 this;simp[lessN];omega
theorem B7{l:List (Nat×Nat)}(h:pn l)(x:Nat):pn (woO l x):=List.Pairwise.filter _ h
theorem DD{l:List (Nat×Nat)}{x:Nat}{p:Nat×Nat}(h:p∈woO l x):p∈l/\¬p.1=x:=by
 have:=List.mem_filter.1 h;exact⟨this.1,by simpa using this.2⟩
theorem yH{l:List (Nat×Nat)}{x:Nat}(h:bb l x=none)(g:Nat):bb (l++[(x,g)])=updKK (bb l) x (some ((g:Int),0)):=by
 funext z
 induction l with
 |nil=>
  rw[List.nil_append,aY];unfold updKK;by_cases e:z=x
  .subst e;simp
  .rw[if_neg (λq=>e q.symm),if_neg e]
 |cons p l ih=>
  rw[aY]at h;by_cases e:p.1=x
  .rw[if_pos e]at h;cases h
  .rw[if_neg e]at h
   rw[List.cons_append,aY,ih h];unfold updKK;by_cases e2:z=x
   .rw[if_pos e2,if_pos e2,if_neg (by omega)]
   .rw[if_neg e2,if_neg e2,aY]
theorem Dg{l:List (Nat×Nat)}{x g:Nat}(h:pn l)(hn:bb l x=none)(hg:∀p,p∈l->p.2<g):pn (l++[(x,g)]):=by
 refine List.pairwise_append.2 ⟨h,by simp,λp hp q hq=>?_⟩;obtain rfl:q=(x,g):=by simpa using hq
 exact⟨hg p hp,jr.1 hn p hp⟩
theorem yu{l:List (Nat×Nat)}{z:Nat}{a b:Int}(h:bb l z=some (a,b)):∃g:Nat,(z,g)∈l/\a=g/\b=0:=by
 unfold bb at h
 cases e:l.find? (λp=>decide (p.1=z))with
 |none=>rw[e]at h;cases h
 |some p=>
  rw[e]at h;have h1:=List.mem_of_find?_eq_some e;have h2:=List.find?_some e;simp at h2
  injection h with h
  injection h with h3 h4
  exact⟨p.2,by rw[<-h2];exact h1,h3.symm,h4.symm⟩
theorem sK{p:Nat×Nat}{l:List (Nat×Nat)}(h:pn (p::l)){x:Nat}(hx:fH (bb (p::l)) x):x=p.1:=by
 obtain⟨a,b,h1,h2⟩:=hx;obtain⟨g,hm,rfl,rfl⟩:=yu h1;have h3:=h2 p.1 p.2 0 (by rw[aY,if_pos rfl]);rcases List.mem_cons.1 hm with q|q
 .exact(congrArg Prod.fst q)
 .have:=((List.pairwise_cons.1 h).1 _ q).1
  simp only at this;omega
theorem xm{p:Nat×Nat}{l:List (Nat×Nat)}(h:pn (p::l)):bb l=updKK (bb (p::l)) p.1 none:=by
 have e:woO (p::l) p.1=l:=by
  rw[lP,if_pos rfl];unfold woO;refine List.filter_eq_self.2 (λq hq=>?_);have:=((List.pairwise_cons.1 h).1 q hq).2;simp;omega
 rw[<-um,e]
def yg(S:LK)(x:Nat):LK:=
 if S.kept<(S.Old++[(x,S.gone+1)]).length then{S with gone:=S.gone+1,Old:=(S.Old++[(x,S.gone+1)]).tail,P:=gO S.P ((S.Old++[(x,S.gone+1)]).headD (0,0)).1 none}
 else{S with gone:=S.gone+1,Old:=S.Old++[(x,S.gone+1)]}
section
variable{w w':World}{lb fb mb q1 q2 q3 q4 ne:Nat}{S:LK}{FC F4:Nat->Prop}
theorem LM.pastok(h:LM w lb S fb mb q1 q2 q3 q4 ne FC F4)(x:Nat):0<=(pastOf S x).1/\(pastOf S x).1<=S.T/\∀j,0<=(pastOf S x).2 j/\(pastOf S x).2 j<=(pastOf S x).1/\(pastOf S x).2 j<=(pastOf S x).2 0:=by
 unfold pastOf
 cases e:S.P x with
 |none=>exact⟨by simp,by simp,λj=>by simp⟩
 |some p=>exact h.ok.past x p e
theorem LM.look(h:LM w lb S fb mb q1 q2 q3 q4 ne FC F4){x:Nat}(hx:okN x):(Instr.lookup 131 (.map (some mb)) (.int .u32 (x:Nat)) false).run prog w=.ok (bJ (pastOf S x).1 (pastOf S x).2) w:=by
 have:=h.mp.look_run MVp (nV hx);rw[zU]at this;rw[this];unfold pastOf
 cases S.P x<;>rfl
theorem sG(h:LM w lb S fb mb q1 q2 q3 q4 ne FC F4){x:Nat}(hx:okN x):Calls prog 188 #[.pointer (some ⟨lb,0,none⟩),.int .u32 x] w λe w'=>e=.returned (.agg #[.int .i64 (bY S x).1,.int .i64 (bY S x).2])/\Fr NoF w w':=by
 unfold bY;have hk:=h.ok.k1;have fA:Fr NoF w (w.alloc (.cells #[.int .i64 0,.int .i64 0] 265)):=(Fr.refl NoF w).alloc _;have hlk:=(h.fr0 fA).look hx;have c5:(w.alloc (.cells #[.int .i64 0,.int .i64 0] 265)).cell? ⟨lb,5,none⟩=some (.map (some mb)):=(h.fr0 fA).ce 5 (by omega);have lt:=h.blk.lt;generalize(pastOf S x).1=last at*;generalize(pastOf S x).2=t at*;have fB:Fr NoF w ((w.alloc (.cells #[.int .i64 0,.int .i64 0] 265)).alloc (.cells #[.int .i64 last,.int .i64 (t 0),.int .i64 (t 1),.int .i64 (t 2),.int .i64 (t 3),.int .i64 (t 4),.int .i64 (t 5),.int .i64 (t 6),.int .i64 (t 7)] 261)):=fA.alloc _
 have b1:Blk ((w.alloc (.cells #[.int .i64 0,.int .i64 0] 265)).alloc (.cells #[.int .i64 last,.int .i64 (t 0),.int .i64 (t 1),.int .i64 (t 2),.int .i64 (t 3),.int .i64 (t 4),.int .i64 (t 5),.int .i64 (t 6),.int .i64 (t 7)] 261)) w.heap.size 2 (λ_=>.int .i64 0):=(Blk.new w _ 265 2 _ _ rfl rfl (λi hi=>by
  match i,hi with
  |0,_|1,_=>rfl)).alloc _
 have b2:Blk ((w.alloc (.cells #[.int .i64 0,.int .i64 0] 265)).alloc (.cells #[.int .i64 last,.int .i64 (t 0),.int .i64 (t 1),.int .i64 (t 2),.int .i64 (t 3),.int .i64 (t 4),.int .i64 (t 5),.int .i64 (t 6),.int .i64 (t 7)] 261)) (w.heap.size+1) 9 (pastC last t):=Blk.new _ _ 261 9 _ _ (by simp) rfl (λi hi=>by
  match i,hi with
  |0,_|1,_|2,_|3,_|4,_|5,_|6,_|7,_|8,_=>rfl)
 have d0:((w.alloc (.cells #[.int .i64 0,.int .i64 0] 265)).alloc (.cells #[.int .i64 last,.int .i64 (t 0),.int .i64 (t 1),.int .i64 (t 2),.int .i64 (t 3),.int .i64 (t 4),.int .i64 (t 5),.int .i64 (t 6),.int .i64 (t 7)] 261)).cell? ⟨lb,0,none⟩=some (.int .i64 S.k):=(h.fr0 fB).ce 0 (by omega);have x0:=b2.cell (i:=0) (by omega);have x1:=b2.cell (i:=1+(S.k-1)) (by omega);rw[show pastC last t (1+(S.k-1))=.int .i64 (t (S.k-1))from by unfold pastC;rw[if_neg (by omega),show 1+(S.k-1)-1=S.k-1 from by omega],show 1+(S.k-1)=S.k from by omega]at x1;rw[show pastC last t 0=.int .i64 last from rfl]at x0;have fz0:=b1.frozen 0;have fz1:=b1.frozen 1;have l1:=b1.lt;have l2:=b2.lt;have lw:=(h.fr0 fB).blk.lt;have HB1:=Hd b1;have HFB:=Hd fB;have hw:IntKind.i64.wrap ((S.k:Int)-1)=((S.k-1:Nat):Int):=by rw[show((S.k:Int)-1)=((S.k-1:Nat):Int)from by omega];exact IntWalk.i64_in _ (by omega)
 have hk1:0<=((S.k-1:Nat):Int):=by omega
 have hk2:((S.k-1:Nat):Int)<8:=by omega
 have hk3:(((S.k-1:Nat):Int)).toNat=S.k-1:=by omega
 unfold bJ at hlk;clear h b1 b2 fA fB hx;generalize t (S.k-1)=tk at*;go_enter func188,ntmps188
 go_upto_region 2 with fail
 generalize(w.alloc (.cells #[.int .i64 0,.int .i64 0] 265)).alloc (.cells #[.int .i64 last,.int .i64 (t 0),.int .i64 (t 1),.int .i64 (t 2),.int .i64 (t 3),.int .i64 (t 4),.int .i64 (t 5),.int .i64 (t 6),.int .i64 (t 7)] 261)=wx at*;clear hlk c5;have hb2:=HB1.out.drew;have hf2:=HFB.out.drew
 go_still_tail 11,(by kernel_rfl)
 change wpList _ _ _ _ _ wx.drew;clear fz0 fz1 l1 l2 lw x0 x1 d0;generalize wx.drew=w2 at*;have fz0:=hb2.frozen 0;have fz1:=hb2.frozen 1;have l1:=hb2.lt;have HB2:=Hd hb2;have HF2:=Hd hf2;have d0:=hb2.cell (i:=0) (by omega);have d1:=hb2.cell (i:=1) (by omega);clear hb2 hf2;go_wp2
 (try simp only[Exit.inBlock,Exit.then])
 refine bodyPost_ret (eD Tryz.results188 _ _ ((HB2.out.set 0 (.int .i64 tk)).set 1 (.int .i64 last)) rfl underlying265 rfl (by kernel_rfl)) (by rfl) ?_;exact⟨rfl,(HF2.out.setCell (p:=⟨w.heap.size,0,none⟩) (.inr (Nat.le_refl _)) _).setCell (p:=⟨w.heap.size,1,none⟩) (.inr (Nat.le_refl _)) _⟩
end
end
end Go.Proofs.YtoenclhimbpfeaaGreatDoor
