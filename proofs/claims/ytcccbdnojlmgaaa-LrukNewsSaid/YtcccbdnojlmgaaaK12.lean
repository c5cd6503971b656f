/- Part 12. -/
import Derived.Test.YtcccbdnojlmgaaaK11
namespace Go.Proofs.Ytcccbdnojlmgaaa
set_option linter.all false
set_option maxHeartbeats 16000000
set_option maxRecDepth 100000
section
open Go.Maps Go.RowKit
def Aged(R:Nat->Option (Int×Int))(Fa Fb:Nat->Bool)(until':Int):Prop:=∀x a b,R x=some (a,b)->(Fb x=true↔(Fa x=true∨b<=until'))
def Aging(R:Nat->Option (Int×Int))(Fa Fb:Nat->Bool)(until':Int):Prop:=∀x a b,R x=some (a,b)->((Fa x=true->Fb x=true)∧(Fb x=true->(Fa x=true∨b<=until')))
theorem Aging.refl(R:Nat->Option (Int×Int))(Fa:Nat->Bool)(u:Int):Aging R Fa Fa u:=fun x a b _=>⟨fun q=>q,fun q=>.inl q⟩
theorem Aging.step{R:Nat->Option (Int×Int)}{Fa Fb:Nat->Bool}{u:Int}(h:Aging R Fa Fb u){x:Nat}{a b:Int}(hx:R x=some (a,b))(hb:b<=u):Aging R Fa (updB1 Fb x true) u:=by
 intro z c d hz;by_cases e:z=x
 .subst e
  rw[hx]at hz
  injection hz with hz
  injection hz with h1 h2
  subst h1;subst h2;rw[updB1_same];exact⟨fun _=>rfl,fun _=>.inr hb⟩
 .rw[updB1_other _ _ e]
  exact h z c d hz
theorem Aging.done{R:Nat->Option (Int×Int)}{Fa Fb:Nat->Bool}{u:Int}(h:Aging R Fa Fb u)(hl:∀z c d,freshK R Fb z=some (c,d)->u<d):Aged R Fa Fb u:=by
 intro x a b hx;refine⟨(h x a b hx).2,fun q=>?_⟩;rcases q with q|q
 .exact(h x a b hx).1 q
 .cases e:Fb x with
  |true=>rfl
  |false=>
   have:=hl x a b (by unfold freshK;rw[e];exact hx);omega
theorem farK_moved{R:Nat->Option (Int×Int)}{Fa:Nat->Bool}{x:Nat}{p:Int×Int}(hx:R x=some p):updK (farK (updK R x none) Fa) x (some p)=farK R (updB1 Fa x true):=by
 funext z;unfold updK farK updB1
 by_cases e:z=x
 .subst e;simp[hx]
 .simp[e]
theorem freshK_moved{R:Nat->Option (Int×Int)}{Fa:Nat->Bool}{x:Nat}:freshK (updK R x none) Fa=freshK R (updB1 Fa x true):=by
 funext z;unfold updK freshK updB1
 by_cases e:z=x
 .subst e;simp
 .simp[e]
theorem turnK_moved{R:Nat->Option (Int×Int)}{Fa:Nat->Bool}{x:Nat}:turnK (updK R x none) Fa=turnK R (updB1 Fa x true):=by
 funext z;unfold turnK;rw[freshK_moved]
section
variable{w w':World}{lb t:Nat}{R:Nat->Option (Int×Int)}{Fa:Nat->Bool}{q1 q2 q3 nf nr:Nat}{F F1 F2 F3:Nat->Prop}
theorem CAt.moved{x:Nat}{p:Int×Int}(hx:R x=some p){nf' nr' nf2:Nat}(h:CAt w lb (updK R x none) Fa q1 q2 q3 nf' nr' F1 F2 F3){F1':Nat->Prop}(h1:QK w' q1 (updK (farK (updK R x none) Fa) x (some p)) nf2 F1')(f:Fr F1 w w')(hF:∀i,F1' i->F1 i∨w.heap.size<=i)(ok:∀x a b,R x=some (a,b)->i64 a∧i64 b∧okN x):CAt w' lb R (updB1 Fa x true) q1 q2 q3 nf2 nr' F1' F2 F3:=by
 refine⟨?_,?_,?_,Nat.lt_of_lt_of_le h.lt f.size,?_,?_,?_,fun i q q'=>?_,fun i q q'=>?_,h.d23,fun q=>?_,h.n2,h.n3,ok⟩
 .rw[f.cell (p:=⟨lb,6,none⟩) h.lt h.n1];exact h.p6
 .rw[f.cell (p:=⟨lb,7,none⟩) h.lt h.n1];exact h.p7
 .rw[f.cell (p:=⟨lb,8,none⟩) h.lt h.n1];exact h.p8
 .rw[<-farK_moved hx];exact h1
 .rw[<-freshK_moved];exact h.h2.fr f (fun i q q'=>h.d12 i q' q)
 .rw[<-turnK_moved];exact h.h3.fr f (fun i q q'=>h.d13 i q' q)
 .exact(hF i q).elim (fun z=>h.d12 i z q') (fun z=>by have:=h.h2.lt i q';omega)
 .exact(hF i q).elim (fun z=>h.d13 i z q') (fun z=>by have:=h.h3.lt i q';omega)
 .exact(hF _ q).elim h.n1 (fun z=>by have:=h.lt;omega)
theorem fresh_turn{z:Nat}{c d:Int}(h:freshK R Fa z=some (c,d)):turnK R Fa z=some (d,0):=by unfold turnK;rw[h];rfl
theorem turn_fresh{z:Nat}{c d:Int}(h:turnK R Fa z=some (c,d)):∃e,freshK R Fa z=some (e,c)∧d=0:=by
 unfold turnK at h
 cases e:freshK R Fa z with
 |none=>rw[e]at h;cases h
 |some p=>
  rw[e]at h
  injection h with h
  injection h with h1 h2
  exact⟨p.1,by rw[<-h1],h2.symm⟩
theorem fresh_R{z:Nat}{c d:Int}(h:freshK R Fa z=some (c,d)):Fa z=false∧R z=some (c,d):=by
 unfold freshK at h
 cases e:Fa z with
 |true=>rw[e]at h;cases h
 |false=>rw[e]at h;exact⟨rfl,h⟩
theorem ca_age(h:CAt w lb R Fa q1 q2 q3 nf nr F1 F2 F3)(ht:nf+nr<900000)(u:Int):Calls Try.prog 50 #[.pointer (some ⟨lb,6,none⟩),.int .i64 u] w fun e w'=>e=.returned (.tuple #[])∧∃Fb nf' nr' F1',CAt w' lb R Fb q1 q2 q3 nf' nr' F1' F2 F3∧nf'+nr'=nf+nr∧Aged R Fa Fb u∧Fr (fun i=>F1 i∨F2 i∨F3 i) w w'∧∀i,F1' i->F1 i∨w.heap.size<=i:=by
 have HC:=Lib.hid h;clear h;go_enter Try.func50,Try.ntmps50
 go_wp2_with fail
 go_loopg [] nr (fun g wr=>∃Fb nf' F1',CAt wr lb R Fb q1 q2 q3 nf' g F1' F2 F3∧nf'+g=nf+nr∧Aging R Fa Fb u∧Fr (fun i=>F1 i∨F2 i∨F3 i) w wr∧∀i,F1' i->F1 i∨w.heap.size<=i)
 case atStart=>exact⟨Fa,nf,F1,HC.out,rfl,Aging.refl _ _ _,Fr.refl _ _,fun i q=>.inl q⟩
 case round=>
  obtain⟨Fb,nf',F1',hc,hn,hag,hf,hF1⟩:=hrel;have HK:=Lib.hid hc;have HN:=Lib.hid hn;have HAG:=Lib.hid hag;have HFR:=Lib.hid hf;have HF1:=Lib.hid hF1;have p8:=hc.p8;have p7:=hc.p7;have lt:=hc.lt;by_cases h0:gk=0
  .subst h0
   have HL:=Lib.hid (qk_least_no hc.h3);have HO:=Lib.hid (qk_of hc.h2 (x:=0) (show(0:Nat)<4294967296 by omega))
   have hend:Aged R Fa Fb u:=hag.done (fun z c d q=>by
    have:=hc.h2.zero z;rw[this]at q
    cases q)
   have HE:=Lib.hid hend;clear hc hn hag hf hF1 hend
   go_wp2_with fail
   refine HL.out.mono ?_;rintro e w1⟨rfl,rfl⟩
   go_wp2_with fail
   refine HO.out.mono ?_;rintro e w1⟨rfl,f1⟩;have HF2:=Lib.hid f1;clear f1;go_wp2;go_returns;exact⟨rfl,Fb,nf',0,F1',HK.out.fr0 (HF2.out.alloc _),HN.out,HE.out,HFR.out.trans (HF2.out.alloc _) (fun _ q=>q.elim),HF1.out⟩
  .obtain⟨x,hl,HL⟩:=qk_least hc.h3 (by omega)
   obtain⟨tb,t0,htx,hmin⟩:=hl;obtain⟨ra,hfx,rfl⟩:=turn_fresh htx;obtain⟨hFx,hRx⟩:=fresh_R hfx;obtain⟨iA,iB,hx⟩:=hc.ok x ra tb hRx;have HO:=Lib.hid (qk_of hc.h2 hx);rw[hfx]at HO;simp only[Option.getD_some,Option.isSome_some]at HO;have HX:=Lib.hid hx;have HRX:=Lib.hid hRx;have HFX:=Lib.hid hFx;have HFR2:=Lib.hid hfx;have HIA:=Lib.hid iA;have HIB:=Lib.hid iB;have HMIN:=Lib.hid hmin;by_cases hb:u<tb
   .have hend:Aged R Fa Fb u:=hag.done (fun z c d q=>by
     rcases hmin z d 0 (fresh_turn q)with h|⟨h,_⟩<;>omega)
    have HE:=Lib.hid hend;clear hc hn hag hf hF1 hend hx hRx hFx hfx iA iB hmin htx
    go_wp2_with fail
    refine(HL.out _ (Fr.refl _ _)).mono ?_;rintro e w1⟨rfl,rfl⟩
    go_wp2_with fail
    refine HO.out.mono ?_;rintro e w1⟨rfl,f1⟩;have HF2:=Lib.hid f1;clear f1;go_wp2;go_returns;exact⟨rfl,Fb,nf',gk,F1',HK.out.fr0 (HF2.out.alloc _),HN.out,HE.out,HFR.out.trans (HF2.out.alloc _) (fun _ q=>q.elim),HF1.out⟩
   .have HB:=Lib.hid hb
    have hd:decide (u<tb)=false:=by simpa using hb
    clear hc hn hag hf hF1 hx hRx hFx hfx iA iB hmin htx hb
    go_wp2_with fail
    refine(HL.out _ (Fr.refl _ _)).mono ?_;rintro e w1⟨rfl,rfl⟩
    go_wp2_with fail
    refine HO.out.mono ?_;rintro e w1⟨rfl,f1⟩;have HF2:=Lib.hid f1;clear f1
    go_wp2_with fail
    have fA:Fr NoF wr (w1.alloc (.cells #[.int .i64 ra,.int .i64 tb] 89)):=HF2.out.alloc _
    have bA:Blk (w1.alloc (.cells #[.int .i64 ra,.int .i64 tb] 89)) w1.heap.size 2 (fun i=>if i=0 then .int .i64 ra else .int .i64 tb):=Blk.new w1 _ 89 2 _ _ rfl rfl (fun i hi=>by
     match i,hi with
     |0,_=>rfl
     |1,_=>rfl)
    have HFA:=Lib.hid fA;have HBA:=Lib.hid bA;have HKA:=Lib.hid (HK.out.fr0 fA);have hwr:=HF2.out.size;clear fA bA HF2;generalize w1.heap.size=kb at*;generalize w1.alloc (.cells #[.int .i64 ra,.int .i64 tb] 89)=wA at*;refine(ca_drop HKA.out HX.out).mono ?_;rintro e w2⟨rfl,hc2,f2⟩;have nK:¬(F1' kb∨F2 kb∨F3 kb):=fun q=>q.elim (fun q=>by have:=HK.out.h1.lt _ q;omega) (fun q=>q.elim (fun q=>by have:=HK.out.h2.lt _ q;omega) (fun q=>by have:=HK.out.h3.lt _ q;omega))
    have hb2:=HBA.out.fr f2 nK;have k0:w2.cell? ⟨kb,0,none⟩=some (.int .i64 ra):=hb2.cell (i:=0) (by omega);have k1:w2.cell? ⟨kb,1,none⟩=some (.int .i64 tb):=hb2.cell (i:=1) (by omega);have lk:=hb2.lt;have p6:=hc2.p6;have lt2:=hc2.lt
    have hnf:lessN nf' (farK R Fb x).isSome=nf':=by
     have e:farK R Fb x=none:=by unfold farK;rw[HFX.out];rfl
     rw[e];rfl
    have hnr:lessN gk (freshK R Fb x).isSome=gk-1:=by rw[HFR2.out];rfl
    rw[hnf,hnr]at hc2;have e0:(farK (updK R x none) Fb x).isSome=false:=by unfold farK;rw[updK_same];split<;>rfl
    have HP:=qk_put (hc2.h1.fr0 (Fr.refl NoF w2).drew) HX.out HIA.out HIB.out (by have:=HN.out;omega);rw[e0]at HP;have HP:=Lib.hid HP;have HC2:=Lib.hid hc2;have HF3:=Lib.hid f2;clear hc2 f2 hb2 p7 p8 e0 hnf hnr nK
    go_wp2_with fail
    go_still_tail 6,(by kernel_rfl)
    go_wp2_with fail
    refine HP.out.mono ?_;rintro e w3⟨rfl,F1n,h3,f3,hF3⟩;have f23:Fr F1' w2 w3:=((Fr.refl F1' w2).drew).trans f3 (fun _ q=>.inl q);have hk3:=HC2.out.moved HRX.out h3 f23 hF3 HK.out.ok;have HK3:=Lib.hid hk3;have HF4:=Lib.hid f23;have HG3:=Lib.hid hF3;clear h3 f3 f23 hF3 hk3 k0 k1;go_wp2
    go_roundg (gk-1)
    case rel=>
     have hw2:w.heap.size<=w2.heap.size:=Nat.le_trans HFR.out.size (Nat.le_trans HFA.out.size HF3.out.size);have g1:∀i,F1' i->F1 i∨w.heap.size<=i:=HF1.out;have g3:∀i,F1n i->F1' i∨w2.heap.size<=i:=HG3.out;refine⟨_,_,F1n,HK3.out,?_,HAG.out.step HRX.out (by have:=HB.out;omega),?_,fun i q=>?_⟩
     .show moreN nf' false+(gk-1)=nf+nr
      have:=HN.out;have:moreN nf' false=nf'+1:=rfl;omega
     .have fA:Fr (fun i=>F1' i∨F2 i∨F3 i) wr w3:=((HFA.out.mono (fun _ q=>q.elim)).trans HF3.out (fun _ q=>.inl q)).trans HF4.out (fun _ q=>.inl (.inl q))
      refine HFR.out.trans fA (fun i q=>?_);rcases q with q|q|q
      .exact(g1 i q).elim (fun z=>.inl (.inl z)) (fun z=>.inr z)
      .exact .inl (.inr (.inl q))
      .exact .inl (.inr (.inr q))
     .exact(g3 i q).elim (g1 i) (fun z=>.inr (by omega))
    case measure=>omega
def LeastC(R:Nat->Option (Int×Int))(Fb:Nat->Bool)(x:Nat):Prop:=LeastK (farK R Fb) x∨((∀z,farK R Fb z=none)∧LeastK (freshK R Fb) x)
theorem cc_least(h:CC w lb R Fa t F)(ht:t<900000)(h0:0<t)(u:Int):Calls Try.prog 35 #[.pointer (some ⟨lb,6,none⟩),.int .i64 u] w fun e w'=>∃x:Nat,e=.returned (.tuple #[.int .i64 x,.bool true])∧∃Fb F',CC w' lb R Fb t F'∧Aged R Fa Fb u∧LeastC R Fb x∧Fr F w w'∧∀i,F' i->F i∨w.heap.size<=i:=by
 obtain⟨q1,q2,q3,nf,nr,F1,F2,F3,h,rfl,hF⟩:=h;have HA:=Lib.hid (ca_age h ht u);have HH:=Lib.hid h;have HHF:=Lib.hid hF;clear h hF;go_enter Try.func35,Try.ntmps35
 go_wp2_with fail
 refine HA.out.mono ?_;rintro e w1⟨rfl,Fb,nf',nr',F1',hc,hn,hag,hf,hF1⟩;have p6:=hc.p6;have p7:=hc.p7;have lt:=hc.lt
 have HRES:Hid (CC w1 lb R Fb (nf+nr) (fun i=>F1' i∨F2 i∨F3 i)∧Aged R Fa Fb u∧Fr F w w1∧∀i,(F1' i∨F2 i∨F3 i)->F i∨w.heap.size<=i):=⟨⟨q1,q2,q3,nf',nr',F1',F2,F3,hc,hn,fun i=>Iff.rfl⟩,hag,hf.mono (fun i q=>(HHF.out i).2 q),fun i q=>by
  rcases q with q|q|q
  .exact(hF1 i q).elim (fun z=>.inl ((HHF.out i).2 (.inl z))) .inr
  .exact .inl ((HHF.out i).2 (.inr (.inl q)))
  .exact .inl ((HHF.out i).2 (.inr (.inr q)))⟩
 by_cases hz:nf'=0
 .subst hz
  have HL:=Lib.hid (qk_least_no hc.h1);obtain⟨x,hl,HL2⟩:=qk_least hc.h2 (by omega);have HLC:Hid (LeastC R Fb x):=.inr ⟨fun z=>hc.h1.zero z,hl⟩;clear hc hn hag hf hF1 hl
  go_wp2_with fail
  refine HL.out.mono ?_;rintro e w2⟨rfl,rfl⟩
  go_wp2_with fail
  refine(HL2.out _ (Fr.refl _ _)).mono ?_;rintro e w2⟨rfl,rfl⟩;go_wp2;go_returns;exact⟨x,rfl,Fb,_,HRES.out.1,HRES.out.2.1,HLC.out,HRES.out.2.2⟩
 .obtain⟨x,hl,HL⟩:=qk_least hc.h1 (by omega)
  have HLC:Hid (LeastC R Fb x):=.inl hl;clear hc hn hag hf hF1 hl
  go_wp2_with fail
  refine(HL.out _ (Fr.refl _ _)).mono ?_;rintro e w2⟨rfl,rfl⟩;go_wp2;go_returns;exact⟨x,rfl,Fb,_,HRES.out.1,HRES.out.2.1,HLC.out,HRES.out.2.2⟩
end
structure LK where
 n:Nat
 k:Nat
 near:Nat
 kept:Nat
 T:Nat
 fr:Nat->Bool×Nat
 P:Nat->Option (Int×(Nat->Int))
 R:Nat->Option (Int×Int)
 Fa:Nat->Bool
 t:Nat
 Old:List (Nat×Nat)
 gone:Nat
def zeroPast:Value:=pastV 0 (fun _=>0)
def psM(P:Nat->Option (Int×(Nat->Int))):Int->Option Value:=fun x=>if x<0 then none else(P x.toNat).map fun p=>pastV p.1 p.2
def updO{α:Type}(P:Nat->Option α)(x:Nat)(y:Option α):Nat->Option α:=fun z=>if z=x then y else P z
theorem updO_same{α:Type}(P:Nat->Option α)(x:Nat)(y:Option α):updO P x y x=y:=if_pos rfl
theorem updO_other{α:Type}(P:Nat->Option α){x z:Nat}(y:Option α)(h:¬z=x):updO P x y z=P z:=if_neg h
theorem psM_at(P:Nat->Option (Int×(Nat->Int)))(x:Nat):psM P (x:Int)=(P x).map fun p=>pastV p.1 p.2:=by
 unfold psM;rw[if_neg (by omega)];rfl
theorem psM_upd(P:Nat->Option (Int×(Nat->Int)))(x:Nat)(p:Option (Int×(Nat->Int))):updV (psM P) (x:Int) (p.map fun p=>pastV p.1 p.2)=psM (updO P x p):=by
 funext z
 by_cases e:z=(x:Int)
 .subst e;rw[updV_same,psM_at,updO_same]
 .rw[updV_other _ _ e]
  unfold psM;by_cases h:z<0
  .rw[if_pos h,if_pos h]
  .rw[if_neg h,if_neg h,updO_other _ _ (by omega)]
def pastOf(S:LK)(x:Nat):Int×(Nat->Int):=(S.P x).getD (0,fun _=>0)
def rankOf(S:LK)(x:Nat):Int×Int:=((pastOf S x).2 (S.k-1),(pastOf S x).1)
def oldK(l:List (Nat×Nat)):Nat->Option (Int×Int):=fun x=>(l.find? fun p=>decide (p.1=x)).map fun p=>((p.2:Int),0)
def frC(f:Nat->Bool×Nat):Nat->Value:=fun i=>if i%2=0 then .bool (f (i/2)).1 else .int .u32 ((f (i/2)).2:Nat)
def lC(S:LK)(fb mb q1 q2 q3 q4:Nat):Nat->Value
 |0=>.int .i64 S.k
 |1=>.int .i64 S.near
 |2=>.int .i64 S.kept
 |3=>.int .i64 S.T
 |4=>.slice (some ⟨fb,0,none⟩) S.n S.n
 |5=>.map (some mb)
 |6=>.pointer (some ⟨q1,0,none⟩)
 |7=>.pointer (some ⟨q2,0,none⟩)
 |8=>.pointer (some ⟨q3,0,none⟩)
 |9=>.pointer (some ⟨q4,0,none⟩)
 |_=>.int .i64 S.gone
theorem MVp:MV Try.prog 45 35 85 .u32 zeroPast:=⟨Try.underlying45,Try.underlying35,fun w=>by kernel_rfl⟩
def cntR(R:Nat->Option (Int×Int)):Nat->Nat
 |0=>0
 |n+1=>cntR R n+(if(R n).isSome then 1 else 0)
theorem cntR_le(R:Nat->Option (Int×Int))(n:Nat):cntR R n<=n:=by
 induction n with
 |zero=>exact Nat.le_refl _
 |succ n ih=>unfold cntR;split<;>omega
theorem cntR_beyond(R:Nat->Option (Int×Int)){x:Nat}(y:Option (Int×Int)):∀{n:Nat},n<=x->cntR (updK R x y) n=cntR R n
 |0,_=>rfl
 |n+1,h=>by unfold cntR;rw[cntR_beyond R y (by omega),updK_other _ _ (by omega)]
theorem cntR_pos(R:Nat->Option (Int×Int)){x:Nat}:∀{n:Nat},x<n->(R x).isSome=true->0<cntR R n
 |n+1,h,hx=>by
  unfold cntR;by_cases e:x=n
  .subst e;rw[if_pos hx];omega
  .have:=cntR_pos R (n:=n) (by omega) hx;omega
theorem cntR_put(R:Nat->Option (Int×Int)){x:Nat}(p:Int×Int):∀{n:Nat},x<n->cntR (updK R x (some p)) n=moreN (cntR R n) (R x).isSome
 |n+1,h=>by
  unfold cntR;by_cases e:x=n
  .subst e;rw[cntR_beyond R _ (Nat.le_refl _),updK_same];unfold moreN;cases(R x).isSome<;>simp
  .rw[cntR_put R p (n:=n) (by omega),updK_other _ _ (by omega)];unfold moreN;split<;>split<;>omega
theorem cntR_drop(R:Nat->Option (Int×Int)){x:Nat}:∀{n:Nat},x<n->cntR (updK R x none) n=lessN (cntR R n) (R x).isSome
 |n+1,h=>by
  unfold cntR;by_cases e:x=n
  .subst e;rw[cntR_beyond R _ (Nat.le_refl _),updK_same];unfold lessN;cases(R x).isSome<;>simp
  .rw[cntR_drop R (n:=n) (by omega),updK_other _ _ (by omega)]
   have hp:=cntR_pos R (x:=x) (n:=n) (by omega);unfold lessN
   cases hx:(R x).isSome with
   |false=>simp
   |true=>have:=hp hx;rw[if_pos rfl,if_pos rfl];split<;>omega
structure LOk(S:LK):Prop where
 n1:1<=S.n∧S.n<=65535
 k1:1<=S.k∧S.k<=8
 near:S.near<=1000000
 kept:S.kept<=65535
 fr:∀i,okN (S.fr i).2
 past:∀x p,S.P x=some p->0<=p.1∧p.1<=S.T∧∀j,0<=p.2 j∧p.2 j<=p.1∧p.2 j<=p.2 0
 tn:S.t=cntR S.R S.n
 old:∀p,p∈S.Old->okN p.1∧p.2<=S.gone
 oldn:S.Old.length<=S.gone
 ord:S.Old.Pairwise fun p q=>p.2<q.2∧¬p.1=q.1
theorem LOk.tle{S:LK}(h:LOk S):S.t<=S.n:=by rw[h.tn];exact cntR_le _ _
structure LM(w:World)(lb:Nat)(S:LK)(fb mb q1 q2 q3 q4 ne:Nat)(FC F4:Nat->Prop):Prop where
 blk:Blk w lb 11 (lC S fb mb q1 q2 q3 q4)
 frs:Blk w fb (2*S.n) (frC S.fr)
 mp:MpV Try.prog 35 .u32 zeroPast w mb ne (psM S.P)
 cc:CC w lb S.R S.Fa S.t FC
 qk:QK w q4 (oldK S.Old) S.Old.length F4
 d1:¬fb=lb
 d2:¬mb=lb
 d3:¬mb=fb
 d4:¬FC fb
 d5:¬FC mb
 d6:¬F4 lb
 d7:¬F4 fb
 d8:¬F4 mb
 d9:∀i,FC i->¬F4 i
 ne:ne<=S.T
 ok:LOk S
def LF(lb fb mb:Nat)(FC F4:Nat->Prop):Nat->Prop:=fun i=>i=lb∨i=fb∨i=mb∨FC i∨F4 i
section
variable{w w':World}{lb fb mb q1 q2 q3 q4 ne:Nat}{S:LK}{FC F4:Nat->Prop}
theorem LM.fr0(h:LM w lb S fb mb q1 q2 q3 q4 ne FC F4)(f:Fr NoF w w'):LM w' lb S fb mb q1 q2 q3 q4 ne FC F4:=
 ⟨h.blk.fr f (fun q=>q),h.frs.fr f (fun q=>q),h.mp.fr f (fun q=>q),h.cc.fr0 f,h.qk.fr0 f,h.d1,h.d2,h.d3,h.d4,h.d5,h.d6,h.d7,h.d8,h.d9,h.ne,h.ok⟩
theorem LM.fr(h:LM w lb S fb mb q1 q2 q3 q4 ne FC F4){G:Nat->Prop}(f:Fr G w w')(g:∀i,LF lb fb mb FC F4 i->¬G i):LM w' lb S fb mb q1 q2 q3 q4 ne FC F4:=
 ⟨h.blk.fr f (g lb (.inl rfl)),h.frs.fr f (g fb (.inr (.inl rfl))),h.mp.fr f (g mb (.inr (.inr (.inl rfl)))),h.cc.fr f (fun i q=>g i (.inr (.inr (.inr (.inl q))))) (g lb (.inl rfl)),h.qk.fr f (fun i q=>g i (.inr (.inr (.inr (.inr q))))),h.d1,h.d2,h.d3,h.d4,h.d5,h.d6,h.d7,h.d8,h.d9,h.ne,h.ok⟩
theorem LM.lt(h:LM w lb S fb mb q1 q2 q3 q4 ne FC F4):∀i,LF lb fb mb FC F4 i->i<w.heap.size:=by
 rintro i(rfl|rfl|rfl|q|q)
 .exact h.blk.lt
 .exact h.frs.lt
 .exact h.mp.lt
 .exact h.cc.lt i q
 .exact h.qk.lt i q
theorem LM.ce(h:LM w lb S fb mb q1 q2 q3 q4 ne FC F4)(i:Nat)(hi:i<11):w.cell? ⟨lb,i,none⟩=some (lC S fb mb q1 q2 q3 q4 i):=h.blk.cell hi
theorem LM.full(h:LM w lb S fb mb q1 q2 q3 q4 ne FC F4){at':Nat}(ha:at'<S.n):w.cell? ⟨fb,at'*2,none⟩=some (.bool (S.fr at').1):=by
 have:=h.frs.cell (i:=at'*2) (by omega);unfold frC at this;rw[if_pos (by omega),show at'*2/2=at' from by omega]at this;exact this
theorem LM.page(h:LM w lb S fb mb q1 q2 q3 q4 ne FC F4){at':Nat}(ha:at'<S.n):w.cell? ⟨fb,at'*2+1,none⟩=some (.int .u32 ((S.fr at').2:Nat)):=by
 have:=h.frs.cell (i:=at'*2+1) (by omega);unfold frC at this;rw[if_neg (by omega),show(at'*2+1)/2=at' from by omega]at this;exact this
theorem isFrame_calls(h:LM w lb S fb mb q1 q2 q3 q4 ne FC F4){at':Nat}(ha:at'<S.n):Calls Try.prog 27 #[.pointer (some ⟨lb,0,none⟩),.int .i64 at'] w fun e w'=>e=.returned (.bool true)∧w=w':=by
 have c4:w.cell? ⟨lb,4,none⟩=some (.slice (some ⟨fb,0,none⟩) S.n S.n):=h.ce 4 (by omega);have lt:=h.blk.lt;have h1:(at':Int)<S.n:=by omega
 have h2:0<=(at':Int):=by omega
 clear h;go_enter Try.func27,Try.ntmps27;go_wp2;go_returns;exact⟨rfl,rfl⟩
theorem has_calls(h:LM w lb S fb mb q1 q2 q3 q4 ne FC F4){at':Nat}(ha:at'<S.n):Calls Try.prog 33 #[.pointer (some ⟨lb,0,none⟩),.int .i64 at'] w fun e w'=>e=.returned (.bool (S.fr at').1)∧w=w':=by
 have HI:=Lib.hid (isFrame_calls h ha);have c4:w.cell? ⟨lb,4,none⟩=some (.slice (some ⟨fb,0,none⟩) S.n S.n):=h.ce 4 (by omega);have lt:=h.blk.lt;have hfu:=h.full ha;have lf:=h.frs.lt;have h1:(at':Int)<S.n:=by omega
 have h2:0<=(at':Int):=by omega
 generalize(S.fr at').1=fu at*;clear h;go_enter Try.func33,Try.ntmps33
 go_wp2_with fail
 refine HI.out.mono ?_;rintro e w1⟨rfl,rfl⟩;go_wp2;go_returns;exact⟨rfl,rfl⟩
theorem lsize_calls(h:LM w lb S fb mb q1 q2 q3 q4 ne FC F4):Calls Try.prog 19 #[.pointer (some ⟨lb,0,none⟩)] w fun e w'=>e=.returned (.int .i64 (S.t:Nat))∧Fr NoF w w':=by
 have HL:=Lib.hid (cc_len h.cc (by have:=h.ok.tle;have:=h.ok.n1;omega));have lt:=h.blk.lt;clear h;go_enter Try.func19,Try.ntmps19
 go_wp2_with fail
 refine HL.out.mono ?_;rintro e w1⟨rfl,f1⟩;go_wp2;go_returns;exact⟨rfl,f1⟩
theorem lmiss_calls(w:World)(lb:Nat)(x:Int):Calls Try.prog 14 #[.pointer (some ⟨lb,0,none⟩),.int .u32 x] w fun e w'=>e=.returned (.tuple #[])∧w=w':=by
 go_enter Try.func14,Try.ntmps14;go_wp2;go_returns;exact⟨rfl,rfl⟩
theorem okN_wf{x:Nat}(h:okN x):(Lit.int .u32 (x:Nat)).wf=true:=WalkArith.wf_u32 ⟨by omega,by unfold okN at h;omega⟩
end
end
end Go.Proofs.Ytcccbdnojlmgaaa
