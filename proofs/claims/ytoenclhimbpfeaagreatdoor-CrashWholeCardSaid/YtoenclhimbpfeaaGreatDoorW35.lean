/- Part 35. -/
import Derived.Test.YtoenclhimbpfeaaGreatDoorW34
namespace Go.Proofs.YtoenclhimbpfeaaGreatDoor
set_option linter.all false
set_option maxHeartbeats 16000000
set_option maxRecDepth 100000
section
open Go.Maps Go.Proofs.Tryz Go.RowKit
section
variable{τ:Type}{P:Adv τ}{RR:World->τ->(Nat->Prop)->Prop}{ok:Nat->τ->(Nat->Nat)->(Nat->Bool)->Prop}{p:PP}(S:aJ P RR p.pb p.rv p.n ok){w w':World}{m:Nat}{F:Nat->Prop}{X:PS τ}{T:PT τ}
theorem eZ{n:Nat}{f:Nat->FrS}{D:RS}{id:Nat}(h:D.has id=false):plO n f D id=none:=by unfold plO;rw[h];rfl
theorem dP{n:Nat}{f:Nat->FrS}{D:RS}{id k:Nat}(h:D.has id=true)(hk:frm n f id=some k):plO n f D id=some (k:Int):=by unfold plO;rw[h,hk];rfl
theorem eG{n:Nat}{f:Nat->FrS}{D:RS}{id:Nat}(h:D.has id=true)(hk:frm n f id=none):plO n f D id=some (-1):=by unfold plO;rw[h,hk];rfl
theorem Inv.fpos{n:Nat}{f:Nat->FrS}{D:RS}(H:Inv n f D){id k:Nat}(h:D.has id=true)(hk:frm n f id=some k):k<n/\(f k).id=id/\1<=id:=⟨(bQ hk).1,(bQ hk).2,H.pos h⟩
include S
theorem AH(H:PW RR ok p X m w F)(hm:m<60000){k:Nat}(hk:k<p.n)(h0:¬(X.f k).id=0):Calls prog 66 #[p.ptr,.int .i64 k] w λe w'=>e=.returned (.tuple #[])/\Led (PW RR ok p (X.touch P k) (m+3)) F w w':=by
 have h1:1<=((CT p.n X).f k).id:=by show 1<=(X.f k).id;omega
 have e1:plO p.n (upd X.f k {X.f k with pins:=(X.f k).pins+1}) X.D=plO p.n X.f X.D:=iM hk rfl
 have e2:emB p.n (upd X.f k {X.f k with pins:=(X.f k).pins+1})=emB p.n X.f:=by
  rw[dw hk];exact bD (dC hk)
 have e3:idB p.n (upd X.f k {X.f k with pins:=(X.f k).pins+1})=ap (idB p.n X.f) k false:=by
  rw[cO hk]
  congr 1
  simp
 have hI:Inv p.n (upd X.f k {X.f k with pins:=(X.f k).pins+1}) X.D:=H.2.1.keep hk rfl h0 (H.2.1.vf k hk)
 have hE:∀{A:τ} {ev:Nat->Bool},ok (m+3) A (pgO X.f) ev->(∀i,i<p.n->ev i=upd (evO X.f) k false i)->ok (m+3) A (pgO (upd X.f k {X.f k with pins:=(X.f k).pins+1})) (evO (upd X.f k {X.f k with pins:=(X.f k).pins+1})):=λ{A ev} h he=>by
  refine S.same h (λi hi=>?_) (λi hi _=>?_)
  .rw[cN]
   by_cases e:i=k
   .rw[e,upd_same];rfl
   .rw[aa _ _ e]
  .rw[he i hi,cR]
   by_cases e:i=k
   .rw[e,upd_same,upd_same];simp
   .rw[aa _ _ e,aa _ _ e]
 by_cases hp:(X.f k).pins=0
 .refine(tF S (H.1.more (Nat.le_succ m)) (by omega) hk h1 (S.more H.2.2 (Nat.le_succ m)) rfl hp).mono ?_
  rintro e w'⟨he,hl⟩;refine⟨he,hl.mono (λF' h'=>?_)⟩
  dsimp only[CT]at h'
  have hw:PW RR ok p (X.touch P k) (m+3) w' F':=⟨by
   unfold CT PS.touch
   dsimp only
   rw[e1,e2,e3,if_pos hp];exact h',hI,by
   unfold PS.touch
   dsimp only
   rw[if_pos hp];refine hE (ev:=upd (evO X.f) k false) (S.more (S.okSet false (S.okOld H.2.2 (by omega) h1 hk rfl) (by omega) hk (by show¬(X.f k).id=0;exact h0)) (by omega)) (λi hi=>rfl)⟩
  exact hw
 .have hI0:idB p.n X.f k=false:=by rw[dm hk];simp[hp]
  refine(tI S (H.1.more (Nat.le_succ m)) (by omega) hk h1 (S.more H.2.2 (Nat.le_succ m)) rfl hp (by have:=(H.1.me.bd.2 k).2.2;show(X.f k).pins<m+1;exact Nat.lt_succ_of_le this)).mono ?_;rintro e w'⟨he,hl⟩;refine⟨he,hl.mono (λF' h'=>?_)⟩
  dsimp only[CT]at h'
  have hw:PW RR ok p (X.touch P k) (m+3) w' F':=⟨by
   unfold CT PS.touch
   dsimp only
   rw[e1,e2,e3,if_neg hp,bD hI0];exact h',hI,by
   unfold PS.touch
   dsimp only
   rw[if_neg hp];refine hE (ev:=evO X.f) (S.more (S.okOld H.2.2 (by omega) h1 hk rfl) (by omega)) (λi hi=>?_);by_cases e:i=k
   .rw[e,upd_same];unfold evO;simp[hp]
   .rw[aa _ _ e]⟩
  exact hw
theorem Gt(H:PW RR ok p X m w F){id:Nat}(hu:id<4294967296)(hh:X.D.has id=false):Calls prog 38 #[p.ptr,.int .u32 id] w λe w'=>e=.returned (.int .i64 3)/\w=w':=by
 have HA:=Hd (gG H.1.me hu (eZ hh));unfold PP.ptr at*;clear H S hh hu;go_enter func38,ntmps38
 go_wp2_with fail
 refine HA.out.mono ?_;rintro e w1⟨rfl,rfl⟩;go_wp2;go_returns;exact⟨rfl,rfl⟩
theorem Gu(H:PW RR ok p X m w F)(hm:m<60000){id k:Nat}(hu:id<4294967296)(hh:X.D.has id=true)(hk:frm p.n X.f id=some k):Calls prog 38 #[p.ptr,.int .u32 id] w λe w'=>e=.returned (.int .i64 0)/\Led (PW RR ok p (X.touch P k) (m+3)) F w w':=by
 obtain⟨h1,h2,h3⟩:=H.2.1.fpos hh hk;have HA:=Hd (aL H.1.me hu (dP hh hk));have HT:=Hd (AH S H hm h1 (by omega));unfold PP.ptr at*;clear H S hh hu hk h2;go_enter func38,ntmps38
 go_wp2_with fail
 refine HA.out.mono ?_;rintro e w1⟨rfl,rfl⟩;have hne:((k:Int)==(-1))=false:=by simp<;>omega
 go_wp2_with fail
 refine HT.out.mono ?_;rintro e w1⟨rfl,hl⟩;have HL:=Hd hl;clear hl;go_wp2;go_returns;exact⟨rfl,HL.out⟩
theorem EF(H:PW RR ok p X m w F){id:Nat}(hu:id<4294967296)(hh:X.D.has id=true)(hk:frm p.n X.f id=none)(ha:X.all p.n=true):Calls prog 38 #[p.ptr,.int .u32 id] w λe w'=>e=.returned (.int .i64 6)/\w=w':=by
 have HA:=Hd (aL H.1.me hu (eG hh hk));have hall:=bp H.1.me;rw[show(CT p.n X).E=emB p.n X.f from rfl,show(CT p.n X).I=idB p.n X.f from rfl,X.all_eq,ha]at hall;have HB:=Hd hall;unfold PP.ptr at*;clear H S hh hu hk hall;go_enter func38,ntmps38
 go_wp2_with fail
 refine HA.out.mono ?_;rintro e w1⟨rfl,rfl⟩
 go_wp2_with fail
 refine HB.out.mono ?_;rintro e w1⟨rfl,rfl⟩;go_wp2;go_returns;exact⟨rfl,rfl⟩
theorem pa(H:PW RR ok p X m w F)(hm:m<60000){id:Nat}(hu:id<4294967296)(hh:X.D.has id=true)(hk:frm p.n X.f id=none)(ha:¬X.all p.n=true):
  Calls prog 62 #[p.ptr,.int .u32 id] w (λe w'=>e=.returned (.tuple #[.int .i64 (plZ (X.room P p.n id).1.1),.int .i64 (X.room P p.n id).1.2])/\Led (PW RR ok p (X.room P p.n id).2 (m+6)) F w w')/\
  (∀i,i<p.n->¬((X.room P p.n id).2.f i).id=id)/\(X.room P p.n id).2.D.has id=true/\
  (∀k,(X.room P p.n id).1.1=some k->(X.room P p.n id).1.2=0/\k<p.n/\(X.room P p.n id).2.f k=zF)/\((X.room P p.n id).1.1=none->¬(X.room P p.n id).1.2=0):=by
 have h1:=H.2.1.pos hh;have hno:=dK hk;obtain⟨r1,r2,r3,r4,r5,r6,r7,r8⟩:=lG S (D0:=X.D) H.2.1 (by omega) H.2.2 h1 hno ha (λi _=>(H.1.me.bd.2 i).1);refine⟨(kp S (pl:=plO p.n X.f X.D) H.1 H.2.1.inj (by omega) H.2.2 h1 hu hno ha).mono ?_,r3,by rw[r4];exact hh,r7,λq=>(r8 q).1⟩;rintro e w'⟨he,hl⟩;refine⟨he,hl.mono (λF' h'=>⟨?_,r1,r2⟩)⟩;have e6:=r6 X.D H.2.1;rw[e6,<-qW r4]at h';exact h'
theorem Da(H:PW RR ok p X m w F)(hm:m<60000){id:Nat}(hu:id<4294967296)(hh:X.D.has id=true)(hk:frm p.n X.f id=none)(ha:¬X.all p.n=true)(hr:(X.room P p.n id).1.1=none):Calls prog 38 #[p.ptr,.int .u32 id] w λe w'=>e=.returned (.int .i64 (X.room P p.n id).1.2)/\Led (PW RR ok p (X.room P p.n id).2 (m+6)) F w w':=by
 have HA:=Hd (aL H.1.me hu (eG hh hk));have hall:=bp H.1.me;rw[show(CT p.n X).E=emB p.n X.f from rfl,show(CT p.n X).I=idB p.n X.f from rfl,X.all_eq,Bool.eq_false_iff.2 ha]at hall;have HB:=Hd hall;obtain⟨hc,_,_,_,r8⟩:=pa S H hm hu hh hk ha;have HC:=Hd hc;have r9:=r8 hr;have hne:((((X.room P p.n id).1.2:Nat):Int)==0)=false:=by simp<;>exact r9
 rw[hr,show plZ none= -1 from rfl]at HC;generalize(X.room P p.n id).1.2=er at*;generalize(X.room P p.n id).2=R at*;unfold PP.ptr at*;clear H S hh hu hk hall hc r8 r9 hr ha;go_enter func38,ntmps38
 go_wp2_with fail
 refine HA.out.mono ?_;rintro e w1⟨rfl,rfl⟩
 go_wp2_with fail
 refine HB.out.mono ?_;rintro e w1⟨rfl,rfl⟩
 go_wp2_with fail
 refine HC.out.mono ?_;rintro e w1⟨rfl,hl⟩;have HL:=Hd hl;clear hl;go_wp2;go_returns;exact⟨rfl,HL.out⟩
end
theorem Eg{α:Type}(f:Nat->α)(k:Nat)(x:α)(h:f k=x):upd f k x=f:=by
 funext i
 by_cases e:i=k
 .rw[e,upd_same,h]
 .rw[aa _ _ e]
section
variable{τ:Type}{P:Adv τ}{RR:World->τ->(Nat->Prop)->Prop}{ok:Nat->τ->(Nat->Nat)->(Nat->Bool)->Prop}{p:PP}(S:aJ P RR p.pb p.rv p.n ok){w w':World}{m:Nat}{F:Nat->Prop}{X:PS τ}{T:PT τ}
include S
theorem qP(H:PW RR ok p X m w F)(hm:m<70000)(hm1:1<=m){k id:Nat}(hk:k<p.n)(hz:X.f k=zF)(hh:X.D.has id=true)(hu:id<4294967296)(hno:∀i,i<p.n->¬(X.f i).id=id):Calls prog 64 #[p.ptr,.int .i64 k,.int .u32 id] w λe w'=>e=.returned (.tuple #[])/\Led (PW RR ok p {X with f:=upd X.f k ⟨id,0,1,false⟩,A:=P.access X.A k id} (m+1)) F w w':=by
 have h1:=H.2.1.pos hh;have hk0:(X.f k).id=0:=by rw[hz];rfl
 have hno':∀i,i<p.n->¬pgO X.f i=id:=hno;refine(jF S H.1 (by omega) hk h1 hu H.2.2 hk0 hno' hm1).mono ?_;rintro e w'⟨he,hl⟩;refine⟨he,hl.mono (λF' h'=>?_)⟩
 dsimp only[CT]at h'
 have e3:idB p.n X.f k=false:=by rw[dm hk,hk0];simp
 have hx:decide (id=0)=false:=decide_eq_false (by omega)
 have hw:PW RR ok p {X with f:=upd X.f k ⟨id,0,1,false⟩,A:=P.access X.A k id} (m+1) w' F':=⟨by
  unfold CT
  dsimp only
  rw[mV (x:=⟨id,0,1,false⟩) H.2.1 hk hk0 hh hno,dw hk,cO hk]
  dsimp only
  rw[hx,show(decide (¬id=0)&&decide (1=0))=false from by simp,bD e3];exact h',H.2.1.enter hk hk0 hh hno (by show 0<_;omega),by
  show ok (m+1) (P.access X.A k id) (pgO (upd X.f k ⟨id,0,1,false⟩)) (evO (upd X.f k ⟨id,0,1,false⟩))
  rw[cN,cR];exact S.okNew H.2.2 (by omega) h1 hu hk hk0 hno'⟩
 exact hw
theorem vj(H:PW RR ok p X m w F)(hm:m<70000){id:Nat}(hu:id<4294967296):Calls prog 13 #[.pointer (some ⟨p.db,0,none⟩),.int .u32 id] w λe w'=>e=.returned (.tuple #[.int .u64 (X.D.read id).1.1,.int .i64 (X.D.read id).1.2])/\Led (PW RR ok p {X with D:=(X.D.read id).2} (m+1)) F w w':=by
 refine(H.1.read S (by omega) hu).mono ?_;rintro e w'⟨he,hl⟩;refine⟨he,hl.mono (λF' h'=>?_)⟩
 dsimp only[CT]at h'
 have hw:PW RR ok p {X with D:=(X.D.read id).2} (m+1) w' F':=⟨by
  unfold CT
  dsimp only
  rw[qW (λx=>RS.read_has X.D id x)];exact h',H.2.1.read id,S.more H.2.2 (by omega)⟩
 exact hw
theorem mZ(H:PW RR ok p X m w F)(hm:m<70000){k:Nat}(hk:k<p.n)(h0:¬(X.f k).id=0):Calls prog 67 #[p.ptr,.int .i64 k] w λe w'=>e=.returned (.tuple #[])/\Led (PW RR ok p {X with f:=upd X.f k zF,A:=P.remove X.A k} (m+1)) F w w':=by
 have hE:emB p.n X.f k=false:=by rw[dC hk];simp[h0]
 refine(pk S H.1 (by omega) hk hE H.2.2 h0).mono ?_;rintro e w'⟨he,hl⟩;refine⟨he,hl.mono (λF' h'=>?_)⟩
 dsimp only[CT]at h'
 have hw:PW RR ok p {X with f:=upd X.f k zF,A:=P.remove X.A k} (m+1) w' F':=⟨by
  unfold CT
  dsimp only
  rw[od H.2.1 hk h0,dw hk,cO hk];exact h',H.2.1.vac hk,by
  show ok (m+1) (P.remove X.A k) (pgO (upd X.f k zF)) (evO (upd X.f k zF))
  rw[cN,cR];refine S.same (S.okRem H.2.2 (by omega) hk h0) (λi hi=>rfl) (λi hi q=>?_);by_cases e:i=k
  .rw[e,upd_same]at q;exact absurd rfl q
  .rw[aa _ _ e,aa _ _ e]⟩
 exact hw
theorem pc(H:PW RR ok p X m w F){k:Nat}(hk:k<p.n)(h0:¬(X.f k).id=0){x:FrS}(hx:x.id=(X.f k).id)(hp:x.pins=(X.f k).pins)(hxv:x.val<18446744073709551616)(h:MP w' p (upd X.f k x) (CT p.n X).pl (CT p.n X).E (CT p.n X).I X.sc (m+1))(g:Fr p.own w w'):Led (PW RR ok p {X with f:=upd X.f k x} (m+1)) F w w':=by
 refine(H.1.set h g (Nat.le_succ m) S).mono (λF' h'=>?_)
 dsimp only[CT]at h'
 have hw:PW RR ok p {X with f:=upd X.f k x} (m+1) w' F':=⟨by
  unfold CT
  dsimp only
  rw[iM hk hx,dw hk,cO hk,hx,hp,bD (dC hk),bD (dm hk)];exact h',H.2.1.keep hk hx h0 hxv,by
  show ok (m+1) X.A (pgO (upd X.f k x)) (evO (upd X.f k x))
  rw[cN,cR,hx,hp];refine S.same (S.more H.2.2 (Nat.le_succ m)) (λi hi=>?_) (λi hi q=>?_)
  .by_cases e:i=k
   .rw[e,upd_same];rfl
   .rw[aa _ _ e]
  .by_cases e:i=k
   .rw[e,upd_same];rfl
   .rw[aa _ _ e]⟩
 exact hw
theorem EH(H:PW RR ok p X m w F)(hm:m<60000){id k:Nat}(hu:id<4294967296)(hh:X.D.has id=true)(hk:frm p.n X.f id=none)(ha:¬X.all p.n=true)(hr:(X.room P p.n id).1.1=some k)(hq:¬((X.room P p.n id).2.D.read id).1.2=0):Calls prog 38 #[p.ptr,.int .u32 id] w λe w'=>e=.returned (.int .i64 ((X.room P p.n id).2.D.read id).1.2)/\
  Led (PW RR ok p {(X.room P p.n id).2 with D:=((X.room P p.n id).2.D.read id).2,A:=P.remove (P.access (X.room P p.n id).2.A k id) k} (m+10)) F w w':=by
 have HA:=Hd (aL H.1.me hu (eG hh hk));have hall:=bp H.1.me;rw[show(CT p.n X).E=emB p.n X.f from rfl,show(CT p.n X).I=idB p.n X.f from rfl,X.all_eq,Bool.eq_false_iff.2 ha]at hall;have HB:=Hd hall;have h1:=H.2.1.pos hh;obtain⟨hc,r3,r4,r7,_⟩:=pa S H hm hu hh hk ha;obtain⟨r9,r10,r11⟩:=r7 k hr;have HC:=Hd hc;rw[hr,r9,show plZ (some k)=(k:Int)from rfl]at HC;clear r7 hc hr r9;generalize(X.room P p.n id).2=R at*;have HE:Hid (∀w1 F1,PW RR ok p R (m+6) w1 F1->Calls prog 64 #[p.ptr,.int .i64 k,.int .u32 id] w1 λe w'=>e=.returned (.tuple #[])/\Led (PW RR ok p {R with f:=upd R.f k ⟨id,0,1,false⟩,A:=P.access R.A k id} (m+7)) F1 w1 w'):=λw1 F1 h=>qP S h (by omega) (by omega) r10 r11 r4 hu r3
 have HR:Hid (∀w1 F1,PW RR ok p {R with f:=upd R.f k ⟨id,0,1,false⟩,A:=P.access R.A k id} (m+7) w1 F1->Calls prog 13 #[.pointer (some ⟨p.db,0,none⟩),.int .u32 id] w1 λe w'=>e=.returned (.tuple #[.int .u64 (R.D.read id).1.1,.int .i64 (R.D.read id).1.2])/\Led (PW RR ok p {R with f:=upd R.f k ⟨id,0,1,false⟩,A:=P.access R.A k id,D:=(R.D.read id).2} (m+8)) F1 w1 w'):=λw1 F1 h=>vj S h (by omega) hu
 have HM:Hid (∀w1 F1,PW RR ok p {R with f:=upd R.f k ⟨id,0,1,false⟩,A:=P.access R.A k id,D:=(R.D.read id).2} (m+8) w1 F1->Calls prog 67 #[p.ptr,.int .i64 k] w1 λe w'=>e=.returned (.tuple #[])/\Led (PW RR ok p {R with D:=(R.D.read id).2,A:=P.remove (P.access R.A k id) k} (m+10)) F1 w1 w'):=λw1 F1 h=>by
  refine(mZ S h (by omega) r10 (by dsimp only;rw[upd_same];show¬id=0;omega)).mono ?_;rintro e w'⟨he,hl⟩;refine⟨he,hl.mono (λF' h'=>?_)⟩
  dsimp only at h'
  rw[iy,Eg _ _ _ r11]at h';exact h'.more S (by omega)
 have hne:((((R.D.read id).1.2:Nat):Int)==0)=false:=by simp<;>exact hq
 have KC:Hid (∀(Y:PS τ) j w1 F1,PW RR ok p Y j w1 F1->w1.cell? ⟨p.pb,0,none⟩=some (.pointer (some ⟨p.db,0,none⟩))/\p.pb<w1.heap.size):=λY j w1 F1 h=>h.1.c0
 unfold PP.ptr at*;clear H S hh hu hk hall ha r3 r4 r10 r11 hq h1;go_enter func38,ntmps38
 go_wp2_with fail
 refine HA.out.mono ?_;rintro e w1⟨rfl,rfl⟩
 go_wp2_with fail
 refine HB.out.mono ?_;rintro e w1⟨rfl,rfl⟩
 go_wp2_with fail
 refine HC.out.mono ?_;rintro e w1⟨rfl,F1,h1,g1,k1⟩;have HE1:=Hd (HE.out w1 F1 h1);have G1:=Hd g1;have K1:=Hd k1;clear h1 g1 k1 HE
 go_wp2_with fail
 refine HE1.out.mono ?_;rintro e w2⟨rfl,F2,h2,g2,k2⟩;have HR2:=Hd (HR.out w2 F2 h2);obtain⟨c2,lb2⟩:=KC.out _ _ w2 F2 h2;have G2:=Hd g2;have K2:=Hd k2;clear h2 g2 k2 HR HE1
 go_wp2_with fail
 refine HR2.out.mono ?_;rintro e w3⟨rfl,F3,h3,g3,k3⟩;have HM3:=Hd (HM.out w3 F3 h3);have G3:=Hd g3;have K3:=Hd k3;clear h3 g3 k3 HM HR2
 go_wp2_with fail
 refine HM3.out.mono ?_;rintro e w4⟨rfl,hl⟩;have HL:=Hd hl;clear hl;go_wp2;go_returns;exact⟨rfl,Led.trans G1.out K1.out (Led.trans G2.out K2.out (Led.trans G3.out K3.out HL.out))⟩
theorem Gn(H:PW RR ok p X m w F)(hm:m<60000){id k:Nat}(hu:id<4294967296)(hh:X.D.has id=true)(hk:frm p.n X.f id=none)(ha:¬X.all p.n=true)(hr:(X.room P p.n id).1.1=some k)(hq:((X.room P p.n id).2.D.read id).1.2=0)(hv:((X.room P p.n id).2.D.read id).1.1<18446744073709551616):Calls prog 38 #[p.ptr,.int .u32 id] w λe w'=>e=.returned (.int .i64 0)/\
  Led (PW RR ok p {(X.room P p.n id).2 with f:=upd (X.room P p.n id).2.f k ⟨id,((X.room P p.n id).2.D.read id).1.1,1,false⟩,D:=((X.room P p.n id).2.D.read id).2,A:=P.access (X.room P p.n id).2.A k id} (m+10)) F w w':=by
 have HA:=Hd (aL H.1.me hu (eG hh hk));have hall:=bp H.1.me;rw[show(CT p.n X).E=emB p.n X.f from rfl,show(CT p.n X).I=idB p.n X.f from rfl,X.all_eq,Bool.eq_false_iff.2 ha]at hall;have HB:=Hd hall;have h1:=H.2.1.pos hh;have hn:=H.1.me.hn;obtain⟨hc,r3,r4,r7,_⟩:=pa S H hm hu hh hk ha;obtain⟨r9,r10,r11⟩:=r7 k hr;have HC:=Hd hc;rw[hr,r9,show plZ (some k)=(k:Int)from rfl]at HC;clear r7 hc hr r9;generalize(X.room P p.n id).2=R at*;have HE:Hid (∀w1 F1,PW RR ok p R (m+6) w1 F1->Calls prog 64 #[p.ptr,.int .i64 k,.int .u32 id] w1 λe w'=>e=.returned (.tuple #[])/\Led (PW RR ok p {R with f:=upd R.f k ⟨id,0,1,false⟩,A:=P.access R.A k id} (m+7)) F1 w1 w'):=λw1 F1 h=>qP S h (by omega) (by omega) r10 r11 r4 hu r3
 have HR:Hid (∀w1 F1,PW RR ok p {R with f:=upd R.f k ⟨id,0,1,false⟩,A:=P.access R.A k id} (m+7) w1 F1->Calls prog 13 #[.pointer (some ⟨p.db,0,none⟩),.int .u32 id] w1 λe w'=>e=.returned (.tuple #[.int .u64 (R.D.read id).1.1,.int .i64 0])/\Led (PW RR ok p {R with f:=upd R.f k ⟨id,0,1,false⟩,A:=P.access R.A k id,D:=(R.D.read id).2} (m+8)) F1 w1 w'):=λw1 F1 h=>by
  have:=vj S h (by omega) hu
  dsimp only at this
  rw[hq]at this;exact this
 have HM:Hid (∀w1 F1,PW RR ok p {R with f:=upd R.f k ⟨id,0,1,false⟩,A:=P.access R.A k id,D:=(R.D.read id).2} (m+8) w1 F1->Led (PW RR ok p {R with f:=upd R.f k ⟨id,(R.D.read id).1.1,1,false⟩,D:=(R.D.read id).2,A:=P.access R.A k id} (m+10)) F1 w1 (w1.setCell ⟨p.fb,k*4+1,none⟩ (.int .u64 (R.D.read id).1.1))):=λw1 F1 h=>by
  have he:upd (frV (upd R.f k ⟨id,0,1,false⟩)) (k*4+1) (.int .u64 (R.D.read id).1.1)=frV (upd (upd R.f k ⟨id,0,1,false⟩) k ⟨id,(R.D.read id).1.1,1,false⟩):=by
   have:=lj (upd R.f k ⟨id,0,1,false⟩) k (R.D.read id).1.1;rw[upd_same]at this;exact this
  obtain⟨q1,q2⟩:=h.1.me.put1 (m':=m+9) (j:=1) r10 ⟨id,(R.D.read id).1.1,1,false⟩ _ he (by omega) ⟨hu,hv,by show 1<=m+9;omega⟩;refine(pc S h (x:=⟨id,(R.D.read id).1.1,1,false⟩) r10 (by dsimp only;rw[upd_same];show¬id=0;omega) (by dsimp only;rw[upd_same]) (by dsimp only;rw[upd_same]) hv q1 (q2.mono (λi q=>.inr (.inl q)))).mono (λF' h'=>?_)
  dsimp only at h'
  rw[iy]at h';exact h'.more S (by omega)
 have KC:Hid (∀(Y:PS τ) j w1 F1,PW RR ok p Y j w1 F1->w1.cell? ⟨p.pb,0,none⟩=some (.pointer (some ⟨p.db,0,none⟩))/\p.pb<w1.heap.size):=λY j w1 F1 h=>h.1.c0
 have KD:Hid (∀(Y:PS τ) j w1 F1,PW RR ok p Y j w1 F1->w1.cell? ⟨p.pb,2,none⟩=some (.slice (some ⟨p.fb,0,none⟩) p.n p.n)/\p.fb<w1.heap.size/\w1.cell? ⟨p.fb,k*4+1,none⟩=some (.int .u64 (Y.f k).val)/\w1.frozen? ⟨p.fb,k*4+1,none⟩=false):=λY j w1 F1 h=>⟨h.1.me.ce 2 (by omega),h.1.me.fr.lt,(h.1.me.cf r10).2.1,h.1.me.fr.frozen _⟩
 unfold PP.ptr at*;clear H S hh hu hk hall ha r3 r4 r11 hq h1 hv;go_enter func38,ntmps38
 go_wp2_with fail
 refine HA.out.mono ?_;rintro e w1⟨rfl,rfl⟩
 go_wp2_with fail
 refine HB.out.mono ?_;rintro e w1⟨rfl,rfl⟩
 go_wp2_with fail
 refine HC.out.mono ?_;rintro e w1⟨rfl,F1,h1,g1,k1⟩;have HE1:=Hd (HE.out w1 F1 h1);have G1:=Hd g1;have K1:=Hd k1;clear h1 g1 k1 HE
 go_wp2_with fail
 refine HE1.out.mono ?_;rintro e w2⟨rfl,F2,h2,g2,k2⟩;have HR2:=Hd (HR.out w2 F2 h2);obtain⟨c2,lb2⟩:=KC.out _ _ w2 F2 h2;have G2:=Hd g2;have K2:=Hd k2;clear h2 g2 k2 HR HE1
 go_wp2_with fail
 refine HR2.out.mono ?_;rintro e w3⟨rfl,F3,h3,g3,k3⟩;have HM3:=Hd (HM.out w3 F3 h3);obtain⟨c3,lb3⟩:=KC.out _ _ w3 F3 h3;obtain⟨d1,d2,d3,d4⟩:=KD.out _ _ w3 F3 h3;have G3:=Hd g3;have K3:=Hd k3;clear h3 g3 k3 HM HR2;go_wp2;go_returns;exact⟨rfl,Led.trans G1.out K1.out (Led.trans G2.out K2.out (Led.trans G3.out K3.out HM3.out))⟩
theorem BI(H:PW RR ok p X m w F)(hm:m<60000){id:Nat}(hu:id<4294967296):Calls prog 38 #[p.ptr,.int .u32 id] w λe w'=>e=.returned (.int .i64 (X.fetch P p.n id).1)/\Led (PW RR ok p (X.fetch P p.n id).2 (m+10)) F w w':=by
 unfold PS.fetch;by_cases hh:X.D.has id=true
 .rw[if_pos hh]
  cases hk:frm p.n X.f id with
  |some k=>
   refine(Gu S H hm hu hh hk).mono ?_;rintro e w'⟨he,hl⟩;exact⟨he,hl.mono (λF' h=>h.more S (by omega))⟩
  |none=>
   dsimp only
   by_cases ha:X.all p.n=true
   .rw[if_pos ha]
    refine(EF S H hu hh hk ha).mono ?_;rintro e w'⟨he,rfl⟩;exact⟨he,Led.refl (H.more S (by omega))⟩
   .rw[if_neg ha]
    have hno:=dK hk;obtain⟨r1,_⟩:=lG S (D0:=X.D) H.2.1 (by omega) H.2.2 (H.2.1.pos hh) hno ha (λi _=>(H.1.me.bd.2 i).1)
    cases hr:(X.room P p.n id).1.1 with
    |none=>
     refine(Da S H hm hu hh hk ha hr).mono ?_;rintro e w'⟨he,hl⟩;exact⟨he,hl.mono (λF' h=>h.more S (by omega))⟩
    |some k=>
     dsimp only
     by_cases hq:((X.room P p.n id).2.D.read id).1.2=0
     .rw[if_pos hq]
      exact Gn S H hm hu hh hk ha hr hq (RS.read_v r1.vd)
     .rw[if_neg hq]
      exact EH S H hm hu hh hk ha hr hq
 .rw[if_neg hh]
  refine(Gt S H hu (by simpa using hh)).mono ?_;rintro e w'⟨he,rfl⟩;exact⟨he,Led.refl (H.more S (by omega))⟩
end
section
variable{τ:Type}{P:Adv τ}{RR:World->τ->(Nat->Prop)->Prop}{ok:Nat->τ->(Nat->Nat)->(Nat->Bool)->Prop}{p:PP}(S:aJ P RR p.pb p.rv p.n ok){w w':World}{m:Nat}{F:Nat->Prop}{X:PS τ}{T:PT τ}
theorem held_case{n:Nat}(H:Inv n X.f X.D)(id:Nat):((X.held n id).2=0/\(X.held n id).1<n/\plO n X.f X.D id=some ((X.held n id).1:Int)/\¬(X.f (X.held n id).1).pins=0/\(X.f (X.held n id).1).id=id/\1<=id/\X.D.has id=true/\frm n X.f id=some (X.held n id).1)\/(¬(X.held n id).2=0/\oF n X.f (plO n X.f X.D) id (X.held n id).2):=by
 unfold PS.held;by_cases hh:X.D.has id=true
 .rw[if_pos hh]
  cases hk:frm n X.f id with
  |none=>exact .inr ⟨by show¬5=0;omega,.inr (.inl ⟨eG hh hk,rfl⟩)⟩
  |some k=>
   obtain⟨h1,h2,h3⟩:=H.fpos hh hk
   dsimp only
   by_cases hp:(X.f k).pins=0
   .rw[if_pos hp]
    exact .inr ⟨by show¬5=0;omega,.inr (.inr ⟨k,h1,dP hh hk,hp,rfl⟩)⟩
   .rw[if_neg hp]
    exact .inl ⟨rfl,h1,dP hh hk,hp,h2,h3,hh,rfl⟩
 .rw[if_neg hh]
  exact .inr ⟨by show¬3=0;omega,.inl ⟨eZ (by simpa using hh),rfl⟩⟩
include S
theorem Ga(H:PW RR ok p X m w F){id e0:Nat}(hu:id<4294967296)(h0:¬e0=0)(hh:oF p.n X.f (plO p.n X.f X.D) id e0):Calls prog 39 #[p.ptr,.int .u32 id] w λe w'=>e=.returned (.int .i64 e0)/\Fr NoF w w':=by
 have HA:=Hd (pd H.1.me hu hh);have hne:(((e0:Nat):Int)==0)=false:=by simp<;>exact h0
 unfold PP.ptr at*;clear H S hh hu;go_enter func39,ntmps39
 go_wp2_with fail
 refine HA.out.mono ?_;rintro e w1⟨rfl,rfl⟩;go_wp2;go_returns;exact⟨rfl,(Fr.refl NoF w).alloc _⟩
theorem zB(H:PW RR ok p X m w F)(hm:m<60000){id k:Nat}(hu:id<4294967296)(hk:k<p.n)(hpl:plO p.n X.f X.D id=some (k:Int))(hid:(X.f k).id=id)(h1:1<=id){XF:PS τ}
  (hXF:((X.f k).pins=1/\XF={X with f:=upd X.f k {X.f k with pins:=(X.f k).pins-1},A:=P.set X.A k true})\/(2<=(X.f k).pins/\XF={X with f:=upd X.f k {X.f k with pins:=(X.f k).pins-1}})):Calls prog 39 #[p.ptr,.int .u32 id] w λe w'=>e=.returned (.int .i64 0)/\
  Led (PW RR ok p XF (m+4)) F w w':=by
 have hp1:1<=(X.f k).pins:=by rcases hXF with⟨q,_⟩|⟨q,_⟩<;>omega
 have HA:=Hd (lS H.1.me hu hk hpl (by show¬(X.f k).pins=0;omega));obtain⟨b1,b3,b4⟩:=oT w (.int .i64 k) 3;have H1:=H.1.fr0 S b4;have lb:=H1.me.hd.lt;have lf:=H1.me.fr.lt;have hlt:=H.1.lt S;have c2:(w.alloc (.cells #[.int .i64 k] 3)).cell? ⟨p.pb,2,none⟩=some (.slice (some ⟨p.fb,0,none⟩) p.n p.n):=H1.me.ce 2 (by omega);have hn:=H.1.me.hn;obtain⟨e0,e1,e2,e3⟩:=H1.me.cf hk;have z2:=H1.me.fr.frozen (k*4+2);have hnF1:¬F w.heap.size:=λq=>by have:=hlt _ q;omega
 have hid0:¬(X.f k).id=0:=by omega
 have hbf:=H.1.me.bd.2 k
 have KP:Hid (∀z:Int,z=(((X.f k).pins-1:Nat):Int)->PI RR p {CT p.n X with f:=upd X.f k {X.f k with pins:=(X.f k).pins-1}} m ((w.alloc (.cells #[.int .i64 k] 3)).setCell ⟨p.fb,k*4+2,none⟩ (.int .i64 z)).drew F/\Fr F (w.alloc (.cells #[.int .i64 k] 3)) ((w.alloc (.cells #[.int .i64 k] 3)).setCell ⟨p.fb,k*4+2,none⟩ (.int .i64 z)).drew):=λz hz=>by
  subst hz;obtain⟨q1,q2⟩:=H1.me.put1 (m':=m) (j:=2) hk {X.f k with pins:=(X.f k).pins-1} (.int .i64 (((X.f k).pins-1:Nat):Int)) (qi X.f k _) (Nat.le_refl _) ⟨hbf.1,hbf.2.1,Nat.le_trans (Nat.sub_le _ _) hbf.2.2⟩;obtain⟨FD,FR,h,hF⟩:=H1;have g:Fr p.own (w.alloc (.cells #[.int .i64 k] 3)) ((w.alloc (.cells #[.int .i64 k] 3)).setCell ⟨p.fb,k*4+2,none⟩ (.int .i64 (((X.f k).pins-1:Nat):Int))).drew:=(q2.drew).mono (λi q=>.inr (.inl q));exact⟨⟨FD,FR,⟨q1.fr0 ((Fr.refl NoF _).drew),h.cd.fr g (λi q k=>(h.s1 i k).1 q),S.fr h.rr g (λi q k=>(h.s1 i k).2 q),h.s1,h.s2,h.t1⟩,hF⟩,g.mono (λi q=>(hF i).2 (.inl q))⟩
 have KX:Hid (∀w3 F3,PI RR p {CT p.n X with f:=upd X.f k {X.f k with pins:=(X.f k).pins-1}} m w3 F3->w3.cell? ⟨p.pb,2,none⟩=some (.slice (some ⟨p.fb,0,none⟩) p.n p.n)/\w3.cell? ⟨p.fb,k*4+2,none⟩=some (.int .i64 ((X.f k).pins-1:Nat))/\p.pb<w3.heap.size/\p.fb<w3.heap.size):=
  λw3 F3 h3=>⟨h3.me.ce 2 (by omega),by have:=(h3.me.cf hk).2.2.1;dsimp only at this;rw[upd_same]at this;exact this,h3.me.hd.lt,h3.me.fr.lt⟩
 have HS:Hid (∀w3 F3,PI RR p {CT p.n X with f:=upd X.f k {X.f k with pins:=(X.f k).pins-1}} m w3 F3->PI RR p {CT p.n X with f:=upd X.f k {X.f k with pins:=(X.f k).pins-1}} m w3.drew F3):=λw3 F3 h3=>h3.fr0 S ((Fr.refl NoF _).drew)
 have e1:plO p.n (upd X.f k {X.f k with pins:=(X.f k).pins-1}) X.D=plO p.n X.f X.D:=iM hk rfl
 have e2:emB p.n (upd X.f k {X.f k with pins:=(X.f k).pins-1})=emB p.n X.f:=by
  rw[dw hk];exact bD (dC hk)
 have hI:Inv p.n (upd X.f k {X.f k with pins:=(X.f k).pins-1}) X.D:=H.2.1.keep hk rfl hid0 (H.2.1.vf k hk)
 have KL:Hid (((X.f k).pins=1/\Hid (∀w3 F3,PI RR p {CT p.n X with f:=upd X.f k {X.f k with pins:=(X.f k).pins-1}} m w3 F3->Calls prog 59 #[.pointer (some ⟨p.pb,7,none⟩),.int .i64 k] w3 λe w'=>e=.returned (.tuple #[])/\Led (PI RR p {CT p.n X with f:=upd X.f k {X.f k with pins:=(X.f k).pins-1},I:=ap (idB p.n X.f) k true} m) F3 w3 w')/\
   Hid (∀w3 F3,PI RR p {CT p.n X with f:=upd X.f k {X.f k with pins:=(X.f k).pins-1},I:=ap (idB p.n X.f) k true} m w3 F3->w3.cell? ⟨w.heap.size,0,none⟩=some (.int .i64 k)->w.heap.size<w3.heap.size->¬F3 w.heap.size->Calls prog 69 #[p.ptr,.func (.func 70) #[] #[.pointer (some ⟨w.heap.size,0,none⟩)]] w3 λe w'=>e=.returned (.tuple #[])/\Led (PW RR ok p XF (m+4)) F3 w3 w'))\/
   (2<=(X.f k).pins/\Hid (∀w3 F3,PI RR p {CT p.n X with f:=upd X.f k {X.f k with pins:=(X.f k).pins-1}} m w3 F3->PW RR ok p XF (m+4) w3 F3))):=Hd (by
  rcases hXF with⟨hp,rfl⟩|⟨hp,rfl⟩
  .left
   have e3:idB p.n (upd X.f k {X.f k with pins:=(X.f k).pins-1})=ap (idB p.n X.f) k true:=by
    rw[cO hk]
    congr 1
    simp[hid0,hp]
   have hI0:idB p.n X.f k=false:=by rw[dm hk];simp[hp]
   have okS:=S.okSet true H.2.2 (by omega) hk (show¬pgO X.f k=0 from hid0)
   have hE:ok (m+1) (P.set X.A k true) (pgO (upd X.f k {X.f k with pins:=(X.f k).pins-1})) (evO (upd X.f k {X.f k with pins:=(X.f k).pins-1})):=by
    refine S.same okS (λi hi=>?_) (λi hi _=>?_)
    .rw[cN]
     by_cases e:i=k
     .rw[e,upd_same];rfl
     .rw[aa _ _ e]
    .rw[cR]
     by_cases e:i=k
     .rw[e,upd_same,upd_same];simp[hp]
     .rw[aa _ _ e,aa _ _ e]
   refine⟨hp,λw3 F3 h3=>?_,λw3 F3 h3 q1 q2 q3=>?_⟩
   .refine(Dt h3.me hk hI0).mono ?_
    rintro e w4⟨he,h4,g4⟩;exact⟨he,h3.set h4 g4 (Nat.le_refl _) S⟩
   .refine(h3.tell1 S Fh (λFR hr hF=>S.setT hr H.2.2 (by omega) hk (show¬pgO X.f k=0 from hid0) q1 q2 (λq=>q3 (hF _ q)) (.inr rfl))).mono ?_
    rintro e w'⟨he,hl⟩;refine⟨he,hl.mono (λF' h'=>?_)⟩
    dsimp only[CT]at h'
    have hw:PW RR ok p {X with f:=upd X.f k {X.f k with pins:=(X.f k).pins-1},A:=P.set X.A k true} (m+1) w' F':=⟨by
     unfold CT
     dsimp only
     rw[e1,e2,e3];exact h'.more (by omega),hI,hE⟩
    exact hw.more S (by omega)
  .right
   have e3:idB p.n (upd X.f k {X.f k with pins:=(X.f k).pins-1})=idB p.n X.f:=by
    rw[cO hk];refine bD ?_;rw[dm hk];have q1:¬(X.f k).pins=0:=by omega
    have q2:¬(X.f k).pins-1=0:=by omega
    simp[q1,q2]
   have hE:ok (m+1) X.A (pgO (upd X.f k {X.f k with pins:=(X.f k).pins-1})) (evO (upd X.f k {X.f k with pins:=(X.f k).pins-1})):=by
    refine S.same (S.more H.2.2 (Nat.le_succ m)) (λi hi=>?_) (λi hi _=>?_)
    .rw[cN]
     by_cases e:i=k
     .rw[e,upd_same];rfl
     .rw[aa _ _ e]
    .rw[cR]
     by_cases e:i=k
     .have q1:¬(X.f k).pins=0:=by omega
      have q2:¬(X.f k).pins-1=0:=by omega
      rw[e,upd_same];unfold evO;simp[q1,q2]
     .rw[aa _ _ e]
   refine⟨hp,λw3 F3 h'=>?_⟩
   dsimp only[CT]at h'
   have hw:PW RR ok p {X with f:=upd X.f k {X.f k with pins:=(X.f k).pins-1}} (m+1) w3 F3:=⟨by
    unfold CT
    dsimp only
    rw[e1,e2,e3];exact h'.more (by omega),hI,hE⟩
   exact hw.more S (by omega))
 have hpm:(X.f k).pins<900000:=by have q:(X.f k).pins<=m:=hbf.2.2;omega
 have e2':(w.alloc (.cells #[.int .i64 k] 3)).cell? ⟨p.fb,k*4+2,none⟩=some (.int .i64 (X.f k).pins):=(H1.me.cf hk).2.2.1;generalize hxp:(X.f k).pins=xp at*;have B4:=Hd b4;have HP:=Hd hpm;generalize hw2:(w.alloc (.cells #[.int .i64 k] 3))=w2 at*;unfold PP.ptr at*;clear H H1 S hlt b4 hu hbf hpl hid h1 hid0 e0 e1 e2 e3 hI hxp hXF;go_enter func39,ntmps39
 go_wp2_with fail
 refine HA.out.mono ?_;rintro e w1⟨rfl,rfl⟩;have hcw:IntKind.i64.wrap ((xp:Int)-1)=(xp:Int)-1:=IntWalk.i64_in _ (by omega)
 go_wp2_with fail
 try rw[hw2]
 clear hw2
 go_region
 all_goals
  obtain⟨hA,gA⟩:=KP.out ((xp:Int)-1) (by omega);generalize(w2.setCell ⟨p.fb,k*4+2,none⟩ (.int .i64 ((xp:Int)-1))).drew=wA at hA gA⊢;obtain⟨y1,y2,y3,y4⟩:=KX.out wA F hA;have y6:wA.cell? ⟨w.heap.size,0,none⟩=some (.int .i64 k):=by rw[gA.cell (p:=⟨w.heap.size,0,none⟩) (by show w.heap.size<_;omega) hnF1];exact b1
  have y7:=gA.size;have H3:=Hd hA;have G3:=Hd gA;clear hA gA KP c2 e2' z2 lb lf
  go_wp2_with fail
  rcases KL.out with⟨hp,KD,KT⟩|⟨hp,KF⟩
  .have hcp:((xp-1:Nat):Int)=0:=by omega
   clear hp KL;rw[hcp]at y2
   go_region
   all_goals
    go_wp2_with fail
    have y6d:wA.drew.cell? ⟨w.heap.size,0,none⟩=some (.int .i64 k):=y6;have y4d:p.pb<wA.drew.heap.size:=y3;have y7d:w2.heap.size<=wA.drew.heap.size:=y7;have H3d:=Hd (HS.out _ _ H3.out);have FD:Hid (Fr F wA wA.drew):=(Fr.refl _ wA).drew;generalize wA.drew=w3d at y6d y4d y7d H3d FD⊢;clear y1 y2 y3 y4 y6
    go_still_tail 4,(by kernel_rfl)
    go_wp2_with fail
    refine(KD.out _ F (HS.out _ _ H3d.out)).mono ?_;rintro e w4⟨rfl,F4,h4,g4,q4⟩;have z6:w4.cell? ⟨w.heap.size,0,none⟩=some (.int .i64 k):=by rw[g4.cell (p:=⟨w.heap.size,0,none⟩) (by show w.heap.size<w3d.heap.size;omega) hnF1];exact y6d
    have z8:w.heap.size<w4.heap.size:=Nat.lt_of_lt_of_le (by show w.heap.size<w3d.heap.size;omega) g4.size;have n4:¬F4 w.heap.size:=λq=>(q4 _ q).elim hnF1 (λq=>by have:w3d.heap.size<=w.heap.size:=q;omega)
    have HT:=Hd (KT.out w4 F4 h4 z6 z8 n4);have G4:=Hd g4;have Q4:=Hd q4;clear h4 g4 q4 KD KT z6
    go_wp2_with fail
    refine HT.out.mono ?_;rintro e w5⟨rfl,h5⟩;have H5:=Hd h5;clear h5;go_wp2;go_returns;exact⟨rfl,Led.trans (B4.out.mono (λ_ q=>q.elim)) (λi q=>.inl q) (Led.trans G3.out (λi q=>.inl q) (Led.trans (FD.out.trans (((Fr.refl _ w3d).drew).trans G4.out (λi q=>.inl q)) (λi q=>.inl q)) (λi q=>(Q4.out i q).imp (λq=>q) (λq=>by have:w3d.heap.size<=i:=q;have:=FD.out.size;omega)) H5.out))⟩
  .have hcp:(((xp-1:Nat):Int)==0)=false:=by simp<;>omega
   clear hp KL
   go_region
   all_goals
    go_wp2;go_returns;exact⟨rfl,Led.trans (B4.out.mono (λ_ q=>q.elim)) (λi q=>.inl q) (Led.trans G3.out (λi q=>.inl q) (Led.trans ((Fr.refl F wA).drew) (λi q=>.inl q) (Led.refl (KF.out _ _ (HS.out _ _ H3.out)))))⟩
theorem AX(H:PW RR ok p X m w F)(hm:m<60000){id:Nat}(hu:id<4294967296):Calls prog 39 #[p.ptr,.int .u32 id] w λe w'=>e=.returned (.int .i64 (X.unpin P p.n id).1)/\Led (PW RR ok p (X.unpin P p.n id).2 (m+10)) F w w':=by
 unfold PS.unpin;rcases held_case H.2.1 id with⟨h0,h1,h2,h3,h4,h5,h6,h7⟩|⟨h0,h1⟩
 .rw[if_pos h0]
  generalize(X.held p.n id).1=k at*;by_cases hp:(X.f k).pins=1
  .rw[if_pos hp]
   refine(zB S H hm hu h1 h2 h4 h5 (.inl ⟨hp,rfl⟩)).mono ?_;rintro e w'⟨he,hl⟩;exact⟨he,hl.mono (λF' h=>h.more S (by omega))⟩
  .rw[if_neg hp]
   refine(zB S H hm hu h1 h2 h4 h5 (.inr ⟨by omega,rfl⟩)).mono ?_;rintro e w'⟨he,hl⟩;exact⟨he,hl.mono (λF' h=>h.more S (by omega))⟩
 .rw[if_neg h0]
  refine(Ga S H hu h0 h1).mono ?_;rintro e w'⟨he,g⟩;exact⟨he,F,(H.fr0 S g).more S (by omega),g.mono (λ_ q=>q.elim),λi q=>.inl q⟩
end
section
variable{τ:Type}{P:Adv τ}{RR:World->τ->(Nat->Prop)->Prop}{ok:Nat->τ->(Nat->Nat)->(Nat->Bool)->Prop}{p:PP}{w w':World}{m:Nat}{F:Nat->Prop}{X:PS τ}{T:PT τ}
theorem yD(H:PW RR ok p X m w F){id:Nat}(hu:id<4294967296):Calls prog 40 #[p.ptr,.int .u32 id] w λe w'=>e=.returned (.tuple #[.int .u64 (X.read p.n id).1,.int .i64 (X.read p.n id).2])/\w=w':=by
 unfold PS.read;rcases held_case H.2.1 id with⟨h0,h1,h2,h3,h4,h5,h6,h7⟩|⟨h0,h1⟩
 .rw[if_pos h0]
  generalize(X.held p.n id).1=k at*;have HA:=Hd (lS H.1.me hu h1 h2 h3);obtain⟨_,c,_,_⟩:=H.1.me.cf h1;rw[show(CT p.n X).f=X.f from rfl]at c;have c2:w.cell? ⟨p.pb,2,none⟩=some (.slice (some ⟨p.fb,0,none⟩) p.n p.n):=H.1.me.ce 2 (by omega);have hn:=H.1.me.hn;have lb:=H.1.me.hd.lt;have lf:=H.1.me.fr.lt;generalize(X.f k).val=q at*;unfold PP.ptr at*;clear H hu h0 h2 h3 h4 h5 h6 h7;go_enter func40,ntmps40
  go_wp2_with fail
  refine HA.out.mono ?_;rintro e w1⟨rfl,rfl⟩;go_wp2;go_returns;exact⟨rfl,rfl⟩
 .rw[if_neg h0]
  have HA:=Hd (pd H.1.me hu h1);have hne:((((X.held p.n id).2:Nat):Int)==0)=false:=by simp<;>exact h0
  generalize(X.held p.n id).2=e0 at*;unfold PP.ptr at*;clear H hu h0 h1;go_enter func40,ntmps40
  go_wp2_with fail
  refine HA.out.mono ?_;rintro e w1⟨rfl,rfl⟩;go_wp2;go_returns;exact⟨rfl,rfl⟩
end
end
end Go.Proofs.YtoenclhimbpfeaaGreatDoor
