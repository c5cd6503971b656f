/- Part 35. -/
import Derived.Test.YtkjhnllcphidpaaGreatDoorQ34
namespace Go.Proofs.YtkjhnllcphidpaaGreatDoor
set_option linter.all false
set_option maxHeartbeats 16000000
set_option maxRecDepth 100000
section
open Go.Maps Go.Proofs.Tryz Go.RowKit
theorem pY(n:Nat)(I:Nat->Bool):cntB I n=0↔fstB n I=none:=by
 constructor
 .intro h
  cases e:fstB n I with
  |none=>rfl
  |some x=>obtain⟨h1,h2⟩:=aS e;have:=gJ h x h1;rw[h2.1]at this;cases this
 .intro h
  rcases Nat.eq_zero_or_pos (cntB I n)with q|q
  .exact q
  .obtain⟨x,h1,h2⟩:=nZ (S:=I) (n:=n) (by omega)
   rw[bM h x h1]at h2;cases h2
theorem PS.all_eq{τ:Type}(X:PS τ)(n:Nat):decide (cntB (emB n X.f) n=0/\cntB (idB n X.f) n=0)=X.all n:=by
 unfold PS.all;rw[Bool.eq_iff_iff];simp[pY]
section
variable{τ:Type}{P:Adv τ}{RR:World->τ->(Nat->Prop)->Prop}{ok:Nat->τ->(Nat->Nat)->(Nat->Bool)->Prop}{p:PP}(S:aJ P RR p.pb p.rv p.n ok){w w':World}{m:Nat}{F:Nat->Prop}{X:PS τ}{T:PT τ}
theorem PI.c0(H:PI RR p T m w F):w.cell? ⟨p.pb,0,none⟩=some (.pointer (some ⟨p.db,0,none⟩))/\p.pb<w.heap.size:=⟨H.me.ce 0 (by omega),H.me.hd.lt⟩
theorem PI.cdE(H:PI RR p T m w F):∃FD,CD p.db T.D m w FD:=by obtain⟨FD,FR,h,_⟩:=H;exact⟨FD,h.cd⟩
include S
theorem PI.free(H:PI RR p T m w F){id:Nat}(hu:id<4294967296):Calls prog 78 #[.pointer (some ⟨p.db,0,none⟩),.int .u32 id] w λe w'=>e=.returned (.int .i64 (T.D.free id).1)/\Led (PI RR p {T with D:=(T.D.free id).2} m) F w w':=
 H.disk S (Q:=λe _=>e=.returned (.int .i64 (T.D.free id).1)) (Nat.le_refl m) (λFD hd=>DF hd (by unfold aR;omega))
theorem PI.alloc(H:PI RR p T m w F)(hf:T.D.L.length<T.D.room):Calls prog 76 #[.pointer (some ⟨p.db,0,none⟩)] w λe w'=>e=.returned (.tuple #[.int .u32 (ah T.D.L+1:Nat),.int .i64 0])/\Led (PI RR p {T with D:=T.D.ins (ah T.D.L)} m) F w w':=
 H.disk S (Q:=λe _=>e=.returned (.tuple #[.int .u32 (ah T.D.L+1:Nat),.int .i64 0])) (Nat.le_refl m) (λFD hd=>yE hd hf)
theorem PI.full(H:PI RR p T m w F)(hf:T.D.room<=T.D.L.length):Calls prog 76 #[.pointer (some ⟨p.db,0,none⟩)] w λe w'=>e=.returned (.tuple #[.int .u32 0,.int .i64 2])/\Led (PI RR p T m) F w w':=
 H.disk S (Q:=λe _=>e=.returned (.tuple #[.int .u32 0,.int .i64 2])) (Nat.le_refl m) (λFD hd=>Dl hd hf)
theorem PI.read(H:PI RR p T m w F)(hm:m<80000){id:Nat}(hu:id<4294967296):Calls prog 82 #[.pointer (some ⟨p.db,0,none⟩),.int .u32 id] w λe w'=>e=.returned (.tuple #[.int .u64 (T.D.read id).1.1,.int .i64 (T.D.read id).1.2])/\Led (PI RR p {T with D:=(T.D.read id).2} (m+1)) F w w':=
 H.disk S (Q:=λe _=>e=.returned (.tuple #[.int .u64 (T.D.read id).1.1,.int .i64 (T.D.read id).1.2])) (Nat.le_succ m) (λFD hd=>CL hd (by omega) (by unfold aR;omega))
theorem ES(H:PW RR ok p X m w F)(ha:X.all p.n=true):Calls prog 42 #[p.ptr] w λe w'=>e=.returned (.tuple #[.int .u32 0,.int .i64 6])/\w=w':=by
 have HA:=bq H.1.me;rw[show(CT p.n X).E=emB p.n X.f from rfl,show(CT p.n X).I=idB p.n X.f from rfl,X.all_eq,ha]at HA;have HA1:=Hd HA;unfold PP.ptr at*;clear H S HA;go_enter func42,ntmps42
 go_wp2_with fail
 refine HA1.out.mono ?_;rintro e w1⟨rfl,rfl⟩;go_wp2;go_returns;exact⟨rfl,rfl⟩
theorem Cc(H:PW RR ok p X m w F)(ha:¬X.all p.n=true)(hf:X.D.room<=X.D.L.length):Calls prog 42 #[p.ptr] w λe w'=>e=.returned (.tuple #[.int .u32 0,.int .i64 2])/\Led (PW RR ok p X m) F w w':=by
 have HA:=bq H.1.me;rw[show(CT p.n X).E=emB p.n X.f from rfl,show(CT p.n X).I=idB p.n X.f from rfl,X.all_eq,Bool.eq_false_iff.2 ha]at HA;have HA1:=Hd HA;obtain⟨c0,lb⟩:=H.1.c0;have HL:=Hd ((H.1.full S hf).mono (λe w' ⟨he,hl⟩=>(⟨he,hl.mono (λF' h=>(⟨h,H.2⟩:PW RR ok p X m w' F'))⟩:e=Ending.returned (.tuple #[.int .u32 0,.int .i64 2])/\Led (PW RR ok p X m) F w w')));unfold PP.ptr at*;clear H S HA ha hf;go_enter func42,ntmps42
 go_wp2_with fail
 refine HA1.out.mono ?_;rintro e w1⟨rfl,rfl⟩
 go_wp2_with fail
 refine HL.out.mono ?_;rintro e w1⟨rfl,h1⟩;have H1:=Hd h1;clear h1;go_wp2;go_returns;exact⟨rfl,H1.out⟩
noncomputable def PS.alc(X:PS τ):PS τ:={X with D:=X.D.ins (ah X.D.L)}
theorem jt(H:PW RR ok p X m w F)(hf:X.D.L.length<X.D.room):ah X.D.L+1<4294967296/\(∀i,i<p.n->¬(X.f i).id=ah X.D.L+1)/\Inv p.n X.alc.f X.alc.D:=by
 obtain⟨FD,hcd⟩:=H.1.cdE;have hrm:X.D.room<=65535:=hcd.room.2;have hle:=(bS X.D.L).le;refine⟨by omega,λi hi q=>?_,H.2.1.ins hf⟩;have h1:=H.2.1.has i hi (by omega);rw[q,H.2.1.gap]at h1;cases h1
theorem uW(H:PW RR ok p X m w F)(hm:m<60000)(ha:¬X.all p.n=true)(hf:X.D.L.length<X.D.room):
  (∀w1 F1,PI RR p {CT p.n X with D:=X.D.ins (ah X.D.L)} m w1 F1->Calls prog 77 #[p.ptr,.int .u32 (ah X.D.L+1:Nat)] w1 λe w'=>e=.returned (.tuple #[.int .i64 (plZ (X.alc.room P p.n (ah X.D.L+1)).1.1),.int .i64 (X.alc.room P p.n (ah X.D.L+1)).1.2])/\
   Led (PI RR p ⟨(X.alc.room P p.n (ah X.D.L+1)).2.f,plO p.n (X.alc.room P p.n (ah X.D.L+1)).2.f X.D,emB p.n (X.alc.room P p.n (ah X.D.L+1)).2.f,idB p.n (X.alc.room P p.n (ah X.D.L+1)).2.f,(X.alc.room P p.n (ah X.D.L+1)).2.sc,(X.alc.room P p.n (ah X.D.L+1)).2.D,(X.alc.room P p.n (ah X.D.L+1)).2.A⟩ (m+6)) F1 w1 w')/\
  Inv p.n (X.alc.room P p.n (ah X.D.L+1)).2.f (X.alc.room P p.n (ah X.D.L+1)).2.D/\ok (m+6) (X.alc.room P p.n (ah X.D.L+1)).2.A (pgO (X.alc.room P p.n (ah X.D.L+1)).2.f) (evO (X.alc.room P p.n (ah X.D.L+1)).2.f)/\
  (∀i,i<p.n->¬((X.alc.room P p.n (ah X.D.L+1)).2.f i).id=ah X.D.L+1)/\(X.alc.room P p.n (ah X.D.L+1)).2.D.has (ah X.D.L+1)=true/\(∀x,(X.alc.room P p.n (ah X.D.L+1)).2.D.has x=(decide (x=ah X.D.L+1)||X.D.has x))/\
  (∀x,((X.alc.room P p.n (ah X.D.L+1)).2.D.free (ah X.D.L+1)).2.has x=X.D.has x)/\
  (∀k,(X.alc.room P p.n (ah X.D.L+1)).1.1=some k->(X.alc.room P p.n (ah X.D.L+1)).1.2=0/\k<p.n/\(X.alc.room P p.n (ah X.D.L+1)).2.f k=zF)/\((X.alc.room P p.n (ah X.D.L+1)).1.1=none->¬(X.alc.room P p.n (ah X.D.L+1)).1.2=0):=by
 obtain⟨hu,hno,hIa⟩:=jt S H hf;obtain⟨r1,r2,r3,r4,r5,r6,r7,r8⟩:=kQ S (X:=X.alc) (D0:=X.D) hIa (by omega) H.2.2 (id:=ah X.D.L+1) (by omega) hno ha (λi _=>(H.1.me.bd.2 i).1);have e6:=r6 X.D H.2.1
 have h4:∀x,(X.alc.room P p.n (ah X.D.L+1)).2.D.has x=(decide (x=ah X.D.L+1)||X.D.has x):=λx=>by
  rw[r4]
  show(X.D.ins _).has _=_
  rw[RS.ins_has]
 have hhas:(X.alc.room P p.n (ah X.D.L+1)).2.D.has (ah X.D.L+1)=true:=by rw[h4];simp
 refine⟨λw1 F1 h=>?_,r1,r2,r3,hhas,h4,λx=>?_,r7,λq=>(r8 q).1⟩
 .have:=kT S (X:=X.alc) (pl:=plO p.n X.f X.D) h H.2.1.inj (by omega) H.2.2 (by omega) hu hno ha
  rw[show plO p.n X.alc.f X.D=plO p.n X.f X.D from rfl]at e6;rw[e6]at this;exact this
 .obtain⟨s,hs⟩:=r1.dr
  rw[hs.free_has hhas,h4];by_cases q:x=ah X.D.L+1
  .rw[q,H.2.1.gap];simp
  .simp[q]
theorem CJ(H:PW RR ok p X m w F)(hm:m<60000)(ha:¬X.all p.n=true)(hf:X.D.L.length<X.D.room)(hr:(X.alc.room P p.n (ah X.D.L+1)).1.1=none):Calls prog 42 #[p.ptr] w λe w'=>e=.returned (.tuple #[.int .u32 0,.int .i64 (X.alc.room P p.n (ah X.D.L+1)).1.2])/\
  Led (PW RR ok p {(X.alc.room P p.n (ah X.D.L+1)).2 with D:=((X.alc.room P p.n (ah X.D.L+1)).2.D.free (ah X.D.L+1)).2} (m+10)) F w w':=by
 have HA:=bq H.1.me;rw[show(CT p.n X).E=emB p.n X.f from rfl,show(CT p.n X).I=idB p.n X.f from rfl,X.all_eq,Bool.eq_false_iff.2 ha]at HA;have HA1:=Hd HA;obtain⟨c0,lb⟩:=H.1.c0;obtain⟨hu,_,_⟩:=jt S H hf;have hl0:=H.1.alloc S hf;rw[show(CT p.n X).D=X.D from rfl]at hl0;have HL:=Hd hl0;clear hl0;obtain⟨hroom,r1,r2,r3,r4,r5,r6,r7,r8⟩:=uW S H hm ha hf;have HRoom:=Hd hroom;have r9:=r8 hr;clear hroom r7 r8 r5;generalize X.alc.room P p.n (ah X.D.L+1)=R at*;obtain⟨⟨q1,q2⟩,R2⟩:=R
 dsimp only at*
 subst hr
 have HFin:Hid (∀w2 F2,PI RR p ⟨R2.f,plO p.n R2.f X.D,emB p.n R2.f,idB p.n R2.f,R2.sc,R2.D,R2.A⟩ (m+6) w2 F2->Calls prog 78 #[.pointer (some ⟨p.db,0,none⟩),.int .u32 (ah X.D.L+1:Nat)] w2 λe w'=>(∃x,e=.returned x)/\Led (PW RR ok p {R2 with D:=(R2.D.free (ah X.D.L+1)).2} (m+10)) F2 w2 w'):=λw2 F2 h=>by
  refine(h.free S hu).mono ?_;rintro e w'⟨he,hl⟩;refine⟨⟨_,he⟩,hl.mono (λF' h'=>?_)⟩
  dsimp only at h'
  have hw:PW RR ok p {R2 with D:=(R2.D.free (ah X.D.L+1)).2} (m+6) w' F':=⟨by
   unfold CT
   dsimp only
   rw[ry r6];exact h',r1.free r3,r2⟩
  exact hw.more S (by omega)
 have hne:(((q2:Nat):Int)==0)=false:=by simp<;>exact r9
 unfold PP.ptr at*;clear H S HA ha hf r1 r2 r3 r4 r6 r9;generalize hgi:ah X.D.L+1=id at*;clear hgi hu;go_enter func42,ntmps42
 go_wp2_with fail
 refine HA1.out.mono ?_;rintro e w1⟨rfl,rfl⟩
 go_wp2_with fail
 refine HL.out.mono ?_;rintro e w1⟨rfl,F1,h1,g1,k1⟩;have HR1:=Hd (HRoom.out w1 F1 h1);obtain⟨_,lb1⟩:=h1.c0;have G1:=Hd g1;have K1:=Hd k1;clear h1 g1 k1 HRoom
 go_wp2_with fail
 refine HR1.out.mono ?_;rintro e w2⟨rfl,F2,h2,g2,k2⟩;have HF2:=Hd (HFin.out w2 F2 h2);obtain⟨c2,lb2⟩:=h2.c0;have G2:=Hd g2;have K2:=Hd k2;clear h2 g2 k2 HFin HR1
 go_wp2_with fail
 refine HF2.out.mono ?_;rintro e w3⟨⟨x,rfl⟩,h3⟩;have H3:=Hd h3;clear h3;go_wp2;go_returns;exact⟨rfl,Led.trans G1.out K1.out (Led.trans G2.out K2.out H3.out)⟩
theorem Hk(H:PW RR ok p X m w F)(hm:m<60000)(ha:¬X.all p.n=true)(hf:X.D.L.length<X.D.room){k:Nat}(hr:(X.alc.room P p.n (ah X.D.L+1)).1.1=some k):Calls prog 42 #[p.ptr] w λe w'=>e=.returned (.tuple #[.int .u32 (ah X.D.L+1:Nat),.int .i64 0])/\
  Led (PW RR ok p {(X.alc.room P p.n (ah X.D.L+1)).2 with f:=upd (X.alc.room P p.n (ah X.D.L+1)).2.f k ⟨ah X.D.L+1,0,1,false⟩,A:=P.access (X.alc.room P p.n (ah X.D.L+1)).2.A k (ah X.D.L+1)} (m+10)) F w w':=by
 have HA:=bq H.1.me;rw[show(CT p.n X).E=emB p.n X.f from rfl,show(CT p.n X).I=idB p.n X.f from rfl,X.all_eq,Bool.eq_false_iff.2 ha]at HA;have HA1:=Hd HA;obtain⟨c0,lb⟩:=H.1.c0;obtain⟨hu,_,_⟩:=jt S H hf;have hl0:=H.1.alloc S hf;rw[show(CT p.n X).D=X.D from rfl]at hl0;have HL:=Hd hl0;clear hl0;obtain⟨hroom,r1,r2,r3,r4,r5,r6,r7,r8⟩:=uW S H hm ha hf;obtain⟨r9,r10,r11⟩:=r7 k hr;have HRoom:=Hd hroom;have hI0:=H.2.1;clear hroom r7 r8 r6;generalize X.alc.room P p.n (ah X.D.L+1)=R at*;obtain⟨⟨q1,q2⟩,R2⟩:=R
 dsimp only at*
 subst hr;subst r9;have hk0:(R2.f k).id=0:=by rw[r11];rfl
 have hkp:(R2.f k).pins=0:=by rw[r11];rfl
 have hno':∀i,i<p.n->¬pgO R2.f i=ah X.D.L+1:=r3
 have HFin:Hid (∀w2 F2,PI RR p ⟨R2.f,plO p.n R2.f X.D,emB p.n R2.f,idB p.n R2.f,R2.sc,R2.D,R2.A⟩ (m+6) w2 F2->Calls prog 79 #[p.ptr,.int .i64 k,.int .u32 (ah X.D.L+1:Nat)] w2 λe w'=>e=.returned (.tuple #[])/\Led (PW RR ok p {R2 with f:=upd R2.f k ⟨ah X.D.L+1,0,1,false⟩,A:=P.access R2.A k (ah X.D.L+1)} (m+10)) F2 w2 w'):=λw2 F2 h=>by
  refine(jZ S h (by omega) r10 (by omega) hu r2 hk0 hno' (by omega)).mono ?_;rintro e w'⟨he,hl⟩;refine⟨he,hl.mono (λF' h'=>?_)⟩
  dsimp only at h'
  have hw:PW RR ok p {R2 with f:=upd R2.f k ⟨ah X.D.L+1,0,1,false⟩,A:=P.access R2.A k (ah X.D.L+1)} (m+6+1) w' F':=⟨by
   unfold CT
   dsimp only
   have e1:plO p.n (upd R2.f k ⟨ah X.D.L+1,0,1,false⟩) R2.D=bP (plO p.n R2.f X.D) (ah X.D.L+1) (some (k:Int)):=by
    rw[oy (x:=⟨ah X.D.L+1,0,1,false⟩) r1 r10 hk0 r4 r3]
    funext y
    by_cases q:y=ah X.D.L+1
    .subst q;rw[b9,b9]
    .rw[bH _ _ q,bH _ _ q]
     unfold plO;rw[r5 y];simp[q]
   rw[e1,dE r10,da r10]
   have e2:ao (idB p.n R2.f) k (decide (¬(FrS.id ⟨ah X.D.L+1,0,1,false⟩)=0)&&decide ((FrS.pins ⟨ah X.D.L+1,0,1,false⟩)=0))=idB p.n R2.f:=by
    have e3:idB p.n R2.f k=false:=by rw[dt r10,hk0];simp
    rw[show(decide (¬(FrS.id ⟨ah X.D.L+1,0,1,false⟩)=0)&&decide ((FrS.pins ⟨ah X.D.L+1,0,1,false⟩)=0))=false from by simp];exact bC e3
   rw[e2,show decide ((FrS.id ⟨ah X.D.L+1,0,1,false⟩)=0)=false from by simp];exact h',r1.enter r10 hk0 r4 r3 (by show 0<_;omega),by
   show ok (m+6+1) (P.access R2.A k (ah X.D.L+1)) (pgO (upd R2.f k ⟨ah X.D.L+1,0,1,false⟩)) (evO (upd R2.f k ⟨ah X.D.L+1,0,1,false⟩))
   rw[dc,cU];exact S.okNew r2 (by omega) (by omega) hu r10 hk0 hno'⟩
  exact hw.more S (by omega)
 unfold PP.ptr at*;clear H S HA ha hf r1 r2 r3 r4 r5 r10 r11 hk0 hkp hno' hI0;generalize hgi:ah X.D.L+1=id at*;clear hgi hu;have hpz:plZ (some k)=(k:Int):=rfl;rw[hpz]at HRoom;go_enter func42,ntmps42
 go_wp2_with fail
 refine HA1.out.mono ?_;rintro e w1⟨rfl,rfl⟩
 go_wp2_with fail
 refine HL.out.mono ?_;rintro e w1⟨rfl,F1,h1,g1,k1⟩;have HR1:=Hd (HRoom.out w1 F1 h1);obtain⟨_,lb1⟩:=h1.c0;have G1:=Hd g1;have K1:=Hd k1;clear h1 g1 k1 HRoom
 go_wp2_with fail
 refine HR1.out.mono ?_;rintro e w2⟨rfl,F2,h2,g2,k2⟩;have HF2:=Hd (HFin.out w2 F2 h2);obtain⟨c2,lb2⟩:=h2.c0;have G2:=Hd g2;have K2:=Hd k2;clear h2 g2 k2 HFin HR1
 go_wp2_with fail
 refine HF2.out.mono ?_;rintro e w3⟨rfl,h3⟩;have H3:=Hd h3;clear h3;go_wp2;go_returns;exact⟨rfl,Led.trans G1.out K1.out (Led.trans G2.out K2.out H3.out)⟩
theorem yT(H:PW RR ok p X m w F)(hm:m<60000):Calls prog 42 #[p.ptr] w λe w'=>e=.returned (.tuple #[.int .u32 (X.newPage P p.n).1.1,.int .i64 (X.newPage P p.n).1.2])/\Led (PW RR ok p (X.newPage P p.n).2 (m+10)) F w w':=by
 unfold PS.newPage;by_cases ha:X.all p.n=true
 .rw[if_pos ha]
  refine(ES S H ha).mono ?_;rintro e w'⟨he,rfl⟩;exact⟨he,Led.refl (H.more S (by omega))⟩
 .rw[if_neg ha]
  by_cases hf:X.D.room<=X.D.L.length
  .rw[if_pos hf]
   refine(Cc S H ha hf).mono ?_;rintro e w'⟨he,hl⟩;exact⟨he,hl.mono (λF' h=>h.more S (by omega))⟩
  .rw[if_neg hf]
   have hf':X.D.L.length<X.D.room:=by omega
   cases hr:(X.alc.room P p.n (ah X.D.L+1)).1.1 with
   |none=>
    have:=CJ S H hm ha hf' hr;unfold PS.alc at hr this;rw[hr];exact this
   |some k=>
    have:=Hk S H hm ha hf' hr;unfold PS.alc at hr this;rw[hr];exact this
end
section
variable{τ:Type}{P:Adv τ}{RR:World->τ->(Nat->Prop)->Prop}{ok:Nat->τ->(Nat->Nat)->(Nat->Bool)->Prop}{p:PP}(S:aJ P RR p.pb p.rv p.n ok){w w':World}{m:Nat}{F:Nat->Prop}{X:PS τ}{T:PT τ}
theorem dV{n:Nat}{f:Nat->FrS}{D:RS}{id:Nat}(h:D.has id=false):plO n f D id=none:=by unfold plO;rw[h];rfl
theorem ec{n:Nat}{f:Nat->FrS}{D:RS}{id k:Nat}(h:D.has id=true)(hk:frm n f id=some k):plO n f D id=some (k:Int):=by unfold plO;rw[h,hk];rfl
theorem eH{n:Nat}{f:Nat->FrS}{D:RS}{id:Nat}(h:D.has id=true)(hk:frm n f id=none):plO n f D id=some (-1):=by unfold plO;rw[h,hk];rfl
theorem Inv.fpos{n:Nat}{f:Nat->FrS}{D:RS}(H:Inv n f D){id k:Nat}(h:D.has id=true)(hk:frm n f id=some k):k<n/\(f k).id=id/\1<=id:=⟨(cK hk).1,(cK hk).2,H.pos h⟩
include S
theorem AY(H:PW RR ok p X m w F)(hm:m<60000){k:Nat}(hk:k<p.n)(h0:¬(X.f k).id=0):Calls prog 81 #[p.ptr,.int .i64 k] w λe w'=>e=.returned (.tuple #[])/\Led (PW RR ok p (X.touch P k) (m+3)) F w w':=by
 have h1:1<=((CT p.n X).f k).id:=by show 1<=(X.f k).id;omega
 have e1:plO p.n (upd X.f k {X.f k with pins:=(X.f k).pins+1}) X.D=plO p.n X.f X.D:=iK hk rfl
 have e2:emB p.n (upd X.f k {X.f k with pins:=(X.f k).pins+1})=emB p.n X.f:=by
  rw[dE hk];exact bC (dN hk)
 have e3:idB p.n (upd X.f k {X.f k with pins:=(X.f k).pins+1})=ao (idB p.n X.f) k false:=by
  rw[da hk]
  congr 1
  simp
 have hI:Inv p.n (upd X.f k {X.f k with pins:=(X.f k).pins+1}) X.D:=H.2.1.keep hk rfl h0 (H.2.1.vf k hk)
 have hE:∀{A:τ} {ev:Nat->Bool},ok (m+3) A (pgO X.f) ev->(∀i,i<p.n->ev i=upd (evO X.f) k false i)->ok (m+3) A (pgO (upd X.f k {X.f k with pins:=(X.f k).pins+1})) (evO (upd X.f k {X.f k with pins:=(X.f k).pins+1})):=λ{A ev} h he=>by
  refine S.same h (λi hi=>?_) (λi hi _=>?_)
  .rw[dc]
   by_cases e:i=k
   .rw[e,upd_same];rfl
   .rw[ab _ _ e]
  .rw[he i hi,cU]
   by_cases e:i=k
   .rw[e,upd_same,upd_same];simp
   .rw[ab _ _ e,ab _ _ e]
 by_cases hp:(X.f k).pins=0
 .refine(uD S (H.1.more (Nat.le_succ m)) (by omega) hk h1 (S.more H.2.2 (Nat.le_succ m)) rfl hp).mono ?_
  rintro e w'⟨he,hl⟩;refine⟨he,hl.mono (λF' h'=>?_)⟩
  dsimp only[CT]at h'
  have hw:PW RR ok p (X.touch P k) (m+3) w' F':=⟨by
   unfold CT PS.touch
   dsimp only
   rw[e1,e2,e3,if_pos hp];exact h',hI,by
   unfold PS.touch
   dsimp only
   rw[if_pos hp];refine hE (ev:=upd (evO X.f) k false) (S.more (S.okSet false (S.okOld H.2.2 (by omega) h1 hk rfl) (by omega) hk (by show¬(X.f k).id=0;exact h0)) (by omega)) (λi hi=>rfl)⟩
  exact hw
 .have hI0:idB p.n X.f k=false:=by rw[dt hk];simp[hp]
  refine(rZ S (H.1.more (Nat.le_succ m)) (by omega) hk h1 (S.more H.2.2 (Nat.le_succ m)) rfl hp (by have:=(H.1.me.bd.2 k).2.2;show(X.f k).pins<m+1;exact Nat.lt_succ_of_le this)).mono ?_;rintro e w'⟨he,hl⟩;refine⟨he,hl.mono (λF' h'=>?_)⟩
  dsimp only[CT]at h'
  have hw:PW RR ok p (X.touch P k) (m+3) w' F':=⟨by
   unfold CT PS.touch
   dsimp only
   rw[e1,e2,e3,if_neg hp,bC hI0];exact h',hI,by
   unfold PS.touch
   dsimp only
   rw[if_neg hp];refine hE (ev:=evO X.f) (S.more (S.okOld H.2.2 (by omega) h1 hk rfl) (by omega)) (λi hi=>?_);by_cases e:i=k
   .rw[e,upd_same];unfold evO;simp[hp]
   .rw[ab _ _ e]⟩
  exact hw
theorem Gm(H:PW RR ok p X m w F){id:Nat}(hu:id<4294967296)(hh:X.D.has id=false):Calls prog 43 #[p.ptr,.int .u32 id] w λe w'=>e=.returned (.int .i64 3)/\w=w':=by
 have HA:=Hd (eA H.1.me hu (dV hh));unfold PP.ptr at*;clear H S hh hu;go_enter func43,ntmps43
 go_wp2_with fail
 refine HA.out.mono ?_;rintro e w1⟨rfl,rfl⟩;go_wp2;go_returns;exact⟨rfl,rfl⟩
theorem GE(H:PW RR ok p X m w F)(hm:m<60000){id k:Nat}(hu:id<4294967296)(hh:X.D.has id=true)(hk:frm p.n X.f id=some k):Calls prog 43 #[p.ptr,.int .u32 id] w λe w'=>e=.returned (.int .i64 0)/\Led (PW RR ok p (X.touch P k) (m+3)) F w w':=by
 obtain⟨h1,h2,h3⟩:=H.2.1.fpos hh hk;have HA:=Hd (aK H.1.me hu (ec hh hk));have HT:=Hd (AY S H hm h1 (by omega));unfold PP.ptr at*;clear H S hh hu hk h2;go_enter func43,ntmps43
 go_wp2_with fail
 refine HA.out.mono ?_;rintro e w1⟨rfl,rfl⟩;have hne:((k:Int)==(-1))=false:=by simp<;>omega
 go_wp2_with fail
 refine HT.out.mono ?_;rintro e w1⟨rfl,hl⟩;have HL:=Hd hl;clear hl;go_wp2;go_returns;exact⟨rfl,HL.out⟩
theorem Eo(H:PW RR ok p X m w F){id:Nat}(hu:id<4294967296)(hh:X.D.has id=true)(hk:frm p.n X.f id=none)(ha:X.all p.n=true):Calls prog 43 #[p.ptr,.int .u32 id] w λe w'=>e=.returned (.int .i64 6)/\w=w':=by
 have HA:=Hd (aK H.1.me hu (eH hh hk));have hall:=bq H.1.me;rw[show(CT p.n X).E=emB p.n X.f from rfl,show(CT p.n X).I=idB p.n X.f from rfl,X.all_eq,ha]at hall;have HB:=Hd hall;unfold PP.ptr at*;clear H S hh hu hk hall;go_enter func43,ntmps43
 go_wp2_with fail
 refine HA.out.mono ?_;rintro e w1⟨rfl,rfl⟩
 go_wp2_with fail
 refine HB.out.mono ?_;rintro e w1⟨rfl,rfl⟩;go_wp2;go_returns;exact⟨rfl,rfl⟩
theorem pN(H:PW RR ok p X m w F)(hm:m<60000){id:Nat}(hu:id<4294967296)(hh:X.D.has id=true)(hk:frm p.n X.f id=none)(ha:¬X.all p.n=true):
  Calls prog 77 #[p.ptr,.int .u32 id] w (λe w'=>e=.returned (.tuple #[.int .i64 (plZ (X.room P p.n id).1.1),.int .i64 (X.room P p.n id).1.2])/\Led (PW RR ok p (X.room P p.n id).2 (m+6)) F w w')/\
  (∀i,i<p.n->¬((X.room P p.n id).2.f i).id=id)/\(X.room P p.n id).2.D.has id=true/\
  (∀k,(X.room P p.n id).1.1=some k->(X.room P p.n id).1.2=0/\k<p.n/\(X.room P p.n id).2.f k=zF)/\((X.room P p.n id).1.1=none->¬(X.room P p.n id).1.2=0):=by
 have h1:=H.2.1.pos hh;have hno:=dT hk;obtain⟨r1,r2,r3,r4,r5,r6,r7,r8⟩:=kQ S (D0:=X.D) H.2.1 (by omega) H.2.2 h1 hno ha (λi _=>(H.1.me.bd.2 i).1);refine⟨(kT S (pl:=plO p.n X.f X.D) H.1 H.2.1.inj (by omega) H.2.2 h1 hu hno ha).mono ?_,r3,by rw[r4];exact hh,r7,λq=>(r8 q).1⟩;rintro e w'⟨he,hl⟩;refine⟨he,hl.mono (λF' h'=>⟨?_,r1,r2⟩)⟩;have e6:=r6 X.D H.2.1;rw[e6,<-ry r4]at h';exact h'
theorem DD(H:PW RR ok p X m w F)(hm:m<60000){id:Nat}(hu:id<4294967296)(hh:X.D.has id=true)(hk:frm p.n X.f id=none)(ha:¬X.all p.n=true)(hr:(X.room P p.n id).1.1=none):Calls prog 43 #[p.ptr,.int .u32 id] w λe w'=>e=.returned (.int .i64 (X.room P p.n id).1.2)/\Led (PW RR ok p (X.room P p.n id).2 (m+6)) F w w':=by
 have HA:=Hd (aK H.1.me hu (eH hh hk));have hall:=bq H.1.me;rw[show(CT p.n X).E=emB p.n X.f from rfl,show(CT p.n X).I=idB p.n X.f from rfl,X.all_eq,Bool.eq_false_iff.2 ha]at hall;have HB:=Hd hall;obtain⟨hc,_,_,_,r8⟩:=pN S H hm hu hh hk ha;have HC:=Hd hc;have r9:=r8 hr;have hne:((((X.room P p.n id).1.2:Nat):Int)==0)=false:=by simp<;>exact r9
 rw[hr,show plZ none= -1 from rfl]at HC;generalize(X.room P p.n id).1.2=er at*;generalize(X.room P p.n id).2=R at*;unfold PP.ptr at*;clear H S hh hu hk hall hc r8 r9 hr ha;go_enter func43,ntmps43
 go_wp2_with fail
 refine HA.out.mono ?_;rintro e w1⟨rfl,rfl⟩
 go_wp2_with fail
 refine HB.out.mono ?_;rintro e w1⟨rfl,rfl⟩
 go_wp2_with fail
 refine HC.out.mono ?_;rintro e w1⟨rfl,hl⟩;have HL:=Hd hl;clear hl;go_wp2;go_returns;exact⟨rfl,HL.out⟩
end
theorem ET{α:Type}(f:Nat->α)(k:Nat)(x:α)(h:f k=x):upd f k x=f:=by
 funext i
 by_cases e:i=k
 .rw[e,upd_same,h]
 .rw[ab _ _ e]
section
variable{τ:Type}{P:Adv τ}{RR:World->τ->(Nat->Prop)->Prop}{ok:Nat->τ->(Nat->Nat)->(Nat->Bool)->Prop}{p:PP}(S:aJ P RR p.pb p.rv p.n ok){w w':World}{m:Nat}{F:Nat->Prop}{X:PS τ}{T:PT τ}
include S
theorem qE(H:PW RR ok p X m w F)(hm:m<70000)(hm1:1<=m){k id:Nat}(hk:k<p.n)(hz:X.f k=zF)(hh:X.D.has id=true)(hu:id<4294967296)(hno:∀i,i<p.n->¬(X.f i).id=id):Calls prog 79 #[p.ptr,.int .i64 k,.int .u32 id] w λe w'=>e=.returned (.tuple #[])/\Led (PW RR ok p {X with f:=upd X.f k ⟨id,0,1,false⟩,A:=P.access X.A k id} (m+1)) F w w':=by
 have h1:=H.2.1.pos hh;have hk0:(X.f k).id=0:=by rw[hz];rfl
 have hno':∀i,i<p.n->¬pgO X.f i=id:=hno;refine(jZ S H.1 (by omega) hk h1 hu H.2.2 hk0 hno' hm1).mono ?_;rintro e w'⟨he,hl⟩;refine⟨he,hl.mono (λF' h'=>?_)⟩
 dsimp only[CT]at h'
 have e3:idB p.n X.f k=false:=by rw[dt hk,hk0];simp
 have hx:decide (id=0)=false:=decide_eq_false (by omega)
 have hw:PW RR ok p {X with f:=upd X.f k ⟨id,0,1,false⟩,A:=P.access X.A k id} (m+1) w' F':=⟨by
  unfold CT
  dsimp only
  rw[oy (x:=⟨id,0,1,false⟩) H.2.1 hk hk0 hh hno,dE hk,da hk]
  dsimp only
  rw[hx,show(decide (¬id=0)&&decide (1=0))=false from by simp,bC e3];exact h',H.2.1.enter hk hk0 hh hno (by show 0<_;omega),by
  show ok (m+1) (P.access X.A k id) (pgO (upd X.f k ⟨id,0,1,false⟩)) (evO (upd X.f k ⟨id,0,1,false⟩))
  rw[dc,cU];exact S.okNew H.2.2 (by omega) h1 hu hk hk0 hno'⟩
 exact hw
theorem uJ(H:PW RR ok p X m w F)(hm:m<70000){id:Nat}(hu:id<4294967296):Calls prog 82 #[.pointer (some ⟨p.db,0,none⟩),.int .u32 id] w λe w'=>e=.returned (.tuple #[.int .u64 (X.D.read id).1.1,.int .i64 (X.D.read id).1.2])/\Led (PW RR ok p {X with D:=(X.D.read id).2} (m+1)) F w w':=by
 refine(H.1.read S (by omega) hu).mono ?_;rintro e w'⟨he,hl⟩;refine⟨he,hl.mono (λF' h'=>?_)⟩
 dsimp only[CT]at h'
 have hw:PW RR ok p {X with D:=(X.D.read id).2} (m+1) w' F':=⟨by
  unfold CT
  dsimp only
  rw[ry (λx=>RS.read_has X.D id x)];exact h',H.2.1.read id,S.more H.2.2 (by omega)⟩
 exact hw
theorem oq(H:PW RR ok p X m w F)(hm:m<70000){k:Nat}(hk:k<p.n)(h0:¬(X.f k).id=0):Calls prog 83 #[p.ptr,.int .i64 k] w λe w'=>e=.returned (.tuple #[])/\Led (PW RR ok p {X with f:=upd X.f k zF,A:=P.remove X.A k} (m+1)) F w w':=by
 have hE:emB p.n X.f k=false:=by rw[dN hk];simp[h0]
 refine(oT S H.1 (by omega) hk hE H.2.2 h0).mono ?_;rintro e w'⟨he,hl⟩;refine⟨he,hl.mono (λF' h'=>?_)⟩
 dsimp only[CT]at h'
 have hw:PW RR ok p {X with f:=upd X.f k zF,A:=P.remove X.A k} (m+1) w' F':=⟨by
  unfold CT
  dsimp only
  rw[o4 H.2.1 hk h0,dE hk,da hk];exact h',H.2.1.vac hk,by
  show ok (m+1) (P.remove X.A k) (pgO (upd X.f k zF)) (evO (upd X.f k zF))
  rw[dc,cU];refine S.same (S.okRem H.2.2 (by omega) hk h0) (λi hi=>rfl) (λi hi q=>?_);by_cases e:i=k
  .rw[e,upd_same]at q;exact absurd rfl q
  .rw[ab _ _ e,ab _ _ e]⟩
 exact hw
theorem pM(H:PW RR ok p X m w F){k:Nat}(hk:k<p.n)(h0:¬(X.f k).id=0){x:FrS}(hx:x.id=(X.f k).id)(hp:x.pins=(X.f k).pins)(hxv:x.val<18446744073709551616)(h:MP w' p (upd X.f k x) (CT p.n X).pl (CT p.n X).E (CT p.n X).I X.sc (m+1))(g:Fr p.own w w'):Led (PW RR ok p {X with f:=upd X.f k x} (m+1)) F w w':=by
 refine(H.1.set h g (Nat.le_succ m) S).mono (λF' h'=>?_)
 dsimp only[CT]at h'
 have hw:PW RR ok p {X with f:=upd X.f k x} (m+1) w' F':=⟨by
  unfold CT
  dsimp only
  rw[iK hk hx,dE hk,da hk,hx,hp,bC (dN hk),bC (dt hk)];exact h',H.2.1.keep hk hx h0 hxv,by
  show ok (m+1) X.A (pgO (upd X.f k x)) (evO (upd X.f k x))
  rw[dc,cU,hx,hp];refine S.same (S.more H.2.2 (Nat.le_succ m)) (λi hi=>?_) (λi hi q=>?_)
  .by_cases e:i=k
   .rw[e,upd_same];rfl
   .rw[ab _ _ e]
  .by_cases e:i=k
   .rw[e,upd_same];rfl
   .rw[ab _ _ e]⟩
 exact hw
theorem Ex(H:PW RR ok p X m w F)(hm:m<60000){id k:Nat}(hu:id<4294967296)(hh:X.D.has id=true)(hk:frm p.n X.f id=none)(ha:¬X.all p.n=true)(hr:(X.room P p.n id).1.1=some k)(hq:¬((X.room P p.n id).2.D.read id).1.2=0):Calls prog 43 #[p.ptr,.int .u32 id] w λe w'=>e=.returned (.int .i64 ((X.room P p.n id).2.D.read id).1.2)/\
  Led (PW RR ok p {(X.room P p.n id).2 with D:=((X.room P p.n id).2.D.read id).2,A:=P.remove (P.access (X.room P p.n id).2.A k id) k} (m+10)) F w w':=by
 have HA:=Hd (aK H.1.me hu (eH hh hk));have hall:=bq H.1.me;rw[show(CT p.n X).E=emB p.n X.f from rfl,show(CT p.n X).I=idB p.n X.f from rfl,X.all_eq,Bool.eq_false_iff.2 ha]at hall;have HB:=Hd hall;have h1:=H.2.1.pos hh;obtain⟨hc,r3,r4,r7,_⟩:=pN S H hm hu hh hk ha;obtain⟨r9,r10,r11⟩:=r7 k hr;have HC:=Hd hc;rw[hr,r9,show plZ (some k)=(k:Int)from rfl]at HC;clear r7 hc hr r9;generalize(X.room P p.n id).2=R at*;have HE:Hid (∀w1 F1,PW RR ok p R (m+6) w1 F1->Calls prog 79 #[p.ptr,.int .i64 k,.int .u32 id] w1 λe w'=>e=.returned (.tuple #[])/\Led (PW RR ok p {R with f:=upd R.f k ⟨id,0,1,false⟩,A:=P.access R.A k id} (m+7)) F1 w1 w'):=λw1 F1 h=>qE S h (by omega) (by omega) r10 r11 r4 hu r3
 have HR:Hid (∀w1 F1,PW RR ok p {R with f:=upd R.f k ⟨id,0,1,false⟩,A:=P.access R.A k id} (m+7) w1 F1->Calls prog 82 #[.pointer (some ⟨p.db,0,none⟩),.int .u32 id] w1 λe w'=>e=.returned (.tuple #[.int .u64 (R.D.read id).1.1,.int .i64 (R.D.read id).1.2])/\Led (PW RR ok p {R with f:=upd R.f k ⟨id,0,1,false⟩,A:=P.access R.A k id,D:=(R.D.read id).2} (m+8)) F1 w1 w'):=λw1 F1 h=>uJ S h (by omega) hu
 have HM:Hid (∀w1 F1,PW RR ok p {R with f:=upd R.f k ⟨id,0,1,false⟩,A:=P.access R.A k id,D:=(R.D.read id).2} (m+8) w1 F1->Calls prog 83 #[p.ptr,.int .i64 k] w1 λe w'=>e=.returned (.tuple #[])/\Led (PW RR ok p {R with D:=(R.D.read id).2,A:=P.remove (P.access R.A k id) k} (m+10)) F1 w1 w'):=λw1 F1 h=>by
  refine(oq S h (by omega) r10 (by dsimp only;rw[upd_same];show¬id=0;omega)).mono ?_;rintro e w'⟨he,hl⟩;refine⟨he,hl.mono (λF' h'=>?_)⟩
  dsimp only at h'
  rw[iR,ET _ _ _ r11]at h';exact h'.more S (by omega)
 have hne:((((R.D.read id).1.2:Nat):Int)==0)=false:=by simp<;>exact hq
 have KC:Hid (∀(Y:PS τ) j w1 F1,PW RR ok p Y j w1 F1->w1.cell? ⟨p.pb,0,none⟩=some (.pointer (some ⟨p.db,0,none⟩))/\p.pb<w1.heap.size):=λY j w1 F1 h=>h.1.c0
 unfold PP.ptr at*;clear H S hh hu hk hall ha r3 r4 r10 r11 hq h1;go_enter func43,ntmps43
 go_wp2_with fail
 refine HA.out.mono ?_;rintro e w1⟨rfl,rfl⟩
 go_wp2_with fail
 refine HB.out.mono ?_;rintro e w1⟨rfl,rfl⟩
 go_wp2_with fail
 refine HC.out.mono ?_;rintro e w1⟨rfl,F1,h1,g1,k1⟩;have HE1:=Hd (HE.out w1 F1 h1);have G1:=Hd g1;have K1:=Hd k1;clear h1 g1 k1 HE
 go_wp2_with fail
 refine HE1.out.mono ?_;rintro e w2⟨rfl,F2,h2,g2,k2⟩;have HR2:=Hd (HR.out w2 F2 h2);obtain⟨c2,lb2⟩:=KC.out _ _ w2 F2 h2;have G2:=Hd g2;have K2:=Hd k2;clear h2 g2 k2 HR HE1
 go_wp2_with fail
 refine HR2.out.mono ?_;rintro e w3⟨rfl,F3,h3,g3,k3⟩;have HM3:=Hd (HM.out w3 F3 h3);have G3:=Hd g3;have K3:=Hd k3;clear h3 g3 k3 HM HR2
 go_wp2_with fail
 refine HM3.out.mono ?_;rintro e w4⟨rfl,hl⟩;have HL:=Hd hl;clear hl;go_wp2;go_returns;exact⟨rfl,Led.trans G1.out K1.out (Led.trans G2.out K2.out (Led.trans G3.out K3.out HL.out))⟩
theorem Hc(H:PW RR ok p X m w F)(hm:m<60000){id k:Nat}(hu:id<4294967296)(hh:X.D.has id=true)(hk:frm p.n X.f id=none)(ha:¬X.all p.n=true)(hr:(X.room P p.n id).1.1=some k)(hq:((X.room P p.n id).2.D.read id).1.2=0)(hv:((X.room P p.n id).2.D.read id).1.1<18446744073709551616):Calls prog 43 #[p.ptr,.int .u32 id] w λe w'=>e=.returned (.int .i64 0)/\
  Led (PW RR ok p {(X.room P p.n id).2 with f:=upd (X.room P p.n id).2.f k ⟨id,((X.room P p.n id).2.D.read id).1.1,1,false⟩,D:=((X.room P p.n id).2.D.read id).2,A:=P.access (X.room P p.n id).2.A k id} (m+10)) F w w':=by
 have HA:=Hd (aK H.1.me hu (eH hh hk));have hall:=bq H.1.me;rw[show(CT p.n X).E=emB p.n X.f from rfl,show(CT p.n X).I=idB p.n X.f from rfl,X.all_eq,Bool.eq_false_iff.2 ha]at hall;have HB:=Hd hall;have h1:=H.2.1.pos hh;have hn:=H.1.me.hn;obtain⟨hc,r3,r4,r7,_⟩:=pN S H hm hu hh hk ha;obtain⟨r9,r10,r11⟩:=r7 k hr;have HC:=Hd hc;rw[hr,r9,show plZ (some k)=(k:Int)from rfl]at HC;clear r7 hc hr r9;generalize(X.room P p.n id).2=R at*;have HE:Hid (∀w1 F1,PW RR ok p R (m+6) w1 F1->Calls prog 79 #[p.ptr,.int .i64 k,.int .u32 id] w1 λe w'=>e=.returned (.tuple #[])/\Led (PW RR ok p {R with f:=upd R.f k ⟨id,0,1,false⟩,A:=P.access R.A k id} (m+7)) F1 w1 w'):=λw1 F1 h=>qE S h (by omega) (by omega) r10 r11 r4 hu r3
 have HR:Hid (∀w1 F1,PW RR ok p {R with f:=upd R.f k ⟨id,0,1,false⟩,A:=P.access R.A k id} (m+7) w1 F1->Calls prog 82 #[.pointer (some ⟨p.db,0,none⟩),.int .u32 id] w1 λe w'=>e=.returned (.tuple #[.int .u64 (R.D.read id).1.1,.int .i64 0])/\Led (PW RR ok p {R with f:=upd R.f k ⟨id,0,1,false⟩,A:=P.access R.A k id,D:=(R.D.read id).2} (m+8)) F1 w1 w'):=λw1 F1 h=>by
  have:=uJ S h (by omega) hu
  dsimp only at this
  rw[hq]at this;exact this
 have HM:Hid (∀w1 F1,PW RR ok p {R with f:=upd R.f k ⟨id,0,1,false⟩,A:=P.access R.A k id,D:=(R.D.read id).2} (m+8) w1 F1->Led (PW RR ok p {R with f:=upd R.f k ⟨id,(R.D.read id).1.1,1,false⟩,D:=(R.D.read id).2,A:=P.access R.A k id} (m+10)) F1 w1 (w1.setCell ⟨p.fb,k*4+1,none⟩ (.int .u64 (R.D.read id).1.1))):=λw1 F1 h=>by
  have he:upd (frV (upd R.f k ⟨id,0,1,false⟩)) (k*4+1) (.int .u64 (R.D.read id).1.1)=frV (upd (upd R.f k ⟨id,0,1,false⟩) k ⟨id,(R.D.read id).1.1,1,false⟩):=by
   have:=lY (upd R.f k ⟨id,0,1,false⟩) k (R.D.read id).1.1;rw[upd_same]at this;exact this
  obtain⟨q1,q2⟩:=h.1.me.put1 (m':=m+9) (j:=1) r10 ⟨id,(R.D.read id).1.1,1,false⟩ _ he (by omega) ⟨hu,hv,by show 1<=m+9;omega⟩;refine(pM S h (x:=⟨id,(R.D.read id).1.1,1,false⟩) r10 (by dsimp only;rw[upd_same];show¬id=0;omega) (by dsimp only;rw[upd_same]) (by dsimp only;rw[upd_same]) hv q1 (q2.mono (λi q=>.inr (.inl q)))).mono (λF' h'=>?_)
  dsimp only at h'
  rw[iR]at h';exact h'.more S (by omega)
 have KC:Hid (∀(Y:PS τ) j w1 F1,PW RR ok p Y j w1 F1->w1.cell? ⟨p.pb,0,none⟩=some (.pointer (some ⟨p.db,0,none⟩))/\p.pb<w1.heap.size):=λY j w1 F1 h=>h.1.c0
 have KD:Hid (∀(Y:PS τ) j w1 F1,PW RR ok p Y j w1 F1->w1.cell? ⟨p.pb,2,none⟩=some (.slice (some ⟨p.fb,0,none⟩) p.n p.n)/\p.fb<w1.heap.size/\w1.cell? ⟨p.fb,k*4+1,none⟩=some (.int .u64 (Y.f k).val)/\w1.frozen? ⟨p.fb,k*4+1,none⟩=false):=λY j w1 F1 h=>⟨h.1.me.ce 2 (by omega),h.1.me.fr.lt,(h.1.me.cf r10).2.1,h.1.me.fr.frozen _⟩
 unfold PP.ptr at*;clear H S hh hu hk hall ha r3 r4 r11 hq h1 hv;go_enter func43,ntmps43
 go_wp2_with fail
 refine HA.out.mono ?_;rintro e w1⟨rfl,rfl⟩
 go_wp2_with fail
 refine HB.out.mono ?_;rintro e w1⟨rfl,rfl⟩
 go_wp2_with fail
 refine HC.out.mono ?_;rintro e w1⟨rfl,F1,h1,g1,k1⟩;have HE1:=Hd (HE.out w1 F1 h1);have G1:=Hd g1;have K1:=Hd k1;clear h1 g1 k1 HE
 go_wp2_with fail
 refine HE1.out.mono ?_;rintro e w2⟨rfl,F2,h2,g2,k2⟩;have HR2:=Hd (HR.out w2 F2 h2);obtain⟨c2,lb2⟩:=KC.out _ _ w2 F2 h2;have G2:=Hd g2;have K2:=Hd k2;clear h2 g2 k2 HR HE1
 go_wp2_with fail
 refine HR2.out.mono ?_;rintro e w3⟨rfl,F3,h3,g3,k3⟩;have HM3:=Hd (HM.out w3 F3 h3);obtain⟨c3,lb3⟩:=KC.out _ _ w3 F3 h3;obtain⟨d1,d2,d3,d4⟩:=KD.out _ _ w3 F3 h3;have G3:=Hd g3;have K3:=Hd k3;clear h3 g3 k3 HM HR2;go_wp2;go_returns;exact⟨rfl,Led.trans G1.out K1.out (Led.trans G2.out K2.out (Led.trans G3.out K3.out HM3.out))⟩
theorem AU(H:PW RR ok p X m w F)(hm:m<60000){id:Nat}(hu:id<4294967296):Calls prog 43 #[p.ptr,.int .u32 id] w λe w'=>e=.returned (.int .i64 (X.fetch P p.n id).1)/\Led (PW RR ok p (X.fetch P p.n id).2 (m+10)) F w w':=by
 unfold PS.fetch;by_cases hh:X.D.has id=true
 .rw[if_pos hh]
  cases hk:frm p.n X.f id with
  |some k=>
   refine(GE S H hm hu hh hk).mono ?_;rintro e w'⟨he,hl⟩;exact⟨he,hl.mono (λF' h=>h.more S (by omega))⟩
  |none=>
   dsimp only
   by_cases ha:X.all p.n=true
   .rw[if_pos ha]
    refine(Eo S H hu hh hk ha).mono ?_;rintro e w'⟨he,rfl⟩;exact⟨he,Led.refl (H.more S (by omega))⟩
   .rw[if_neg ha]
    have hno:=dT hk;obtain⟨r1,_⟩:=kQ S (D0:=X.D) H.2.1 (by omega) H.2.2 (H.2.1.pos hh) hno ha (λi _=>(H.1.me.bd.2 i).1)
    cases hr:(X.room P p.n id).1.1 with
    |none=>
     refine(DD S H hm hu hh hk ha hr).mono ?_;rintro e w'⟨he,hl⟩;exact⟨he,hl.mono (λF' h=>h.more S (by omega))⟩
    |some k=>
     dsimp only
     by_cases hq:((X.room P p.n id).2.D.read id).1.2=0
     .rw[if_pos hq]
      exact Hc S H hm hu hh hk ha hr hq (RS.read_v r1.vd)
     .rw[if_neg hq]
      exact Ex S H hm hu hh hk ha hr hq
 .rw[if_neg hh]
  refine(Gm S H hu (by simpa using hh)).mono ?_;rintro e w'⟨he,rfl⟩;exact⟨he,Led.refl (H.more S (by omega))⟩
end
end
end Go.Proofs.YtkjhnllcphidpaaGreatDoor
