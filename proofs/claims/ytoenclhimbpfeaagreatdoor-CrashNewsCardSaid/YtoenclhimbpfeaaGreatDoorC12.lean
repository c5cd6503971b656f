/- Part 12. -/
import Derived.Test.YtoenclhimbpfeaaGreatDoorC11
namespace Go.Proofs.YtoenclhimbpfeaaGreatDoor
set_option linter.all false
set_option maxHeartbeats 16000000
set_option maxRecDepth 100000
section
open Go.Maps Go.Proofs.Tryz Go.RowKit
theorem cnt_none(n:Nat)(I:Nat->Bool):cntB I n=0↔fstB n I=none:=by
 constructor
 .intro h
  cases e:fstB n I with
  |none=>rfl
  |some x=>obtain⟨h1,h2⟩:=fstB_some e;have:=cntB_zero h x h1;rw[h2.1]at this;cases this
 .intro h
  rcases Nat.eq_zero_or_pos (cntB I n)with q|q
  .exact q
  .obtain⟨x,h1,h2⟩:=cntB_some (S:=I) (n:=n) (by omega)
   rw[fstB_none h x h1]at h2;cases h2
theorem PS.all_eq{τ:Type}(X:PS τ)(n:Nat):decide (cntB (emB n X.f) n=0∧cntB (idB n X.f) n=0)=X.all n:=by
 unfold PS.all;rw[Bool.eq_iff_iff];simp[cnt_none]
section
variable{τ:Type}{P:Adv τ}{RR:World->τ->(Nat->Prop)->Prop}{ok:Nat->τ->(Nat->Nat)->(Nat->Bool)->Prop}{p:PP}(S:RepSys P RR p.pb p.rv p.n ok){w w':World}{m:Nat}{F:Nat->Prop}{X:PS τ}{T:PT τ}
theorem PI.c0(H:PI RR p T m w F):w.cell? ⟨p.pb,0,none⟩=some (.pointer (some ⟨p.db,0,none⟩))∧p.pb<w.heap.size:=⟨H.me.ce 0 (by omega),H.me.hd.lt⟩
theorem PI.cdE(H:PI RR p T m w F):∃FD,CD p.db T.D m w FD:=by obtain⟨FD,FR,h,_⟩:=H;exact⟨FD,h.cd⟩
include S
theorem PI.free(H:PI RR p T m w F){id:Nat}(hu:id<4294967296):Calls prog 63 #[.pointer (some ⟨p.db,0,none⟩),.int .u32 id] w fun e w'=>e=.returned (.int .i64 (T.D.free id).1)∧Led (PI RR p {T with D:=(T.D.free id).2} m) F w w':=
 H.disk S (Q:=fun e _=>e=.returned (.int .i64 (T.D.free id).1)) (Nat.le_refl m) (fun FD hd=>cd_free hd (by unfold isU32D;omega))
theorem PI.alloc(H:PI RR p T m w F)(hf:T.D.L.length<T.D.room):Calls prog 61 #[.pointer (some ⟨p.db,0,none⟩)] w fun e w'=>e=.returned (.tuple #[.int .u32 (gapOf T.D.L+1:Nat),.int .i64 0])∧Led (PI RR p {T with D:=T.D.ins (gapOf T.D.L)} m) F w w':=
 H.disk S (Q:=fun e _=>e=.returned (.tuple #[.int .u32 (gapOf T.D.L+1:Nat),.int .i64 0])) (Nat.le_refl m) (fun FD hd=>cd_alloc hd hf)
theorem PI.full(H:PI RR p T m w F)(hf:T.D.room<=T.D.L.length):Calls prog 61 #[.pointer (some ⟨p.db,0,none⟩)] w fun e w'=>e=.returned (.tuple #[.int .u32 0,.int .i64 2])∧Led (PI RR p T m) F w w':=
 H.disk S (Q:=fun e _=>e=.returned (.tuple #[.int .u32 0,.int .i64 2])) (Nat.le_refl m) (fun FD hd=>cd_full hd hf)
theorem np_all(H:PW RR ok p X m w F)(ha:X.all p.n=true):Calls prog 37 #[p.ptr] w fun e w'=>e=.returned (.tuple #[.int .u32 0,.int .i64 6])∧w=w':=by
 have HA:=allp_calls H.1.me;rw[show(CT p.n X).E=emB p.n X.f from rfl,show(CT p.n X).I=idB p.n X.f from rfl,X.all_eq,ha]at HA;have HA1:=Hd HA;unfold PP.ptr at*;clear H S HA;go_enter func37,ntmps37
 go_wp2_with fail
 refine HA1.out.mono ?_;rintro e w1⟨rfl,rfl⟩;go_wp2;go_returns;exact⟨rfl,rfl⟩
theorem np_full(H:PW RR ok p X m w F)(ha:¬X.all p.n=true)(hf:X.D.room<=X.D.L.length):Calls prog 37 #[p.ptr] w fun e w'=>e=.returned (.tuple #[.int .u32 0,.int .i64 2])∧Led (PW RR ok p X m) F w w':=by
 have HA:=allp_calls H.1.me;rw[show(CT p.n X).E=emB p.n X.f from rfl,show(CT p.n X).I=idB p.n X.f from rfl,X.all_eq,Bool.eq_false_iff.2 ha]at HA;have HA1:=Hd HA;obtain⟨c0,lb⟩:=H.1.c0;have HL:=Hd ((H.1.full S hf).mono (fun e w' ⟨he,hl⟩=>(⟨he,hl.mono (fun F' h=>(⟨h,H.2⟩:PW RR ok p X m w' F'))⟩:e=Ending.returned (.tuple #[.int .u32 0,.int .i64 2])∧Led (PW RR ok p X m) F w w')));unfold PP.ptr at*;clear H S HA ha hf;go_enter func37,ntmps37
 go_wp2_with fail
 refine HA1.out.mono ?_;rintro e w1⟨rfl,rfl⟩
 go_wp2_with fail
 refine HL.out.mono ?_;rintro e w1⟨rfl,h1⟩;have H1:=Hd h1;clear h1;go_wp2;go_returns;exact⟨rfl,H1.out⟩
noncomputable def PS.alc(X:PS τ):PS τ:={X with D:=X.D.ins (gapOf X.D.L)}
theorem alc_facts(H:PW RR ok p X m w F)(hf:X.D.L.length<X.D.room):gapOf X.D.L+1<4294967296∧(∀i,i<p.n->¬(X.f i).id=gapOf X.D.L+1)∧Inv p.n X.alc.f X.alc.D:=by
 obtain⟨FD,hcd⟩:=H.1.cdE;have hrm:X.D.room<=65535:=hcd.room.2;have hle:=(gapOf_is X.D.L).le;refine⟨by omega,fun i hi q=>?_,H.2.1.ins hf⟩;have h1:=H.2.1.has i hi (by omega);rw[q,H.2.1.gap]at h1;cases h1
theorem np_room(H:PW RR ok p X m w F)(hm:m<60000)(ha:¬X.all p.n=true)(hf:X.D.L.length<X.D.room):
  (∀w1 F1,PI RR p {CT p.n X with D:=X.D.ins (gapOf X.D.L)} m w1 F1->Calls prog 62 #[p.ptr,.int .u32 (gapOf X.D.L+1:Nat)] w1 fun e w'=>e=.returned (.tuple #[.int .i64 (plZ (X.alc.room P p.n (gapOf X.D.L+1)).1.1),.int .i64 (X.alc.room P p.n (gapOf X.D.L+1)).1.2])∧
   Led (PI RR p ⟨(X.alc.room P p.n (gapOf X.D.L+1)).2.f,plO p.n (X.alc.room P p.n (gapOf X.D.L+1)).2.f X.D,emB p.n (X.alc.room P p.n (gapOf X.D.L+1)).2.f,idB p.n (X.alc.room P p.n (gapOf X.D.L+1)).2.f,(X.alc.room P p.n (gapOf X.D.L+1)).2.sc,(X.alc.room P p.n (gapOf X.D.L+1)).2.D,(X.alc.room P p.n (gapOf X.D.L+1)).2.A⟩ (m+6)) F1 w1 w')∧
  Inv p.n (X.alc.room P p.n (gapOf X.D.L+1)).2.f (X.alc.room P p.n (gapOf X.D.L+1)).2.D∧ok (m+6) (X.alc.room P p.n (gapOf X.D.L+1)).2.A (pgO (X.alc.room P p.n (gapOf X.D.L+1)).2.f) (evO (X.alc.room P p.n (gapOf X.D.L+1)).2.f)∧
  (∀i,i<p.n->¬((X.alc.room P p.n (gapOf X.D.L+1)).2.f i).id=gapOf X.D.L+1)∧(X.alc.room P p.n (gapOf X.D.L+1)).2.D.has (gapOf X.D.L+1)=true∧(∀x,(X.alc.room P p.n (gapOf X.D.L+1)).2.D.has x=(decide (x=gapOf X.D.L+1)||X.D.has x))∧
  (∀x,((X.alc.room P p.n (gapOf X.D.L+1)).2.D.free (gapOf X.D.L+1)).2.has x=X.D.has x)∧
  (∀k,(X.alc.room P p.n (gapOf X.D.L+1)).1.1=some k->(X.alc.room P p.n (gapOf X.D.L+1)).1.2=0∧k<p.n∧(X.alc.room P p.n (gapOf X.D.L+1)).2.f k=zF)∧((X.alc.room P p.n (gapOf X.D.L+1)).1.1=none->¬(X.alc.room P p.n (gapOf X.D.L+1)).1.2=0):=by
 obtain⟨hu,hno,hIa⟩:=alc_facts S H hf;obtain⟨r1,r2,r3,r4,r5,r6,r7,r8⟩:=room_inv S (X:=X.alc) (D0:=X.D) hIa (by omega) H.2.2 (id:=gapOf X.D.L+1) (by omega) hno ha (fun i _=>(H.1.me.bd.2 i).1);have e6:=r6 X.D H.2.1
 have h4:∀x,(X.alc.room P p.n (gapOf X.D.L+1)).2.D.has x=(decide (x=gapOf X.D.L+1)||X.D.has x):=fun x=>by
  rw[r4]
  show(X.D.ins _).has _=_
  rw[RS.ins_has]
 have hhas:(X.alc.room P p.n (gapOf X.D.L+1)).2.D.has (gapOf X.D.L+1)=true:=by rw[h4];simp
 refine⟨fun w1 F1 h=>?_,r1,r2,r3,hhas,h4,fun x=>?_,r7,fun q=>(r8 q).1⟩
 .have:=room_calls S (X:=X.alc) (pl:=plO p.n X.f X.D) h H.2.1.inj (by omega) H.2.2 (by omega) hu hno ha
  rw[show plO p.n X.alc.f X.D=plO p.n X.f X.D from rfl]at e6;rw[e6]at this;exact this
 .obtain⟨s,hs⟩:=r1.dr
  rw[hs.free_has hhas,h4];by_cases q:x=gapOf X.D.L+1
  .rw[q,H.2.1.gap];simp
  .simp[q]
theorem np_fail(H:PW RR ok p X m w F)(hm:m<60000)(ha:¬X.all p.n=true)(hf:X.D.L.length<X.D.room)(hr:(X.alc.room P p.n (gapOf X.D.L+1)).1.1=none):Calls prog 37 #[p.ptr] w fun e w'=>e=.returned (.tuple #[.int .u32 0,.int .i64 (X.alc.room P p.n (gapOf X.D.L+1)).1.2])∧
  Led (PW RR ok p {(X.alc.room P p.n (gapOf X.D.L+1)).2 with D:=((X.alc.room P p.n (gapOf X.D.L+1)).2.D.free (gapOf X.D.L+1)).2} (m+10)) F w w':=by
 have HA:=allp_calls H.1.me;rw[show(CT p.n X).E=emB p.n X.f from rfl,show(CT p.n X).I=idB p.n X.f from rfl,X.all_eq,Bool.eq_false_iff.2 ha]at HA;have HA1:=Hd HA;obtain⟨c0,lb⟩:=H.1.c0;obtain⟨hu,_,_⟩:=alc_facts S H hf;have hl0:=H.1.alloc S hf;rw[show(CT p.n X).D=X.D from rfl]at hl0;have HL:=Hd hl0;clear hl0;obtain⟨hroom,r1,r2,r3,r4,r5,r6,r7,r8⟩:=np_room S H hm ha hf;have HRoom:=Hd hroom;have r9:=r8 hr;clear hroom r7 r8 r5;generalize X.alc.room P p.n (gapOf X.D.L+1)=R at*;obtain⟨⟨q1,q2⟩,R2⟩:=R
 dsimp only at*
 subst hr
 have HFin:Hid (∀w2 F2,PI RR p ⟨R2.f,plO p.n R2.f X.D,emB p.n R2.f,idB p.n R2.f,R2.sc,R2.D,R2.A⟩ (m+6) w2 F2->Calls prog 63 #[.pointer (some ⟨p.db,0,none⟩),.int .u32 (gapOf X.D.L+1:Nat)] w2 fun e w'=>(∃x,e=.returned x)∧Led (PW RR ok p {R2 with D:=(R2.D.free (gapOf X.D.L+1)).2} (m+10)) F2 w2 w'):=fun w2 F2 h=>by
  refine(h.free S hu).mono ?_;rintro e w'⟨he,hl⟩;refine⟨⟨_,he⟩,hl.mono (fun F' h'=>?_)⟩
  dsimp only at h'
  have hw:PW RR ok p {R2 with D:=(R2.D.free (gapOf X.D.L+1)).2} (m+6) w' F':=⟨by
   unfold CT
   dsimp only
   rw[plO_D r6];exact h',r1.free r3,r2⟩
  exact hw.more S (by omega)
 have hne:(((q2:Nat):Int)==0)=false:=by simp<;>exact r9
 unfold PP.ptr at*;clear H S HA ha hf r1 r2 r3 r4 r6 r9;generalize hgi:gapOf X.D.L+1=id at*;clear hgi hu;go_enter func37,ntmps37
 go_wp2_with fail
 refine HA1.out.mono ?_;rintro e w1⟨rfl,rfl⟩
 go_wp2_with fail
 refine HL.out.mono ?_;rintro e w1⟨rfl,F1,h1,g1,k1⟩;have HR1:=Hd (HRoom.out w1 F1 h1);obtain⟨_,lb1⟩:=h1.c0;have G1:=Hd g1;have K1:=Hd k1;clear h1 g1 k1 HRoom
 go_wp2_with fail
 refine HR1.out.mono ?_;rintro e w2⟨rfl,F2,h2,g2,k2⟩;have HF2:=Hd (HFin.out w2 F2 h2);obtain⟨c2,lb2⟩:=h2.c0;have G2:=Hd g2;have K2:=Hd k2;clear h2 g2 k2 HFin HR1
 go_wp2_with fail
 refine HF2.out.mono ?_;rintro e w3⟨⟨x,rfl⟩,h3⟩;have H3:=Hd h3;clear h3;go_wp2;go_returns;exact⟨rfl,Led.trans G1.out K1.out (Led.trans G2.out K2.out H3.out)⟩
theorem np_ok(H:PW RR ok p X m w F)(hm:m<60000)(ha:¬X.all p.n=true)(hf:X.D.L.length<X.D.room){k:Nat}(hr:(X.alc.room P p.n (gapOf X.D.L+1)).1.1=some k):Calls prog 37 #[p.ptr] w fun e w'=>e=.returned (.tuple #[.int .u32 (gapOf X.D.L+1:Nat),.int .i64 0])∧
  Led (PW RR ok p {(X.alc.room P p.n (gapOf X.D.L+1)).2 with f:=upd (X.alc.room P p.n (gapOf X.D.L+1)).2.f k ⟨gapOf X.D.L+1,0,1,false⟩,A:=P.access (X.alc.room P p.n (gapOf X.D.L+1)).2.A k (gapOf X.D.L+1)} (m+10)) F w w':=by
 have HA:=allp_calls H.1.me;rw[show(CT p.n X).E=emB p.n X.f from rfl,show(CT p.n X).I=idB p.n X.f from rfl,X.all_eq,Bool.eq_false_iff.2 ha]at HA;have HA1:=Hd HA;obtain⟨c0,lb⟩:=H.1.c0;obtain⟨hu,_,_⟩:=alc_facts S H hf;have hl0:=H.1.alloc S hf;rw[show(CT p.n X).D=X.D from rfl]at hl0;have HL:=Hd hl0;clear hl0;obtain⟨hroom,r1,r2,r3,r4,r5,r6,r7,r8⟩:=np_room S H hm ha hf;obtain⟨r9,r10,r11⟩:=r7 k hr;have HRoom:=Hd hroom;have hI0:=H.2.1;clear hroom r7 r8 r6;generalize X.alc.room P p.n (gapOf X.D.L+1)=R at*;obtain⟨⟨q1,q2⟩,R2⟩:=R
 dsimp only at*
 subst hr;subst r9;have hk0:(R2.f k).id=0:=by rw[r11];rfl
 have hkp:(R2.f k).pins=0:=by rw[r11];rfl
 have hno':∀i,i<p.n->¬pgO R2.f i=gapOf X.D.L+1:=r3
 have HFin:Hid (∀w2 F2,PI RR p ⟨R2.f,plO p.n R2.f X.D,emB p.n R2.f,idB p.n R2.f,R2.sc,R2.D,R2.A⟩ (m+6) w2 F2->Calls prog 64 #[p.ptr,.int .i64 k,.int .u32 (gapOf X.D.L+1:Nat)] w2 fun e w'=>e=.returned (.tuple #[])∧Led (PW RR ok p {R2 with f:=upd R2.f k ⟨gapOf X.D.L+1,0,1,false⟩,A:=P.access R2.A k (gapOf X.D.L+1)} (m+10)) F2 w2 w'):=fun w2 F2 h=>by
  refine(enter_calls S h (by omega) r10 (by omega) hu r2 hk0 hno' (by omega)).mono ?_;rintro e w'⟨he,hl⟩;refine⟨he,hl.mono (fun F' h'=>?_)⟩
  dsimp only at h'
  have hw:PW RR ok p {R2 with f:=upd R2.f k ⟨gapOf X.D.L+1,0,1,false⟩,A:=P.access R2.A k (gapOf X.D.L+1)} (m+6+1) w' F':=⟨by
   unfold CT
   dsimp only
   have e1:plO p.n (upd R2.f k ⟨gapOf X.D.L+1,0,1,false⟩) R2.D=updO (plO p.n R2.f X.D) (gapOf X.D.L+1) (some (k:Int)):=by
    rw[plO_enter (x:=⟨gapOf X.D.L+1,0,1,false⟩) r1 r10 hk0 r4 r3]
    funext y
    by_cases q:y=gapOf X.D.L+1
    .subst q;rw[updO_same,updO_same]
    .rw[updO_other _ _ q,updO_other _ _ q]
     unfold plO;rw[r5 y];simp[q]
   rw[e1,emB_upd r10,idB_upd r10]
   have e2:updB (idB p.n R2.f) k (decide (¬(FrS.id ⟨gapOf X.D.L+1,0,1,false⟩)=0)&&decide ((FrS.pins ⟨gapOf X.D.L+1,0,1,false⟩)=0))=idB p.n R2.f:=by
    have e3:idB p.n R2.f k=false:=by rw[idB_at r10,hk0];simp
    rw[show(decide (¬(FrS.id ⟨gapOf X.D.L+1,0,1,false⟩)=0)&&decide ((FrS.pins ⟨gapOf X.D.L+1,0,1,false⟩)=0))=false from by simp];exact updB_id e3
   rw[e2,show decide ((FrS.id ⟨gapOf X.D.L+1,0,1,false⟩)=0)=false from by simp];exact h',r1.enter r10 hk0 r4 r3 (by show 0<_;omega),by
   show ok (m+6+1) (P.access R2.A k (gapOf X.D.L+1)) (pgO (upd R2.f k ⟨gapOf X.D.L+1,0,1,false⟩)) (evO (upd R2.f k ⟨gapOf X.D.L+1,0,1,false⟩))
   rw[pgO_upd,evO_upd];exact S.okNew r2 (by omega) (by omega) hu r10 hk0 hno'⟩
  exact hw.more S (by omega)
 unfold PP.ptr at*;clear H S HA ha hf r1 r2 r3 r4 r5 r10 r11 hk0 hkp hno' hI0;generalize hgi:gapOf X.D.L+1=id at*;clear hgi hu;have hpz:plZ (some k)=(k:Int):=rfl;rw[hpz]at HRoom;go_enter func37,ntmps37
 go_wp2_with fail
 refine HA1.out.mono ?_;rintro e w1⟨rfl,rfl⟩
 go_wp2_with fail
 refine HL.out.mono ?_;rintro e w1⟨rfl,F1,h1,g1,k1⟩;have HR1:=Hd (HRoom.out w1 F1 h1);obtain⟨_,lb1⟩:=h1.c0;have G1:=Hd g1;have K1:=Hd k1;clear h1 g1 k1 HRoom
 go_wp2_with fail
 refine HR1.out.mono ?_;rintro e w2⟨rfl,F2,h2,g2,k2⟩;have HF2:=Hd (HFin.out w2 F2 h2);obtain⟨c2,lb2⟩:=h2.c0;have G2:=Hd g2;have K2:=Hd k2;clear h2 g2 k2 HFin HR1
 go_wp2_with fail
 refine HF2.out.mono ?_;rintro e w3⟨rfl,h3⟩;have H3:=Hd h3;clear h3;go_wp2;go_returns;exact⟨rfl,Led.trans G1.out K1.out (Led.trans G2.out K2.out H3.out)⟩
theorem np_calls(H:PW RR ok p X m w F)(hm:m<60000):Calls prog 37 #[p.ptr] w fun e w'=>e=.returned (.tuple #[.int .u32 (X.newPage P p.n).1.1,.int .i64 (X.newPage P p.n).1.2])∧Led (PW RR ok p (X.newPage P p.n).2 (m+10)) F w w':=by
 unfold PS.newPage;by_cases ha:X.all p.n=true
 .rw[if_pos ha]
  refine(np_all S H ha).mono ?_;rintro e w'⟨he,rfl⟩;exact⟨he,Led.refl (H.more S (by omega))⟩
 .rw[if_neg ha]
  by_cases hf:X.D.room<=X.D.L.length
  .rw[if_pos hf]
   refine(np_full S H ha hf).mono ?_;rintro e w'⟨he,hl⟩;exact⟨he,hl.mono (fun F' h=>h.more S (by omega))⟩
  .rw[if_neg hf]
   have hf':X.D.L.length<X.D.room:=by omega
   cases hr:(X.alc.room P p.n (gapOf X.D.L+1)).1.1 with
   |none=>
    have:=np_fail S H hm ha hf' hr;unfold PS.alc at hr this;rw[hr];exact this
   |some k=>
    have:=np_ok S H hm ha hf' hr;unfold PS.alc at hr this;rw[hr];exact this
end
end
section
open Go.Maps Go.RowKit
section
variable{τ:Type}{P:Adv τ}{RR:World->τ->(Nat->Prop)->Prop}{ok:Nat->τ->(Nat->Nat)->(Nat->Bool)->Prop}{p:PP}(S:RepSys P RR p.pb p.rv p.n ok){w w':World}{m:Nat}{F:Nat->Prop}{X:PS τ}{T:PT τ}
include S
end
section
variable{τ:Type}{P:Adv τ}{RR:World->τ->(Nat->Prop)->Prop}{ok:Nat->τ->(Nat->Nat)->(Nat->Bool)->Prop}{p:PP}(S:RepSys P RR p.pb p.rv p.n ok){w w':World}{m:Nat}{F:Nat->Prop}{X:PS τ}{T:PT τ}
include S
end
section
variable{τ:Type}{P:Adv τ}{RR:World->τ->(Nat->Prop)->Prop}{ok:Nat->τ->(Nat->Nat)->(Nat->Bool)->Prop}{p:PP}(S:RepSys P RR p.pb p.rv p.n ok){w w':World}{m:Nat}{F:Nat->Prop}{X:PS τ}{T:PT τ}
include S
end
end
end Go.Proofs.YtoenclhimbpfeaaGreatDoor
