/- Part 11. -/
import Derived.Test.YtoenclhimbpfeaaGreatDoorC10
namespace Go.Proofs.YtoenclhimbpfeaaGreatDoor
set_option linter.all false
set_option maxHeartbeats 16000000
set_option maxRecDepth 100000
section
open Go.Maps Go.Proofs.Tryz Go.RowKit
theorem upd_upd{α:Type}(f:Nat->α)(k:Nat)(x y:α):upd (upd f k x) k y=upd f k y:=by
 funext i
 by_cases e:i=k
 .rw[e,upd_same,upd_same]
 .rw[upd_other _ _ e,upd_other _ _ e,upd_other _ _ e]
def VX{τ:Type}(P:Adv τ)(n:Nat)(T:PT τ)(id:Nat):Nat×τ×Nat:=vicX P n (P.miss T.A id) T.I id
def T1X{τ:Type}(P:Adv τ)(n:Nat)(T:PT τ)(id:Nat):PT τ:={T with A:=(VX P n T id).2.1,sc:=T.sc+(VX P n T id).2.2}
def D2X{τ:Type}(P:Adv τ)(n:Nat)(T:PT τ)(id:Nat):=T.D.write (T.f (VX P n T id).1).id (T.f (VX P n T id).1).val
def T3X{τ:Type}(P:Adv τ)(n:Nat)(T:PT τ)(id:Nat):PT τ:={T1X P n T id with f:=upd T.f (VX P n T id).1 zF,pl:=updO T.pl (T.f (VX P n T id).1).id (some (-1)),E:=updB T.E (VX P n T id).1 true,I:=updB T.I (VX P n T id).1 false}
section
variable{τ:Type}{P:Adv τ}{RR:World->τ->(Nat->Prop)->Prop}{ok:Nat->τ->(Nat->Nat)->(Nat->Bool)->Prop}{p:PP}(S:RepSys P RR p.pb p.rv p.n ok){w w':World}{T:PT τ}{m:Nat}{F:Nat->Prop}
include S
theorem place_empty(H:PI RR p T m w F)(hm:m<70000){id x0:Nat}(h1:1<=id)(hu:id<4294967296){pg:Nat->Nat}{ev:Nat->Bool}(ho:ok m T.A pg ev)(hno:∀i,i<p.n->¬pg i=id)(hx:fstB p.n T.E=some x0):Calls prog 62 #[p.ptr,.int .u32 id] w fun e w'=>e=.returned (.tuple #[.int .i64 x0,.int .i64 0])∧
  Led (PI RR p {T with A:=P.miss T.A id} (m+6)) F w w':=by
 obtain⟨b1,b3,b4⟩:=box1 w (.int .u32 id) 34;have H1:=H.fr0 S b4;have hlt:=H.lt S;have hnF1:¬F w.heap.size:=fun q=>by have:=hlt _ q;omega
 have KT1:Hid (Calls prog 69 #[p.ptr,.func (.func 81) #[] #[.pointer (some ⟨w.heap.size,0,none⟩)]] (w.alloc (.cells #[.int .u32 id] 34)) fun e w'=>e=.returned (.tuple #[])∧Led (PI RR p {T with A:=P.miss T.A id} m) F (w.alloc (.cells #[.int .u32 id] 34)) w'):=
  H1.tell1 S own_p1 (fun FR hr hF=>S.miss hr ho (by omega) h1 hu hno b1 (by omega) (fun q=>hnF1 (hF _ q)))
 have KB:Hid (∀w3 F3 (A:τ),PI RR p {T with A:=A} m w3 F3->p.pb<w3.heap.size):=fun w3 F3 A h3=>h3.me.hd.lt
 obtain⟨hx1,hx2⟩:=fstB_some hx
 have KF:Hid (∀w3 F3,PI RR p {T with A:=P.miss T.A id} m w3 F3->Calls prog 82 #[.pointer (some ⟨p.pb,4,none⟩)] w3 fun e w'=>e=.returned (.int .i64 x0)∧w3=w'):=fun w3 F3 h=>by
  refine(mp_firstE h.me).mono ?_;rintro e w'⟨rfl,⟨_,q,_⟩|⟨x,hx,hl,he⟩⟩
  .have hq:T.E x0=false:=q x0
   rw[hx2.1]at hq;cases hq
  .have e:some x=some x0:=by rw[<-fstB_is hx1 hx2,<-fstB_is (I:=T.E) hx hl]
   cases e
   exact⟨he,rfl⟩
 unfold PP.ptr at*;have B4:=Hd b4;generalize hw2:(w.alloc (.cells #[.int .u32 id] 34))=w2 at*;clear H H1 S ho hno hu b4 hlt hx hx2;go_enter func62,ntmps62
 go_wp2_with fail
 try rw[hw2]
 clear hw2;refine KT1.out.mono ?_;rintro e w3⟨rfl,F3,h3,g3,q3⟩;have lb:=KB.out w3 F3 _ h3;have HF:=Hd (KF.out w3 F3 h3);have HL:=Hd (Led.trans (B4.out.mono (fun _ q=>q.elim)) (fun i q=>.inl q) (⟨F3,h3.more (by omega:m<=m+6),g3,q3⟩:Led (PI RR p {T with A:=P.miss T.A id} (m+6)) F w2 w3));clear h3 g3 q3 KT1 KB KF
 go_wp2_with fail
 refine HF.out.mono ?_;rintro e w4⟨rfl,rfl⟩;have hge:decide ((x0:Int)≥0)=true:=by simp
 go_wp2;go_returns;exact⟨rfl,HL.out⟩
theorem place_go(H:PI RR p T m w F)(hm:m<70000){id:Nat}(h1:1<=id)(hu:id<4294967296){pg:Nat->Nat}{ev:Nat->Bool}(ho:ok m T.A pg ev)(hno:∀i,i<p.n->¬pg i=id)(hE:∀x,x<p.n->T.E x=false){v xi:Nat}{T1 T2 T3:PT τ}{er rx:Int}(hvn:v<p.n)
  (KV:Hid (∀w F,PI RR p {T with A:=P.miss T.A id} m w F->Calls prog 83 #[p.ptr,.int .u32 id] w fun e w'=>e=.returned (.int .i64 v)∧Led (PI RR p T1 (m+2)) F w w'))
  (KC:Hid (∀w F,PI RR p T1 (m+2) w F->Calls prog 71 #[p.ptr,.int .i64 v] w fun e w'=>e=.returned (.int .i64 er)∧Led (PI RR p T2 (m+3)) F w w'))(hxi:(T2.f v).id=xi)
  (KZ:(er=0∧rx=v∧Hid (∀w F,PI RR p T2 (m+3) w F->Calls prog 86 #[p.ptr,.int .i64 v] w fun e w'=>e=.returned (.tuple #[])∧Led (PI RR p T3 (m+6)) F w w'))∨(¬er=0∧rx= -1∧∃T4,Hid (∀w F b1 b2,PI RR p T2 (m+3) w F->w.cell? ⟨b1,0,none⟩=some (.int .i64 v)->w.cell? ⟨b2,0,none⟩=some (.int .u32 xi)->b1<w.heap.size->b2<w.heap.size->¬F b1->¬F b2->Calls prog 69 #[p.ptr,.func (.func 84) #[] #[.pointer (some ⟨b1,0,none⟩),.pointer (some ⟨b2,0,none⟩)]] w fun e w'=>e=.returned (.tuple #[])∧Led (PI RR p T4 (m+3)) F w w')∧Hid (∀w F b1,PI RR p T4 (m+3) w F->w.cell? ⟨b1,0,none⟩=some (.int .i64 v)->b1<w.heap.size->¬F b1->Calls prog 69 #[p.ptr,.func (.func 85) #[] #[.pointer (some ⟨b1,0,none⟩)]] w fun e w'=>e=.returned (.tuple #[])∧Led (PI RR p T3 (m+6)) F w w'))):
  Calls prog 62 #[p.ptr,.int .u32 id] w fun e w'=>e=.returned (.tuple #[.int .i64 rx,.int .i64 er])∧Led (PI RR p T3 (m+6)) F w w':=by
 obtain⟨b1,b3,b4⟩:=box1 w (.int .u32 id) 34;have H1:=H.fr0 S b4;have hlt:=H.lt S;have hnF1:¬F w.heap.size:=fun q=>by have:=hlt _ q;omega
 have KT1:=Hd (H1.tell1 S own_p1 (fun FR hr hF=>S.miss hr ho (by omega) h1 hu hno b1 (by omega) (fun q=>hnF1 (hF _ q))))
 have KF:Hid (∀w3 F3,PI RR p {T with A:=P.miss T.A id} m w3 F3->p.pb<w3.heap.size∧Calls prog 82 #[.pointer (some ⟨p.pb,4,none⟩)] w3 fun e w'=>e=.returned (.int .i64 (-1))∧w3=w'):=fun w3 F3 h=>⟨h.me.hd.lt,by
  refine(mp_firstE h.me).mono ?_;rintro e w'⟨rfl,⟨_,q,he⟩|⟨x,hx,hl,he⟩⟩
  .exact⟨he,rfl⟩
  .have q1:T.E x=true:=hl.1
   rw[hE x hx]at q1;cases q1⟩
 have hn:=H.me.hn
 have KM:Hid (∀w6 F6,PI RR p T2 (m+3) w6 F6->p.pb<w6.heap.size∧p.fb<w6.heap.size∧w6.cell? ⟨p.pb,2,none⟩=some (.slice (some ⟨p.fb,0,none⟩) p.n p.n)∧w6.cell? ⟨p.fb,v*4,none⟩=some (.int .u32 xi)∧∀i,F6 i->i<w6.heap.size):=fun w6 F6 h=>⟨h.me.hd.lt,h.me.fr.lt,h.me.ce 2 (by omega),by
  rw[<-hxi];exact(h.me.cf hvn).1,h.lt S⟩
 have KN:Hid (∀T0 m w5 w6 F5,PI RR p T0 m w5 F5->Fr NoF w5 w6->PI RR p T0 m w6 F5):=fun _ _ w5 w6 F5 h g=>h.fr0 S g
 have KL:Hid (∀w4 F4,PI RR p T1 (m+2) w4 F4->F4 p.pb∧∀i,F4 i->i<w4.heap.size):=fun w4 F4 h=>⟨h.own _ (.inl rfl),h.lt S⟩
 unfold PP.ptr at*;have B4:=Hd (b4.mono (G:=F) (fun _ q=>q.elim));generalize hw2:(w.alloc (.cells #[.int .u32 id] 34))=w2 at*;have HZ:=Hd KZ;clear H H1 S ho hno hu b4 hlt hxi hE KZ;go_enter func62,ntmps62
 go_wp2_with fail
 try rw[hw2]
 clear hw2;refine KT1.out.mono ?_;rintro e w3⟨rfl,F3,h3,g3,q3⟩;obtain⟨lb,HF⟩:=KF.out w3 F3 h3;have HF:=Hd HF;have y1:w3.cell? ⟨w.heap.size,0,none⟩=some (.int .u32 id):=by rw[g3.cell (p:=⟨w.heap.size,0,none⟩) (by show w.heap.size<_;omega) hnF1];exact b1
 have n3:¬F3 w.heap.size:=fun q=>(q3 _ q).elim hnF1 (fun q=>by omega)
 have HV:=Hd (KV.out w3 F3 h3);have y2:=g3.size;have G3:=Hd g3;have Q3:=Hd q3;clear h3 g3 q3 KT1 KF KV
 go_wp2_with fail
 refine HF.out.mono ?_;rintro e w4⟨rfl,rfl⟩
 go_wp2_with fail
 refine HV.out.mono ?_;rintro e w4⟨rfl,F4,h4,g4,q4⟩;obtain⟨a1,a2,a3⟩:=box1 w4 (.int .i64 v) 3;obtain⟨hpb,l4⟩:=KL.out w4 F4 h4;have h5:=KN.out _ _ w4 _ F4 h4 a3;have y3:=g4.size;have n5:¬F4 w4.heap.size:=fun q=>by have:=l4 _ q;omega
 have HC:=Hd (KC.out _ F4 h5);have lb5:p.pb<(w4.alloc (.cells #[.int .i64 v] 3)).heap.size:=by have:=l4 _ hpb;omega
 have G4:=Hd g4;have Q4:=Hd q4;have A3:=Hd (a3.mono (G:=F4) (fun _ q=>q.elim));clear h4 g4 q4 h5 HF HV y1 a3 l4 hpb KL
 go_wp2_with fail
 refine HC.out.mono ?_;rintro e w6⟨rfl,F6,h6,g6,q6⟩;obtain⟨m1,m2,m3,m4,m5⟩:=KM.out w6 F6 h6;have c1:w6.cell? ⟨w4.heap.size,0,none⟩=some (.int .i64 v):=by rw[g6.cell (p:=⟨w4.heap.size,0,none⟩) (by show w4.heap.size<_;omega) n5];exact a1
 have n6:¬F6 w4.heap.size:=fun q=>(q6 _ q).elim n5 (fun q=>by omega)
 have n7:¬F6 w6.heap.size:=fun q=>by have:=m5 _ q;omega
 have y6:=g6.size;have H6:=Hd h6;have L6:Hid (∀w',Led (PI RR p T3 (m+6)) F6 w6 w'->Led (PI RR p T3 (m+6)) F w w'):=Hd fun w' h=>Led.trans B4.out (fun i q=>.inl q) (Led.trans G3.out Q3.out (Led.trans G4.out Q4.out (Led.trans A3.out (fun i q=>.inl q) (Led.trans g6 q6 h))))
 clear h6 g6 q6 HC KC KM m5;rcases HZ.out with⟨rfl,rfl,hK⟩|⟨he0,rfl,T4,hA,hS⟩
 .clear HZ KN n7
  go_wp2_with fail
  refine(hK.out w6 F6 H6.out).mono ?_;rintro e w7⟨rfl,h7⟩;have c2:w7.cell? ⟨w4.heap.size,0,none⟩=some (.int .i64 v):=by obtain⟨_,_,g7,_⟩:=h7;rw[g7.cell (p:=⟨w4.heap.size,0,none⟩) (by show w4.heap.size<_;omega) n6];exact c1
  have H7:=Hd h7;clear h7 c1 m3 m4;go_wp2;go_returns;exact⟨rfl,L6.out _ H7.out⟩
 .clear HZ
  have hne:(er==0)=false:=by simp<;>exact he0
  go_wp2_with fail
  have fN:Fr NoF w6 (w6.alloc (.cells #[.int .u32 0] 34)):=(Fr.refl NoF w6).alloc _;have d2:(w6.alloc (.cells #[.int .u32 0] 34)).cell? ⟨p.pb,2,none⟩=some (.slice (some ⟨p.fb,0,none⟩) p.n p.n):=by rw[fN.cell (p:=⟨p.pb,2,none⟩) m1 (fun q=>q)];exact m3
  have d0:(w6.alloc (.cells #[.int .u32 0] 34)).cell? ⟨p.fb,v*4,none⟩=some (.int .u32 xi):=by rw[fN.cell (p:=⟨p.fb,v*4,none⟩) m2 (fun q=>q)];exact m4
  have d1:(w6.alloc (.cells #[.int .u32 0] 34)).cell? ⟨w4.heap.size,0,none⟩=some (.int .i64 v):=by rw[fN.cell (p:=⟨w4.heap.size,0,none⟩) (by show w4.heap.size<_;omega) (fun q=>q)];exact c1
  have dl:=alloc_size w6 (.cells #[.int .u32 0] 34);clear fN
  go_region
  all_goals
   go_wp2_with fail
   clear d0 d1 d2 dl;have fA:Fr NoF w6 (w6.alloc (.cells #[.int .u32 xi] 34)).drew:=((Fr.refl NoF w6).alloc _).drew;have x1:(w6.alloc (.cells #[.int .u32 xi] 34)).drew.cell? ⟨w4.heap.size,0,none⟩=some (.int .i64 v):=by rw[fA.cell (p:=⟨w4.heap.size,0,none⟩) (by show w4.heap.size<_;omega) (fun q=>q)];exact c1
   have x2:(w6.alloc (.cells #[.int .u32 xi] 34)).drew.cell? ⟨w6.heap.size,0,none⟩=some (.int .u32 xi):=((blk1 w6 (.int .u32 xi) 34).drew).cell (i:=0) (by omega);have x3:(w6.alloc (.cells #[.int .u32 xi] 34)).drew.heap.size=w6.heap.size+1:=alloc_size w6 _;have H7:=KN.out _ _ w6 _ F6 H6.out fA;generalize(w6.alloc (.cells #[.int .u32 xi] 34)).drew=wA at fA x1 x2 x3 H7⊢;have HT:=Hd (hA.out wA F6 _ _ H7 x1 x2 (by omega) (by omega) n6 n7);have FA:=Hd (fA.mono (G:=F6) (fun _ q=>q.elim));clear H7 fA x2 hA;refine HT.out.mono ?_;rintro e w8⟨rfl,F8,h8,g8,q8⟩;have z1:w8.cell? ⟨w4.heap.size,0,none⟩=some (.int .i64 v):=by rw[g8.cell (p:=⟨w4.heap.size,0,none⟩) (by show w4.heap.size<_;omega) n6];exact x1
   have z2:=g8.size;have HT2:=Hd (hS.out w8 F8 w4.heap.size h8 z1 (by omega) (fun q=>(q8 _ q).elim n6 (fun q=>by omega)));have G8:=Hd g8;have Q8:=Hd q8;clear h8 g8 q8 hS HT z1 x1 c1 m3 m4
   go_wp2_with fail
   refine HT2.out.mono ?_;rintro e w9⟨rfl,h9⟩;have H9:=Hd h9;clear h9;go_wp2;go_returns;exact⟨rfl,L6.out _ (Led.trans FA.out (fun i q=>.inl q) (Led.trans G8.out Q8.out H9.out))⟩
theorem place_took(H:PI RR p T m w F)(hm:m<70000){id x0:Nat}(h1:1<=id)(hu:id<4294967296){pg:Nat->Nat}{ev:Nat->Bool}(ho:ok m T.A pg ev)(hno:∀i,i<p.n->¬pg i=id)(hE:∀x,x<p.n->T.E x=false)(hg:∀x,T.I x=true↔Goer p.n pg ev x)(hpg:∀x,x<p.n->pg x=(T.f x).id)(hx:fstB p.n T.I=some x0)(hd:(T.f (VX P p.n T id).1).dirty=false):Calls prog 62 #[p.ptr,.int .u32 id] w fun e w'=>e=.returned (.tuple #[.int .i64 (VX P p.n T id).1,.int .i64 0])∧Led (PI RR p (T3X P p.n T id) (m+6)) F w w':=by
 have okM:=S.okMiss ho (by omega) h1 hno;have hvn:=(vic_goer S (P:=P) (A:=P.miss T.A id) (id:=id) hg hx).1;refine place_go S H hm h1 hu ho hno hE (T1:=T1X P p.n T id) (T2:=T1X P p.n T id) hvn (fun w F h=>victim_calls S (h.more (Nat.le_succ m)) (by omega) h1 hu okM hno hg hx) (fun w F h=>(pi_clean_no S h hvn hd).mono fun e w1 ⟨he,hl⟩=>⟨he,hl.mono fun F1 h1=>h1.more (by omega)⟩) rfl (.inl ⟨rfl,rfl,fun w F h=>?_⟩);exact(pi_vacate S h (by omega) hvn (hE _ hvn)).mono fun e w' ⟨he,hl⟩=>⟨he,hl.mono fun F1 h1=>h1.more (by omega)⟩
theorem place_wrote(H:PI RR p T m w F)(hm:m<70000){id x0:Nat}(h1:1<=id)(hu:id<4294967296){pg:Nat->Nat}{ev:Nat->Bool}(ho:ok m T.A pg ev)(hno:∀i,i<p.n->¬pg i=id)(hE:∀x,x<p.n->T.E x=false)(hg:∀x,T.I x=true↔Goer p.n pg ev x)(hpg:∀x,x<p.n->pg x=(T.f x).id)(hx:fstB p.n T.I=some x0)(hd:(T.f (VX P p.n T id).1).dirty=true)(he0:(D2X P p.n T id).1=0):Calls prog 62 #[p.ptr,.int .u32 id] w fun e w'=>e=.returned (.tuple #[.int .i64 (VX P p.n T id).1,.int .i64 0])∧Led (PI RR p {T3X P p.n T id with D:=(D2X P p.n T id).2} (m+6)) F w w':=by
 have okM:=S.okMiss ho (by omega) h1 hno;have hvn:=(vic_goer S (P:=P) (A:=P.miss T.A id) (id:=id) hg hx).1;refine place_go S H hm h1 hu ho hno hE (T1:=T1X P p.n T id) hvn (fun w F h=>victim_calls S (h.more (Nat.le_succ m)) (by omega) h1 hu okM hno hg hx) (fun w F h=>pi_clean_ok S h (by omega) hvn hd he0) rfl (.inl ⟨rfl,rfl,fun w F h=>?_⟩);have:=pi_vacate S h (by omega) hvn (hE _ hvn)
 dsimp only at this
 rw[upd_upd,upd_same]at this;exact this.mono fun e w' ⟨he,hl⟩=>⟨he,hl.mono fun F1 h1=>h1.more (by omega)⟩
theorem place_fail(H:PI RR p T m w F)(hm:m<70000){id x0:Nat}(h1:1<=id)(hu:id<4294967296){pg:Nat->Nat}{ev:Nat->Bool}(ho:ok m T.A pg ev)(hno:∀i,i<p.n->¬pg i=id)(hE:∀x,x<p.n->T.E x=false)(hg:∀x,T.I x=true↔Goer p.n pg ev x)(hpg:∀x,x<p.n->pg x=(T.f x).id)(hinj:∀i j,i<p.n->j<p.n->¬pg i=0->pg i=pg j->i=j)(hx:fstB p.n T.I=some x0)(hd:(T.f (VX P p.n T id).1).dirty=true)(he0:¬(D2X P p.n T id).1=0):Calls prog 62 #[p.ptr,.int .u32 id] w fun e w'=>e=.returned (.tuple #[.int .i64 (-1),.int .i64 (D2X P p.n T id).1])∧
  Led (PI RR p {T1X P p.n T id with A:=P.set (P.access (VX P p.n T id).2.1 (VX P p.n T id).1 (T.f (VX P p.n T id).1).id) (VX P p.n T id).1 true,D:=(D2X P p.n T id).2} (m+6)) F w w':=by
 have okM:=S.okMiss ho (by omega) h1 hno;have hgo:Goer p.n pg ev (VX P p.n T id).1:=vic_goer S (P:=P) (A:=P.miss T.A id) (id:=id) hg hx;have okV:ok (m+1+2) (VX P p.n T id).2.1 (upd pg (VX P p.n T id).1 0) (upd ev (VX P p.n T id).1 false):=vic_ok S (by omega) h1 okM hno hg hx;have hvn:=hgo.1;have hid0:¬(T.f (VX P p.n T id).1).id=0:=by rw[<-hpg _ hvn];exact hgo.2.1
 have hvid:∀i,i<p.n->¬upd pg (VX P p.n T id).1 0 i=(T.f (VX P p.n T id).1).id:=fun i hi e=>by
  by_cases q:i=(VX P p.n T id).1
  .rw[q,upd_same]at e;exact hid0 e.symm
  .rw[upd_other _ _ q]at e
   exact q (hinj i _ hi hvn (fun z=>hid0 (by rw[<-e];exact z)) (by rw[hpg _ hvn];exact e))
 have hvu:=(H.me.bd.2 (VX P p.n T id).1).1;have okA:=S.okNew okV (by omega) (by omega) hvu hvn (upd_same _ _ _) hvid
 refine place_go S H hm h1 hu ho hno hE (T1:=T1X P p.n T id) hvn (fun w F h=>victim_calls S (h.more (Nat.le_succ m)) (by omega) h1 hu okM hno hg hx) (fun w F h=>pi_clean_err S h (by omega) hvn hd he0) rfl (.inr ⟨fun e=>he0 (by omega),rfl,_,fun w6 F6 b1 b2 h q1 q2 q3 q4 q5 q6=>h.tell2 S own_p2 (fun FR hr hF=>S.acc hr okV (by omega) (by omega) hvu hvn (.inr ⟨upd_same _ _ _,hvid⟩) q1 q2 q3 q4 (fun q=>q5 (hF _ q)) (fun q=>q6 (hF _ q)) (.inl rfl)),
  fun w6 F6 b1 h q1 q3 q5=>(h.tell1 S own_p3 (fun FR hr hF=>S.setT hr okA (by omega) hvn (by rw[upd_same];exact hid0) q1 q3 (fun q=>q5 (hF _ q)) (.inl rfl))).mono fun e w' ⟨he,hl⟩=>⟨he,hl.mono fun F1 h1=>h1.more (by omega)⟩⟩)
end
end
section
open Go.Maps Go.RowKit
def RS.ids(r:RS):List Nat:=r.L.map (·.1)
theorem RS.has_iff(r:RS)(x:Nat):r.has x=true↔x∈r.ids:=by
 unfold RS.has atP RS.ids;rw[List.findIdx?_isSome,List.any_eq_true];constructor
 .rintro⟨p,hp,e⟩
  exact List.mem_map.2 ⟨p,hp,by simpa using e⟩
 .intro h
  obtain⟨p,hp,e⟩:=List.mem_map.1 h;exact⟨p,hp,by simpa using e⟩
theorem RS.has_eq{r r':RS}(h:∀x,x∈r'.ids↔x∈r.ids)(x:Nat):r'.has x=r.has x:=by
 have h1:=r.has_iff x;have h2:=r'.has_iff x
 cases e:r'.has x with
 |true=>exact((h1.2 ((h x).1 (h2.1 e)))).symm
 |false=>
  cases e':r.has x with
  |false=>rfl
  |true=>rw[h2.2 ((h x).2 (h1.1 e'))]at e;cases e
theorem RS.write_ids(r:RS)(id v:Nat):(r.write id v).2.ids=r.ids∧(r.write id v).2.room=r.room:=by
 unfold RS.write
 cases h:atP r.L id with
 |none=>exact⟨rfl,rfl⟩
 |some k=>
  dsimp only
  split
  .exact⟨rfl,rfl⟩
  .split
   .exact⟨rfl,rfl⟩
   .refine⟨?_,rfl⟩
    unfold RS.ids
    dsimp only
    rw[List.map_set];obtain⟨hk,_⟩:=atP_is h;rw[show r.L.getD k (0,0)=r.L[k]from by simp[List.getD,hk]];apply List.ext_getElem
    .simp
    .intro i h1 h2
     rw[List.getElem_set]
     split
     .next e=>subst e;simp
     .rfl
theorem RS.write_has(r:RS)(id v x:Nat):(r.write id v).2.has x=r.has x:=RS.has_eq (fun y=>by rw[(r.write_ids id v).1]) x
theorem RS.ins_has(r:RS)(k x:Nat):(r.ins k).has x=(decide (x=k+1)||r.has x):=by
 have h1:=(r.ins k).has_iff x;have h2:=r.has_iff x
 have h3:x∈(r.ins k).ids↔x=k+1∨x∈r.ids:=by
  unfold RS.ids RS.ins
  dsimp only
  have e:r.L=r.L.take k++r.L.drop k:=(List.take_append_drop k r.L).symm;constructor
  .intro h
   simp only[List.map_append,List.mem_append,List.map_cons,List.map_nil,List.mem_singleton]at h;rw[e,List.map_append,List.mem_append];rcases h with(h|h)|h
   .exact .inr (.inl h)
   .exact .inl h
   .exact .inr (.inr h)
  .intro h
   rw[e,List.map_append,List.mem_append]at h;simp only[List.map_append,List.mem_append,List.map_cons,List.map_nil,List.mem_singleton];rcases h with h|h|h
   .exact .inl (.inr h)
   .exact .inl (.inl h)
   .exact .inr h
 by_cases hx:x=k+1
 .rw[h1.2 (h3.2 (.inl hx))];simp[hx]
 .rw[decide_eq_false hx,Bool.false_or]
  refine Bool.eq_iff_iff.2 (h1.trans (h3.trans (Iff.trans ⟨fun q=>q.elim (fun q=>(hx q).elim) id,.inr⟩ h2.symm)))
theorem DRel.hasE{s:DS}{r:RS}(h:DRel s r)(x:Nat):r.has x=s.has x:=by
 unfold RS.has;rcases h.has x with⟨e,_,_,_,q⟩|⟨e,q⟩
 .rw[e,q];rfl
 .rw[e,q];rfl
theorem DRel.free_has{s:DS}{r:RS}(h:DRel s r){id:Nat}(hh:r.has id=true)(x:Nat):(r.free id).2.has x=(decide (¬x=id)&&r.has x):=by
 have hs:s.has id=true:=by rw[<-h.hasE];exact hh
 rw[(h.free_yes hs).2.hasE,h.hasE];have h1:1<=id:=by unfold DS.has at hs;simp at hs;exact hs.1.1
 show DS.has (s.gone id) x=_
 unfold DS.has DS.gone
 dsimp only
 by_cases e:x=id
 .subst e;rw[upd_same];simp
 .rw[decide_eq_true e,Bool.true_and]
  by_cases h0:x-1=id-1
  .obtain rfl:x=0:=by omega
   simp
  .rw[upd_other _ _ h0]
structure PS(τ:Type) where
 f:Nat->FrS
 D:RS
 A:τ
 sc:Nat
def frm(n:Nat)(f:Nat->FrS)(id:Nat):Option Nat:=(List.range n).find? (fun i=>decide ((f i).id=id))
def plZ:Option Nat->Int
 |none=> -1
 |some k=>k
def plO(n:Nat)(f:Nat->FrS)(D:RS)(id:Nat):Option Int:=if D.has id=true then some (plZ (frm n f id))else none
def emB(n:Nat)(f:Nat->FrS):Nat->Bool:=fun i=>decide (i<n)&&decide ((f i).id=0)
def idB(n:Nat)(f:Nat->FrS):Nat->Bool:=fun i=>decide (i<n)&&(decide (¬(f i).id=0)&&decide ((f i).pins=0))
def CT{τ:Type}(n:Nat)(S:PS τ):PT τ:=⟨S.f,plO n S.f S.D,emB n S.f,idB n S.f,S.sc,S.D,S.A⟩
structure Inv(n:Nat)(f:Nat->FrS)(D:RS):Prop where
 em:∀i,i<n->(f i).id=0->f i=zF
 has:∀i,i<n->¬(f i).id=0->D.has (f i).id=true
 inj:∀i j,i<n->j<n->¬(f i).id=0->(f i).id=(f j).id->i=j
 dr:∃s,DRel s D
 vd:∀x∈D.L,x.2<18446744073709551616
 vf:∀i,i<n->(f i).val<18446744073709551616
section
variable{n k id:Nat}{f:Nat->FrS}{D D':RS}{x:FrS}
theorem Inv.pos(H:Inv n f D)(h:D.has id=true):1<=id:=by
 obtain⟨s,hs⟩:=H.dr;rw[hs.hasE]at h;unfold DS.has at h;simp at h;exact h.1.1
theorem frm_fst:frm n f id=fstB n (fun i=>decide ((f i).id=id)):=rfl
theorem frm_some(h:frm n f id=some k):k<n∧(f k).id=id:=by
 rw[frm_fst]at h;obtain⟨h1,h2⟩:=fstB_some h;exact⟨h1,by simpa using h2.1⟩
theorem emB_upd(hk:k<n)(x:FrS):emB n (upd f k x)=updB (emB n f) k (decide (x.id=0)):=by
 funext i
 by_cases e:i=k
 .subst e;rw[updB_same];unfold emB;rw[upd_same];simp[hk]
 .rw[updB_other _ _ e];unfold emB;rw[upd_other _ _ e]
theorem idB_upd(hk:k<n)(x:FrS):idB n (upd f k x)=updB (idB n f) k (decide (¬x.id=0)&&decide (x.pins=0)):=by
 funext i
 by_cases e:i=k
 .subst e;rw[updB_same];unfold idB;rw[upd_same];simp[hk]
 .rw[updB_other _ _ e];unfold idB;rw[upd_other _ _ e]
theorem emB_at(hk:k<n):emB n f k=decide ((f k).id=0):=by unfold emB;simp[hk]
theorem idB_at(hk:k<n):idB n f k=(decide (¬(f k).id=0)&&decide ((f k).pins=0)):=by unfold idB;simp[hk]
theorem plO_D(h:∀x,D'.has x=D.has x):plO n f D'=plO n f D:=by
 funext id;unfold plO;rw[h]
theorem frm_eq_none(h:∀i,i<n->¬(f i).id=id):frm n f id=none:=by
 cases e:frm n f id with
 |none=>rfl
 |some j=>obtain⟨h1,h2⟩:=frm_some e;exact absurd h2 (h j h1)
theorem frm_else{g:Nat->FrS}{y:Nat}(hk:k<n)(ho:∀i,¬i=k->g i=f i)(h1:¬(f k).id=y)(h2:¬(g k).id=y):frm n g y=frm n f y:=by
 unfold frm
 congr 1
 funext i
 by_cases e:i=k
 .subst e;rw[decide_eq_false h1,decide_eq_false h2]
 .rw[ho i e]
theorem plO_vac(H:Inv n f D)(hk:k<n)(h0:¬(f k).id=0):plO n (upd f k zF) D=updO (plO n f D) (f k).id (some (-1)):=by
 funext y
 by_cases e:y=(f k).id
 .subst e
  rw[updO_same];unfold plO;rw[if_pos (H.has k hk h0),frm_eq_none (fun i hi q=>?_)]
  .rfl
  .by_cases e:i=k
   .subst e;rw[upd_same]at q;exact h0 q.symm
   .rw[upd_other _ _ e]at q;exact e (H.inj i k hi hk (by rw[q];exact h0) q)
 .rw[updO_other _ _ e]
  unfold plO;by_cases y0:D.has y=true
  .have hy:¬y=0:=by have:=H.pos y0;omega
   rw[if_pos y0,if_pos y0,frm_else hk (fun i q=>upd_other _ _ q) (fun q=>e q.symm) (by rw[upd_same];exact fun q=>hy q.symm)]
  .rw[if_neg y0,if_neg y0]
theorem plO_enter(H:Inv n f D)(hk:k<n)(h0:(f k).id=0)(hx:D.has x.id=true)(hno:∀i,i<n->¬(f i).id=x.id):plO n (upd f k x) D=updO (plO n f D) x.id (some (k:Int)):=by
 have hx1:=H.pos hx
 funext y
 by_cases e:y=x.id
 .subst e
  rw[updO_same];unfold plO;rw[if_pos hx]
  have:frm n (upd f k x) x.id=some k:=by
   rw[frm_fst];refine fstB_is hk ⟨by show decide ((upd f k x k).id=x.id)=true;rw[upd_same];simp,fun i hi=>?_⟩
   show decide ((upd f k x i).id=x.id)=false
   rw[upd_other _ _ (by omega)];simp[hno i (by omega)]
  rw[this];rfl
 .rw[updO_other _ _ e]
  unfold plO;by_cases y0:D.has y=true
  .have hy:¬y=0:=by have:=H.pos y0;omega
   rw[if_pos y0,if_pos y0,frm_else hk (fun i q=>upd_other _ _ q) (by rw[h0];exact fun q=>hy q.symm) (by rw[upd_same];exact fun q=>e q.symm)]
  .rw[if_neg y0,if_neg y0]
theorem vf_upd(H:Inv n f D)(hx:x.val<18446744073709551616):∀i,i<n->(upd f k x i).val<18446744073709551616:=fun i hi=>by
 by_cases e:i=k
 .rw[e,upd_same];exact hx
 .rw[upd_other _ _ e];exact H.vf i hi
theorem Inv.vac(H:Inv n f D)(hk:k<n):Inv n (upd f k zF) D:=by
 refine⟨fun i hi q=>?_,fun i hi q=>?_,fun i j hi hj q e=>?_,H.dr,H.vd,vf_upd H (by decide)⟩
 .by_cases e:i=k
  .rw[e,upd_same]
  .rw[upd_other _ _ e]at q⊢;exact H.em i hi q
 .by_cases e:i=k
  .rw[e,upd_same]at q;exact absurd rfl q
  .rw[upd_other _ _ e]at q⊢;exact H.has i hi q
 .by_cases e1:i=k
  .rw[e1,upd_same]at q;exact absurd rfl q
  .by_cases e2:j=k
   .rw[upd_other _ _ e1]at q e;rw[e2,upd_same]at e;exact absurd e q
   .rw[upd_other _ _ e1]at q e;rw[upd_other _ _ e2]at e;exact H.inj i j hi hj q e
theorem Inv.enter(H:Inv n f D)(hk:k<n)(h0:(f k).id=0)(hx:D.has x.id=true)(hno:∀i,i<n->¬(f i).id=x.id)(hxv:x.val<18446744073709551616):Inv n (upd f k x) D:=by
 have hx1:=H.pos hx;refine⟨fun i hi q=>?_,fun i hi q=>?_,fun i j hi hj q e=>?_,H.dr,H.vd,vf_upd H hxv⟩
 .by_cases e:i=k
  .rw[e,upd_same]at q;omega
  .rw[upd_other _ _ e]at q⊢;exact H.em i hi q
 .by_cases e:i=k
  .rw[e,upd_same];exact hx
  .rw[upd_other _ _ e]at q⊢;exact H.has i hi q
 .by_cases e1:i=k
  .by_cases e2:j=k
   .rw[e1,e2]
   .rw[e1,upd_same,upd_other _ _ e2]at e;exact absurd e.symm (hno j hj)
  .by_cases e2:j=k
   .rw[e2,upd_same,upd_other _ _ e1]at e;exact absurd e (hno i hi)
   .rw[upd_other _ _ e1]at q e;rw[upd_other _ _ e2]at e;exact H.inj i j hi hj q e
theorem Inv.disk(H:Inv n f D)(h:∀i,i<n->¬(f i).id=0->D'.has (f i).id=true)(dr:∃s,DRel s D')(vd:∀x∈D'.L,x.2<18446744073709551616):Inv n f D':=⟨H.em,h,H.inj,dr,vd,H.vf⟩
theorem RS.write_vd{r:RS}{id v:Nat}(h:∀x∈r.L,x.2<18446744073709551616)(hv:v<18446744073709551616):∀x∈(r.write id v).2.L,x.2<18446744073709551616:=by
 unfold RS.write
 cases atP r.L id with
 |none=>exact h
 |some k=>
  dsimp only
  split
  .exact h
  .split
   .exact h
   .intro x hx
    rcases List.mem_or_eq_of_mem_set hx with q|q
    .exact h x q
    .rw[q];exact hv
theorem Inv.write(H:Inv n f D)(id:Nat){v:Nat}(hv:v<18446744073709551616):Inv n f (D.write id v).2:=by
 obtain⟨s,hs⟩:=H.dr;exact H.disk (fun i hi q=>by rw[RS.write_has];exact H.has i hi q) ⟨_,(hs.write id v).2⟩ (RS.write_vd H.vd hv)
theorem Inv.ins(H:Inv n f D)(hl:D.L.length<D.room):Inv n f (D.ins (gapOf D.L)):=by
 obtain⟨s,hs⟩:=H.dr;refine H.disk (fun i hi q=>by rw[RS.ins_has,H.has i hi q];simp) ⟨_,hs.put (gapOf_is D.L) hl⟩ (fun x hx=>?_);rcases List.mem_append.1 hx with q|q
 .rcases List.mem_append.1 q with q|q
  .exact H.vd x (List.mem_of_mem_take q)
  .simp at q;rw[q];show 0<_;omega
 .exact H.vd x (List.mem_of_mem_drop q)
theorem RS.free_vd{r:RS}{id:Nat}(h:∀x∈r.L,x.2<18446744073709551616):∀x∈(r.free id).2.L,x.2<18446744073709551616:=by
 unfold RS.free
 cases atP r.L id with
 |none=>exact h
 |some k=>
  intro x hx;rcases List.mem_append.1 hx with q|q
  .exact h x (List.mem_of_mem_take q)
  .exact h x (List.mem_of_mem_drop q)
theorem Inv.free(H:Inv n f D)(hno:∀i,i<n->¬(f i).id=id):Inv n f (D.free id).2:=by
 obtain⟨s,hs⟩:=H.dr;by_cases hh:D.has id=true
 .refine H.disk (fun i hi q=>?_) ⟨_,(hs.free_yes (by rw[<-hs.hasE];exact hh)).2⟩ (RS.free_vd H.vd)
  rw[hs.free_has hh,H.has i hi q];simp[hno i hi]
 .have:s.has id=false:=by rw[<-hs.hasE];simpa using hh
  rw[hs.free_no this];exact H
theorem Inv.gap(H:Inv n f D):D.has (gapOf D.L+1)=false:=by
 obtain⟨s,hs⟩:=H.dr;have hg:=gapOf_is D.L;rw[hs.hasE];have hg2:Gap (plL s.pg s.np) (gapOf D.L):=by rw[hs.L]at hg⊢;exact hg
 obtain⟨q1,q2,q3,q4⟩:=plL_gap hg2;unfold DS.has;rcases Nat.lt_or_ge (gapOf D.L) s.np with q|q
 .rw[show gapOf D.L+1-1=gapOf D.L from by omega,q3 q];simp
 .have:¬(1<=gapOf D.L+1∧gapOf D.L+1<=s.np):=by omega
  simp only[this,decide_false,Bool.false_and]
end
end
section
open Go.Maps Go.Proofs.Tryz Go.RowKit
section
variable{τ:Type}(P:Adv τ)(n:Nat)
def PS.vic(S:PS τ)(id:Nat):Nat×τ×Nat:=vicX P n (P.miss S.A id) (idB n S.f) id
def PS.room(S:PS τ)(id:Nat):(Option Nat×Nat)×PS τ:=
 match fstB n (emB n S.f)with
 |some x=>((some x,0),{S with A:=P.miss S.A id})
 |none=>
  if(S.f (S.vic P n id).1).dirty=true then
   if(S.D.write (S.f (S.vic P n id).1).id (S.f (S.vic P n id).1).val).1=0 then
    ((some (S.vic P n id).1,0),⟨upd S.f (S.vic P n id).1 zF,(S.D.write (S.f (S.vic P n id).1).id (S.f (S.vic P n id).1).val).2,(S.vic P n id).2.1,S.sc+(S.vic P n id).2.2⟩)
   else
    ((none,(S.D.write (S.f (S.vic P n id).1).id (S.f (S.vic P n id).1).val).1),⟨S.f,(S.D.write (S.f (S.vic P n id).1).id (S.f (S.vic P n id).1).val).2,P.set (P.access (S.vic P n id).2.1 (S.vic P n id).1 (S.f (S.vic P n id).1).id) (S.vic P n id).1 true,S.sc+(S.vic P n id).2.2⟩)
  else((some (S.vic P n id).1,0),⟨upd S.f (S.vic P n id).1 zF,S.D,(S.vic P n id).2.1,S.sc+(S.vic P n id).2.2⟩)
def PS.roomPl(S:PS τ)(id:Nat)(pl:Nat->Option Int):Nat->Option Int:=
 match fstB n (emB n S.f)with
 |some x=>pl
 |none=>
  if(S.f (S.vic P n id).1).dirty=true then
   if(S.D.write (S.f (S.vic P n id).1).id (S.f (S.vic P n id).1).val).1=0 then updO pl (S.f (S.vic P n id).1).id (some (-1))else pl
  else updO pl (S.f (S.vic P n id).1).id (some (-1))
def PS.all(S:PS τ):Bool:=(fstB n (emB n S.f)).isNone&&(fstB n (idB n S.f)).isNone
noncomputable def PS.newPage(S:PS τ):(Nat×Nat)×PS τ:=
 if S.all n=true then((0,6),S)
 else if S.D.room<=S.D.L.length then((0,2),S)
 else match(PS.room P n {S with D:=S.D.ins (gapOf S.D.L)} (gapOf S.D.L+1)).1.1 with
  |none=>((0,(PS.room P n {S with D:=S.D.ins (gapOf S.D.L)} (gapOf S.D.L+1)).1.2),{(PS.room P n {S with D:=S.D.ins (gapOf S.D.L)} (gapOf S.D.L+1)).2 with D:=((PS.room P n {S with D:=S.D.ins (gapOf S.D.L)} (gapOf S.D.L+1)).2.D.free (gapOf S.D.L+1)).2})
  |some k=>((gapOf S.D.L+1,0),{(PS.room P n {S with D:=S.D.ins (gapOf S.D.L)} (gapOf S.D.L+1)).2 with f:=upd (PS.room P n {S with D:=S.D.ins (gapOf S.D.L)} (gapOf S.D.L+1)).2.f k ⟨gapOf S.D.L+1,0,1,false⟩,A:=P.access (PS.room P n {S with D:=S.D.ins (gapOf S.D.L)} (gapOf S.D.L+1)).2.A k (gapOf S.D.L+1)})
def PS.held(S:PS τ)(id:Nat):Nat×Nat:=
 if S.D.has id=true then
  match frm n S.f id with
  |some k=>if(S.f k).pins=0 then(0,5)else(k,0)
  |none=>(0,5)
 else(0,3)
def PS.write(S:PS τ)(id v:Nat):Nat×PS τ:=
 if(S.held n id).2=0 then(0,{S with f:=upd S.f (S.held n id).1 {S.f (S.held n id).1 with val:=v,dirty:=true}})
 else((S.held n id).2,S)
end
def pgO(f:Nat->FrS):Nat->Nat:=fun i=>(f i).id
def evO(f:Nat->FrS):Nat->Bool:=fun i=>decide ((f i).pins=0)
section
variable{τ:Type}{P:Adv τ}{RR:World->τ->(Nat->Prop)->Prop}{ok:Nat->τ->(Nat->Nat)->(Nat->Bool)->Prop}{p:PP}(S:RepSys P RR p.pb p.rv p.n ok){w w':World}{m:Nat}{F:Nat->Prop}{X:PS τ}
theorem pgO_upd(f:Nat->FrS)(k:Nat)(x:FrS):pgO (upd f k x)=upd (pgO f) k x.id:=by
 funext i;unfold pgO
 by_cases e:i=k
 .rw[e,upd_same,upd_same]
 .rw[upd_other _ _ e,upd_other _ _ e]
theorem evO_upd(f:Nat->FrS)(k:Nat)(x:FrS):evO (upd f k x)=upd (evO f) k (decide (x.pins=0)):=by
 funext i;unfold evO
 by_cases e:i=k
 .rw[e,upd_same,upd_same]
 .rw[upd_other _ _ e,upd_other _ _ e]
theorem goer_iff(n:Nat)(f:Nat->FrS)(x:Nat):idB n f x=true↔Goer n (pgO f) (evO f) x:=by
 unfold idB Goer pgO evO;simp
def PW(RR:World->τ->(Nat->Prop)->Prop)(ok:Nat->τ->(Nat->Nat)->(Nat->Bool)->Prop)(p:PP)(X:PS τ)(m:Nat)(w:World)(F:Nat->Prop):Prop:=PI RR p (CT p.n X) m w F∧Inv p.n X.f X.D∧ok m X.A (pgO X.f) (evO X.f)
include S
theorem PW.more(H:PW RR ok p X m w F){k:Nat}(hk:m<=k):PW RR ok p X k w F:=⟨H.1.more hk,H.2.1,S.more H.2.2 hk⟩
theorem room_inv{D0:RS}(hI:Inv p.n X.f X.D)(hm:m<70000)(ho:ok m X.A (pgO X.f) (evO X.f)){id:Nat}(h1:1<=id)(hno:∀i,i<p.n->¬(X.f i).id=id)(hall:¬X.all p.n=true)(hb:∀i,i<p.n->(X.f i).id<4294967296):
  Inv p.n (X.room P p.n id).2.f (X.room P p.n id).2.D∧ok (m+6) (X.room P p.n id).2.A (pgO (X.room P p.n id).2.f) (evO (X.room P p.n id).2.f)∧
  (∀i,i<p.n->¬((X.room P p.n id).2.f i).id=id)∧(∀x,(X.room P p.n id).2.D.has x=X.D.has x)∧(X.room P p.n id).2.D.room=X.D.room∧
  (∀D0,Inv p.n X.f D0->X.roomPl P p.n id (plO p.n X.f D0)=plO p.n (X.room P p.n id).2.f D0)∧
  (∀k,(X.room P p.n id).1.1=some k->(X.room P p.n id).1.2=0∧k<p.n∧(X.room P p.n id).2.f k=zF)∧((X.room P p.n id).1.1=none->¬(X.room P p.n id).1.2=0∧(X.room P p.n id).2.f=X.f):=by
 have hno':∀i,i<p.n->¬pgO X.f i=id:=hno;unfold PS.room PS.roomPl
 cases he:fstB p.n (emB p.n X.f)with
 |some x=>
  dsimp only
  obtain⟨x1,x2⟩:=fstB_some he;have x3:(X.f x).id=0:=by have:=x2.1;rw[emB_at x1]at this;simpa using this
  refine⟨hI,S.more (S.okMiss ho (by omega) h1 hno') (by omega),hno,fun x=>rfl,rfl,fun D0 _=>rfl,fun k hk=>?_,fun h=>(by cases h)⟩
  cases hk
  exact⟨rfl,x1,hI.em x x1 x3⟩
 |none=>
  dsimp only
  obtain⟨x0,hx0⟩:∃x0,fstB p.n (idB p.n X.f)=some x0:=by
   cases hq:fstB p.n (idB p.n X.f)with
   |some x0=>exact⟨x0,rfl⟩
   |none=>exact absurd (by unfold PS.all;rw[he,hq];rfl) hall
  have okM:=S.okMiss ho (by omega) h1 hno';have hg:=goer_iff p.n X.f;have hgo:Goer p.n (pgO X.f) (evO X.f) (X.vic P p.n id).1:=vic_goer S (P:=P) (A:=P.miss X.A id) (id:=id) hg hx0;have okV:ok (m+1+2) (X.vic P p.n id).2.1 (upd (pgO X.f) (X.vic P p.n id).1 0) (upd (evO X.f) (X.vic P p.n id).1 false):=vic_ok S (by omega) h1 okM hno' hg hx0;generalize X.vic P p.n id=V at*;obtain⟨v1,v2,v3⟩:=V
  dsimp only at*
  obtain⟨hv1,hv2,hv3⟩:=hgo;have hv2':¬(X.f v1).id=0:=hv2
  have okZ:ok (m+6) v2 (pgO (upd X.f v1 zF)) (evO (upd X.f v1 zF)):=by
   rw[pgO_upd,evO_upd];refine S.same (S.more okV (by omega)) (fun i hi=>rfl) (fun i hi q=>?_);by_cases e:i=v1
   .rw[e,upd_same]at q;exact absurd rfl q
   .rw[upd_other _ _ e,upd_other _ _ e]
  have noZ:∀i,i<p.n->¬(upd X.f v1 zF i).id=id:=fun i hi q=>by
   by_cases e:i=v1
   .rw[e,upd_same]at q;exact absurd q (by show¬0=id;omega)
   .rw[upd_other _ _ e]at q;exact hno i hi q
  by_cases hd:(X.f v1).dirty=true
  .rw[if_pos hd]
   by_cases hw:(X.D.write (X.f v1).id (X.f v1).val).1=0
   .simp only[if_pos hw,if_pos hd]
    refine⟨(hI.vac hv1).write _ (hI.vf v1 hv1),okZ,noZ,fun x=>RS.write_has _ _ _ _,(RS.write_ids _ _ _).2,fun D0 h0=>(plO_vac h0 hv1 hv2').symm,fun k hk=>?_,fun h=>(by cases h)⟩
    cases hk
    exact⟨by first|rfl|trivial,hv1,upd_same _ _ _⟩
   .simp only[if_neg hw,if_pos hd]
    refine⟨hI.write _ (hI.vf v1 hv1),?_,hno,fun x=>RS.write_has _ _ _ _,(RS.write_ids _ _ _).2,fun D0 h0=>by first|rfl|trivial,fun k hk=>(by cases hk),fun _=>⟨hw,by first|rfl|trivial⟩⟩
    have hnv:∀i,i<p.n->¬upd (pgO X.f) v1 0 i=(X.f v1).id:=fun i hi e=>by
     by_cases q:i=v1
     .rw[q,upd_same]at e;exact hv2' e.symm
     .rw[upd_other _ _ q]at e
      exact q (hI.inj i v1 hi hv1 (fun z=>hv2' (by rw[<-e];exact z)) e)
    have o1:=S.okNew okV (by omega) (by omega) (hb v1 hv1) hv1 (upd_same _ _ _) hnv;have o2:=S.okSet true o1 (by omega) hv1 (by rw[upd_same];exact hv2');refine S.same (S.more o2 (by omega)) (fun i hi=>?_) (fun i hi q=>?_)
    .by_cases e:i=v1
     .rw[e,upd_same];rfl
     .rw[upd_other _ _ e,upd_other _ _ e]
    .by_cases e:i=v1
     .rw[e,upd_same];exact hv3.symm
     .rw[upd_other _ _ e,upd_other _ _ e,upd_other _ _ e]
  .simp only[if_neg hd]
   refine⟨hI.vac hv1,okZ,noZ,fun x=>by first|rfl|trivial,by first|rfl|trivial,fun D0 h0=>(plO_vac h0 hv1 hv2').symm,fun k hk=>?_,fun h=>(by cases h)⟩
   cases hk
   exact⟨by first|rfl|trivial,hv1,upd_same _ _ _⟩
theorem room_calls{pl:Nat->Option Int}(H:PI RR p ⟨X.f,pl,emB p.n X.f,idB p.n X.f,X.sc,X.D,X.A⟩ m w F)(hI:∀i j,i<p.n->j<p.n->¬(X.f i).id=0->(X.f i).id=(X.f j).id->i=j)(hm:m<70000)(ho:ok m X.A (pgO X.f) (evO X.f)){id:Nat}(h1:1<=id)(hu:id<4294967296)(hno:∀i,i<p.n->¬(X.f i).id=id)(hall:¬X.all p.n=true):
  Calls prog 62 #[p.ptr,.int .u32 id] w fun e w'=>e=.returned (.tuple #[.int .i64 (plZ (X.room P p.n id).1.1),.int .i64 (X.room P p.n id).1.2])∧
   Led (PI RR p ⟨(X.room P p.n id).2.f,X.roomPl P p.n id pl,emB p.n (X.room P p.n id).2.f,idB p.n (X.room P p.n id).2.f,(X.room P p.n id).2.sc,(X.room P p.n id).2.D,(X.room P p.n id).2.A⟩ (m+6)) F w w':=by
 have hno':∀i,i<p.n->¬pgO X.f i=id:=hno;unfold PS.room PS.roomPl
 cases he:fstB p.n (emB p.n X.f)with
 |some x=>
  dsimp only
  exact place_empty S H hm h1 hu ho hno' he
 |none=>
  dsimp only
  obtain⟨x0,hx0⟩:∃x0,fstB p.n (idB p.n X.f)=some x0:=by
   cases hq:fstB p.n (idB p.n X.f)with
   |some x0=>exact⟨x0,rfl⟩
   |none=>exact absurd (by unfold PS.all;rw[he,hq];rfl) hall
  have hg:=goer_iff p.n X.f;have hE:∀x,x<p.n->emB p.n X.f x=false:=fstB_none he;have hgo:Goer p.n (pgO X.f) (evO X.f) (X.vic P p.n id).1:=vic_goer S (P:=P) (A:=P.miss X.A id) (id:=id) hg hx0;obtain⟨hv1,hv2,hv3⟩:=hgo;have hv2':¬(X.f (X.vic P p.n id).1).id=0:=hv2;have e1:emB p.n (upd X.f (X.vic P p.n id).1 zF)=updB (emB p.n X.f) (X.vic P p.n id).1 true:=emB_upd hv1 zF;have e2:idB p.n (upd X.f (X.vic P p.n id).1 zF)=updB (idB p.n X.f) (X.vic P p.n id).1 false:=idB_upd hv1 zF;by_cases hd:(X.f (X.vic P p.n id).1).dirty=true
  .by_cases hw:(X.D.write (X.f (X.vic P p.n id).1).id (X.f (X.vic P p.n id).1).val).1=0
   .simp only[if_pos hw,if_pos hd]
    rw[e1,e2];exact place_wrote S H hm h1 hu ho hno' hE hg (fun x _=>rfl) hx0 hd hw
   .simp only[if_neg hw,if_pos hd]
    exact place_fail S H hm h1 hu ho hno' hE hg (fun x _=>rfl) hI hx0 hd hw
  .simp only[if_neg hd]
   rw[e1,e2];exact place_took S H hm h1 hu ho hno' hE hg (fun x _=>rfl) hx0 (Bool.eq_false_iff.2 hd)
end
end
end Go.Proofs.YtoenclhimbpfeaaGreatDoor
