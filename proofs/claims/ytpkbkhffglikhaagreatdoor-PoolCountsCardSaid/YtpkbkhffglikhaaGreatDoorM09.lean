/- Part 9. -/
import Derived.Test.YtpkbkhffglikhaaGreatDoorM08
namespace Go.Proofs.YtpkbkhffglikhaaGreatDoor
set_option linter.all false
set_option maxHeartbeats 16000000
set_option maxRecDepth 100000
section
open Go.Maps Go.Proofs.Tryz Go.RowKit
section
variable{τ:Type}{P:Adv τ}{RR:World->τ->(Nat->Prop)->Prop}{ok:Nat->τ->(Nat->Nat)->(Nat->Bool)->Prop}{p:PP}(S:RepSys P RR p.pb p.rv p.n ok){w w':World}{T:PT τ}{m:Nat}{F:Nat->Prop}
include S
theorem place_empty(H:PI RR p T m w F)(hm:m<70000){id x0:Nat}(h1:1<=id)(hu:id<4294967296){pg:Nat->Nat}{ev:Nat->Bool}(ho:ok m T.A pg ev)(hno:∀i,i<p.n->¬pg i=id)(hx:fstB p.n T.E=some x0):Calls prog 44 #[p.ptr,.int .u32 id] w λe w'=>e=.returned (.tuple #[.int .i64 x0,.int .i64 0])/\
  Led (PI RR p {T with A:=P.miss T.A id} (m+6)) F w w':=by
 obtain⟨b1,b3,b4⟩:=box1 w (.int .u32 id) 32;have H1:=H.fr0 S b4;have hlt:=H.lt S;have hnF1:¬F w.heap.size:=λq=>by have:=hlt _ q;omega
 have KT1:Hid (Calls prog 48 #[p.ptr,.func (.func 67) #[] #[.pointer (some ⟨w.heap.size,0,none⟩)]] (w.alloc (.cells #[.int .u32 id] 32)) λe w'=>e=.returned (.tuple #[])/\Led (PI RR p {T with A:=P.miss T.A id} m) F (w.alloc (.cells #[.int .u32 id] 32)) w'):=
  H1.tell1 S own_p1 (λFR hr hF=>S.miss hr ho (by omega) h1 hu hno b1 (by omega) (λq=>hnF1 (hF _ q)))
 have KB:Hid (∀w3 F3 (A:τ),PI RR p {T with A:=A} m w3 F3->p.pb<w3.heap.size):=λw3 F3 A h3=>h3.me.hd.lt
 obtain⟨hx1,hx2⟩:=fstB_some hx
 have KF:Hid (∀w3 F3,PI RR p {T with A:=P.miss T.A id} m w3 F3->Calls prog 68 #[.pointer (some ⟨p.pb,4,none⟩)] w3 λe w'=>e=.returned (.int .i64 x0)/\w3=w'):=λw3 F3 h=>by
  refine(mp_firstE h.me).mono ?_;rintro e w'⟨rfl,⟨_,q,_⟩|⟨x,hx,hl,he⟩⟩
  .have hq:T.E x0=false:=q x0
   rw[hx2.1]at hq;cases hq
  .have e:some x=some x0:=by rw[<-fstB_is hx1 hx2,<-fstB_is (I:=T.E) hx hl]
   cases e
   exact⟨he,rfl⟩
 unfold PP.ptr at*;have B4:=Hd b4;generalize hw2:(w.alloc (.cells #[.int .u32 id] 32))=w2 at*;clear H H1 S ho hno hu b4 hlt hx hx2;go_enter func44,ntmps44
 go_wp2_with fail
 try rw[hw2]
 clear hw2;refine KT1.out.mono ?_;rintro e w3⟨rfl,F3,h3,g3,q3⟩;have lb:=KB.out w3 F3 _ h3;have HF:=Hd (KF.out w3 F3 h3);have HL:=Hd (Led.trans (R:=λ_ _=>True) (B4.out.mono (λ_ q=>q.elim)) (λi q=>.inl q) (⟨F3,h3.more (by omega:m<=m+6),g3,q3⟩:Led (PI RR p {T with A:=P.miss T.A id} (m+6)) F w2 w3));clear h3 g3 q3 KT1 KB KF
 go_wp2_with fail
 refine HF.out.mono ?_;rintro e w4⟨rfl,rfl⟩;have hge:decide ((x0:Int)>=0)=true:=by simp
 go_wp2;go_returns;exact⟨rfl,HL.out⟩
theorem place_took(H:PI RR p T m w F)(hm:m<70000){id x0:Nat}(h1:1<=id)(hu:id<4294967296){pg:Nat->Nat}{ev:Nat->Bool}(ho:ok m T.A pg ev)(hno:∀i,i<p.n->¬pg i=id)(hE:∀x,x<p.n->T.E x=false)(hg:∀x,T.I x=true↔Goer p.n pg ev x)(hpg:∀x,x<p.n->pg x=(T.f x).id)(hx:fstB p.n T.I=some x0)(hd:(T.f (vicX P p.n (P.miss T.A id) T.I id).1).dirty=false):Calls prog 44 #[p.ptr,.int .u32 id] w λe w'=>e=.returned (.tuple #[.int .i64 (vicX P p.n (P.miss T.A id) T.I id).1,.int .i64 0])/\
  Led (PI RR p {T with f:=upd T.f (vicX P p.n (P.miss T.A id) T.I id).1 zF,pl:=updO T.pl (T.f (vicX P p.n (P.miss T.A id) T.I id).1).id (some (-1)),E:=updB T.E (vicX P p.n (P.miss T.A id) T.I id).1 true,I:=updB T.I (vicX P p.n (P.miss T.A id) T.I id).1 false,A:=(vicX P p.n (P.miss T.A id) T.I id).2.1,sc:=T.sc+(vicX P p.n (P.miss T.A id) T.I id).2.2} (m+6)) F w w':=by
 obtain⟨b1,b3,b4⟩:=box1 w (.int .u32 id) 32;have H1:=H.fr0 S b4;have hlt:=H.lt S;have hnF1:¬F w.heap.size:=λq=>by have:=hlt _ q;omega
 have KT1:Hid (Calls prog 48 #[p.ptr,.func (.func 67) #[] #[.pointer (some ⟨w.heap.size,0,none⟩)]] (w.alloc (.cells #[.int .u32 id] 32)) λe w'=>e=.returned (.tuple #[])/\Led (PI RR p {T with A:=P.miss T.A id} m) F (w.alloc (.cells #[.int .u32 id] 32)) w'):=
  H1.tell1 S own_p1 (λFR hr hF=>S.miss hr ho (by omega) h1 hu hno b1 (by omega) (λq=>hnF1 (hF _ q)))
 have KB:Hid (∀w3 F3 (A:τ),PI RR p {T with A:=A} m w3 F3->p.pb<w3.heap.size):=λw3 F3 A h3=>h3.me.hd.lt
 have KF:Hid (∀w3 F3,PI RR p {T with A:=P.miss T.A id} m w3 F3->Calls prog 68 #[.pointer (some ⟨p.pb,4,none⟩)] w3 λe w'=>e=.returned (.int .i64 (-1))/\w3=w'):=λw3 F3 h=>by
  refine(mp_firstE h.me).mono ?_;rintro e w'⟨rfl,⟨_,q,he⟩|⟨x,hx,hl,he⟩⟩
  .exact⟨he,rfl⟩
  .have q1:T.E x=true:=hl.1
   rw[hE x hx]at q1;cases q1
 have okM:=S.okMiss ho (by omega) h1 hno;have hgo:=vic_goer S (P:=P) (A:=P.miss T.A id) (id:=id) hg hx;have okV:=vic_ok S (by omega) h1 okM hno hg hx
 have KV:Hid (∀w3 F3,PI RR p {T with A:=P.miss T.A id} m w3 F3->Calls prog 69 #[p.ptr,.int .u32 id] w3 λe w'=>e=.returned (.int .i64 (vicX P p.n (P.miss T.A id) T.I id).1)/\Led (PI RR p {T with A:=(vicX P p.n (P.miss T.A id) T.I id).2.1,sc:=T.sc+(vicX P p.n (P.miss T.A id) T.I id).2.2} (m+2)) F3 w3 w'):=λw3 F3 h=>
  victim_calls S (h.more (Nat.le_succ m)) (by omega) h1 hu okM hno hg hx
 have hvn:=hgo.1;have hid0:¬(T.f (vicX P p.n (P.miss T.A id) T.I id).1).id=0:=by rw[<-hpg _ hvn];exact hgo.2.1
 have KC:Hid (∀w5 F5,PI RR p {T with A:=(vicX P p.n (P.miss T.A id) T.I id).2.1,sc:=T.sc+(vicX P p.n (P.miss T.A id) T.I id).2.2} (m+2) w5 F5->Calls prog 32 #[p.ptr,.int .i64 (vicX P p.n (P.miss T.A id) T.I id).1] w5 λe w'=>e=.returned (.int .i64 0)/\Led (PI RR p {T with A:=(vicX P p.n (P.miss T.A id) T.I id).2.1,sc:=T.sc+(vicX P p.n (P.miss T.A id) T.I id).2.2} (m+3)) F5 w5 w'):=λw5 F5 h=>(pi_clean_no S h hvn hd).mono (λe w1 ⟨he,hl⟩=>⟨he,hl.mono (λF1 h1=>h1.more (by omega))⟩)
 have KN:Hid (∀w5 w6 F5,PI RR p {T with A:=(vicX P p.n (P.miss T.A id) T.I id).2.1,sc:=T.sc+(vicX P p.n (P.miss T.A id) T.I id).2.2} (m+2) w5 F5->Fr NoF w5 w6->PI RR p {T with A:=(vicX P p.n (P.miss T.A id) T.I id).2.1,sc:=T.sc+(vicX P p.n (P.miss T.A id) T.I id).2.2} (m+2) w6 F5):=λw5 w6 F5 h g=>h.fr0 S g
 have KM:Hid (∀w6 F6,PI RR p {T with A:=(vicX P p.n (P.miss T.A id) T.I id).2.1,sc:=T.sc+(vicX P p.n (P.miss T.A id) T.I id).2.2} (m+3) w6 F6->p.pb<w6.heap.size/\p.fb<w6.heap.size/\w6.cell? ⟨p.pb,2,none⟩=some (.slice (some ⟨p.fb,0,none⟩) p.n p.n)/\w6.cell? ⟨p.fb,(vicX P p.n (P.miss T.A id) T.I id).1*4,none⟩=some (.int .u32 (T.f (vicX P p.n (P.miss T.A id) T.I id).1).id)):=λw6 F6 h=>⟨h.me.hd.lt,h.me.fr.lt,h.me.ce 2 (by omega),by
  have:=(h.me.cf hvn).1;exact this⟩
 have hn:=H.me.hn
 have KW:Hid (∀w6 F6,PI RR p {T with A:=(vicX P p.n (P.miss T.A id) T.I id).2.1,sc:=T.sc+(vicX P p.n (P.miss T.A id) T.I id).2.2} (m+3) w6 F6->Calls prog 72 #[p.ptr,.int .i64 (vicX P p.n (P.miss T.A id) T.I id).1] w6 λe w'=>e=.returned (.tuple #[])/\Led (PI RR p {T with f:=upd T.f (vicX P p.n (P.miss T.A id) T.I id).1 zF,pl:=updO T.pl (T.f (vicX P p.n (P.miss T.A id) T.I id).1).id (some (-1)),E:=updB T.E (vicX P p.n (P.miss T.A id) T.I id).1 true,I:=updB T.I (vicX P p.n (P.miss T.A id) T.I id).1 false,A:=(vicX P p.n (P.miss T.A id) T.I id).2.1,sc:=T.sc+(vicX P p.n (P.miss T.A id) T.I id).2.2} (m+6)) F6 w6 w'):=λw6 F6 h=>by
  have:=pi_vacate S h (by omega) hvn (hE _ hvn)
  dsimp only at this
  refine this.mono ?_;rintro e w'⟨he,hl⟩;exact⟨he,hl.mono (λF1 h1=>h1.more (by omega))⟩
 have KL4:Hid (∀w4 F4,PI RR p {T with A:=(vicX P p.n (P.miss T.A id) T.I id).2.1,sc:=T.sc+(vicX P p.n (P.miss T.A id) T.I id).2.2} (m+2) w4 F4->∀i,F4 i->i<w4.heap.size):=λw4 F4 h=>h.lt S
 have KO:Hid (∀w4 F4,PI RR p {T with A:=(vicX P p.n (P.miss T.A id) T.I id).2.1,sc:=T.sc+(vicX P p.n (P.miss T.A id) T.I id).2.2} (m+2) w4 F4->F4 p.pb):=λw4 F4 h=>h.own _ (.inl rfl)
 unfold PP.ptr at*;have B4:=Hd b4;generalize hw2:(w.alloc (.cells #[.int .u32 id] 32))=w2 at*;generalize hgv:(vicX P p.n (P.miss T.A id) T.I id)=V at*;obtain⟨v1,v2,v3⟩:=V
 dsimp only at*
 have HE0:=Hd hE;clear H H1 S ho hno hu b4 hlt hx hg hpg hgv okM okV hgo hE hid0 hd;go_enter func44,ntmps44
 go_wp2_with fail
 try rw[hw2]
 clear hw2;refine KT1.out.mono ?_;rintro e w3⟨rfl,F3,h3,g3,q3⟩;have lb:=KB.out w3 F3 _ h3;have HF:=Hd (KF.out w3 F3 h3);have y1:w3.cell? ⟨w.heap.size,0,none⟩=some (.int .u32 id):=by rw[g3.cell (p:=⟨w.heap.size,0,none⟩) (by show w.heap.size<_;omega) hnF1];exact b1
 have n3:¬F3 w.heap.size:=λq=>(q3 _ q).elim hnF1 (λq=>by omega)
 have HV:=Hd (KV.out w3 F3 h3);have y2:=g3.size;have G3:=Hd g3;have Q3:=Hd q3;clear h3 g3 q3 KT1 KB KF KV
 go_wp2_with fail
 refine HF.out.mono ?_;rintro e w4⟨rfl,rfl⟩
 go_wp2_with fail
 refine HV.out.mono ?_;rintro e w4⟨rfl,F4,h4,g4,q4⟩;obtain⟨a1,a2,a3⟩:=box1 w4 (.int .i64 v1) 3;have h5:=KN.out w4 _ F4 h4 a3;have n4:¬F4 w.heap.size:=λq=>(q4 _ q).elim n3 (λq=>by omega)
 have y3:=g4.size
 have n5:¬F4 w4.heap.size:=λq=>by
  have:=KL4.out w4 F4 h4 _ q;omega
 have HC:=Hd (KC.out _ F4 h5);have lb5:p.pb<(w4.alloc (.cells #[.int .i64 v1] 3)).heap.size:=by have:=KL4.out w4 F4 h4 _ (KO.out w4 F4 h4);omega
 have G4:=Hd g4;have Q4:=Hd q4;have A3:=Hd a3;clear h4 g4 q4 h5 HF HV y1 a3
 go_wp2_with fail
 refine HC.out.mono ?_;rintro e w6⟨rfl,F6,h6,g6,q6⟩;obtain⟨m1,m2,m3,m4⟩:=KM.out w6 F6 h6;have c1:w6.cell? ⟨w4.heap.size,0,none⟩=some (.int .i64 v1):=by rw[g6.cell (p:=⟨w4.heap.size,0,none⟩) (by show w4.heap.size<_;omega) n5];exact a1
 have n6:¬F6 w4.heap.size:=λq=>(q6 _ q).elim n5 (λq=>by omega)
 have y6:=g6.size;have H6:=Hd h6;have G6:=Hd g6;have Q6:=Hd q6;clear h6 g6 q6 HC KC KN KM
 go_wp2_with fail
 refine(KW.out w6 F6 H6.out).mono ?_;rintro e w7⟨rfl,F7,h7,g7,q7⟩;have c2:w7.cell? ⟨w4.heap.size,0,none⟩=some (.int .i64 v1):=by rw[g7.cell (p:=⟨w4.heap.size,0,none⟩) (by show w4.heap.size<_;omega) n6];exact c1
 have H7:=Hd h7;have G7:=Hd g7;have Q7:=Hd q7;clear h7 g7 q7 c1 m3 m4;go_wp2;go_returns;exact⟨rfl,Led.trans (R:=λ_ _=>True) (B4.out.mono (λ_ q=>q.elim)) (λi q=>.inl q) (Led.trans (R:=λ_ _=>True) G3.out Q3.out (Led.trans (R:=λ_ _=>True) G4.out Q4.out (Led.trans (R:=λ_ _=>True) (A3.out.mono (λ_ q=>q.elim)) (λi q=>.inl q) (Led.trans (R:=λ_ _=>True) G6.out Q6.out ⟨F7,H7.out,G7.out,Q7.out⟩))))⟩
theorem place_wrote(H:PI RR p T m w F)(hm:m<70000){id x0:Nat}(h1:1<=id)(hu:id<4294967296){pg:Nat->Nat}{ev:Nat->Bool}(ho:ok m T.A pg ev)(hno:∀i,i<p.n->¬pg i=id)(hE:∀x,x<p.n->T.E x=false)(hg:∀x,T.I x=true↔Goer p.n pg ev x)(hpg:∀x,x<p.n->pg x=(T.f x).id)(hx:fstB p.n T.I=some x0)(hd:(T.f (vicX P p.n (P.miss T.A id) T.I id).1).dirty=true)(he0:(T.D.write (T.f (vicX P p.n (P.miss T.A id) T.I id).1).id (T.f (vicX P p.n (P.miss T.A id) T.I id).1).val).1=0):Calls prog 44 #[p.ptr,.int .u32 id] w λe w'=>e=.returned (.tuple #[.int .i64 (vicX P p.n (P.miss T.A id) T.I id).1,.int .i64 0])/\
  Led (PI RR p {T with f:=upd T.f (vicX P p.n (P.miss T.A id) T.I id).1 zF,pl:=updO T.pl (T.f (vicX P p.n (P.miss T.A id) T.I id).1).id (some (-1)),E:=updB T.E (vicX P p.n (P.miss T.A id) T.I id).1 true,I:=updB T.I (vicX P p.n (P.miss T.A id) T.I id).1 false,A:=(vicX P p.n (P.miss T.A id) T.I id).2.1,sc:=T.sc+(vicX P p.n (P.miss T.A id) T.I id).2.2,D:=(T.D.write (T.f (vicX P p.n (P.miss T.A id) T.I id).1).id (T.f (vicX P p.n (P.miss T.A id) T.I id).1).val).2} (m+6)) F w w':=by
 obtain⟨b1,b3,b4⟩:=box1 w (.int .u32 id) 32;have H1:=H.fr0 S b4;have hlt:=H.lt S;have hnF1:¬F w.heap.size:=λq=>by have:=hlt _ q;omega
 have KT1:Hid (Calls prog 48 #[p.ptr,.func (.func 67) #[] #[.pointer (some ⟨w.heap.size,0,none⟩)]] (w.alloc (.cells #[.int .u32 id] 32)) λe w'=>e=.returned (.tuple #[])/\Led (PI RR p {T with A:=P.miss T.A id} m) F (w.alloc (.cells #[.int .u32 id] 32)) w'):=
  H1.tell1 S own_p1 (λFR hr hF=>S.miss hr ho (by omega) h1 hu hno b1 (by omega) (λq=>hnF1 (hF _ q)))
 have KB:Hid (∀w3 F3 (A:τ),PI RR p {T with A:=A} m w3 F3->p.pb<w3.heap.size):=λw3 F3 A h3=>h3.me.hd.lt
 have KF:Hid (∀w3 F3,PI RR p {T with A:=P.miss T.A id} m w3 F3->Calls prog 68 #[.pointer (some ⟨p.pb,4,none⟩)] w3 λe w'=>e=.returned (.int .i64 (-1))/\w3=w'):=λw3 F3 h=>by
  refine(mp_firstE h.me).mono ?_;rintro e w'⟨rfl,⟨_,q,he⟩|⟨x,hx,hl,he⟩⟩
  .exact⟨he,rfl⟩
  .have q1:T.E x=true:=hl.1
   rw[hE x hx]at q1;cases q1
 have okM:=S.okMiss ho (by omega) h1 hno;have hgo:=vic_goer S (P:=P) (A:=P.miss T.A id) (id:=id) hg hx;have okV:=vic_ok S (by omega) h1 okM hno hg hx
 have KV:Hid (∀w3 F3,PI RR p {T with A:=P.miss T.A id} m w3 F3->Calls prog 69 #[p.ptr,.int .u32 id] w3 λe w'=>e=.returned (.int .i64 (vicX P p.n (P.miss T.A id) T.I id).1)/\Led (PI RR p {T with A:=(vicX P p.n (P.miss T.A id) T.I id).2.1,sc:=T.sc+(vicX P p.n (P.miss T.A id) T.I id).2.2} (m+2)) F3 w3 w'):=λw3 F3 h=>
  victim_calls S (h.more (Nat.le_succ m)) (by omega) h1 hu okM hno hg hx
 have hvn:=hgo.1;have hid0:¬(T.f (vicX P p.n (P.miss T.A id) T.I id).1).id=0:=by rw[<-hpg _ hvn];exact hgo.2.1
 have KC:Hid (∀w5 F5,PI RR p {T with A:=(vicX P p.n (P.miss T.A id) T.I id).2.1,sc:=T.sc+(vicX P p.n (P.miss T.A id) T.I id).2.2} (m+2) w5 F5->Calls prog 32 #[p.ptr,.int .i64 (vicX P p.n (P.miss T.A id) T.I id).1] w5 λe w'=>e=.returned (.int .i64 0)/\Led (PI RR p {T with A:=(vicX P p.n (P.miss T.A id) T.I id).2.1,sc:=T.sc+(vicX P p.n (P.miss T.A id) T.I id).2.2,f:=upd T.f (vicX P p.n (P.miss T.A id) T.I id).1 {T.f (vicX P p.n (P.miss T.A id) T.I id).1 with dirty:=false},D:=(T.D.write (T.f (vicX P p.n (P.miss T.A id) T.I id).1).id (T.f (vicX P p.n (P.miss T.A id) T.I id).1).val).2} (m+3)) F5 w5 w'):=λw5 F5 h=>(pi_clean_ok S h (by omega) hvn hd he0).mono (λe w1 ⟨he,hl⟩=>⟨he,hl⟩)
 have KN:Hid (∀w5 w6 F5,PI RR p {T with A:=(vicX P p.n (P.miss T.A id) T.I id).2.1,sc:=T.sc+(vicX P p.n (P.miss T.A id) T.I id).2.2} (m+2) w5 F5->Fr NoF w5 w6->PI RR p {T with A:=(vicX P p.n (P.miss T.A id) T.I id).2.1,sc:=T.sc+(vicX P p.n (P.miss T.A id) T.I id).2.2} (m+2) w6 F5):=λw5 w6 F5 h g=>h.fr0 S g
 have KM:Hid (∀w6 F6,PI RR p {T with A:=(vicX P p.n (P.miss T.A id) T.I id).2.1,sc:=T.sc+(vicX P p.n (P.miss T.A id) T.I id).2.2,f:=upd T.f (vicX P p.n (P.miss T.A id) T.I id).1 {T.f (vicX P p.n (P.miss T.A id) T.I id).1 with dirty:=false},D:=(T.D.write (T.f (vicX P p.n (P.miss T.A id) T.I id).1).id (T.f (vicX P p.n (P.miss T.A id) T.I id).1).val).2} (m+3) w6 F6->p.pb<w6.heap.size/\p.fb<w6.heap.size/\w6.cell? ⟨p.pb,2,none⟩=some (.slice (some ⟨p.fb,0,none⟩) p.n p.n)/\w6.cell? ⟨p.fb,(vicX P p.n (P.miss T.A id) T.I id).1*4,none⟩=some (.int .u32 (T.f (vicX P p.n (P.miss T.A id) T.I id).1).id)):=λw6 F6 h=>⟨h.me.hd.lt,h.me.fr.lt,h.me.ce 2 (by omega),by
  have:=(h.me.cf hvn).1;simpa[upd_same]using this⟩
 have hn:=H.me.hn
 have KW:Hid (∀w6 F6,PI RR p {T with A:=(vicX P p.n (P.miss T.A id) T.I id).2.1,sc:=T.sc+(vicX P p.n (P.miss T.A id) T.I id).2.2,f:=upd T.f (vicX P p.n (P.miss T.A id) T.I id).1 {T.f (vicX P p.n (P.miss T.A id) T.I id).1 with dirty:=false},D:=(T.D.write (T.f (vicX P p.n (P.miss T.A id) T.I id).1).id (T.f (vicX P p.n (P.miss T.A id) T.I id).1).val).2} (m+3) w6 F6->Calls prog 72 #[p.ptr,.int .i64 (vicX P p.n (P.miss T.A id) T.I id).1] w6 λe w'=>e=.returned (.tuple #[])/\Led (PI RR p {T with f:=upd T.f (vicX P p.n (P.miss T.A id) T.I id).1 zF,pl:=updO T.pl (T.f (vicX P p.n (P.miss T.A id) T.I id).1).id (some (-1)),E:=updB T.E (vicX P p.n (P.miss T.A id) T.I id).1 true,I:=updB T.I (vicX P p.n (P.miss T.A id) T.I id).1 false,A:=(vicX P p.n (P.miss T.A id) T.I id).2.1,sc:=T.sc+(vicX P p.n (P.miss T.A id) T.I id).2.2,D:=(T.D.write (T.f (vicX P p.n (P.miss T.A id) T.I id).1).id (T.f (vicX P p.n (P.miss T.A id) T.I id).1).val).2} (m+6)) F6 w6 w'):=λw6 F6 h=>by
  have:=pi_vacate S h (by omega) hvn (hE _ hvn)
  dsimp only at this
  have e1:upd (upd T.f (vicX P p.n (P.miss T.A id) T.I id).1 {T.f (vicX P p.n (P.miss T.A id) T.I id).1 with dirty:=false}) (vicX P p.n (P.miss T.A id) T.I id).1 zF=upd T.f (vicX P p.n (P.miss T.A id) T.I id).1 zF:=by
   funext i
   by_cases e:i=(vicX P p.n (P.miss T.A id) T.I id).1
   .rw[e,upd_same,upd_same]
   .rw[upd_other _ _ e,upd_other _ _ e,upd_other _ _ e]
  have e2:(upd T.f (vicX P p.n (P.miss T.A id) T.I id).1 {T.f (vicX P p.n (P.miss T.A id) T.I id).1 with dirty:=false} (vicX P p.n (P.miss T.A id) T.I id).1).id=(T.f (vicX P p.n (P.miss T.A id) T.I id).1).id:=by rw[upd_same]
  rw[e1,e2]at this;refine this.mono ?_;rintro e w'⟨he,hl⟩;exact⟨he,hl.mono (λF1 h1=>h1.more (by omega))⟩
 have KL4:Hid (∀w4 F4,PI RR p {T with A:=(vicX P p.n (P.miss T.A id) T.I id).2.1,sc:=T.sc+(vicX P p.n (P.miss T.A id) T.I id).2.2} (m+2) w4 F4->∀i,F4 i->i<w4.heap.size):=λw4 F4 h=>h.lt S
 have KO:Hid (∀w4 F4,PI RR p {T with A:=(vicX P p.n (P.miss T.A id) T.I id).2.1,sc:=T.sc+(vicX P p.n (P.miss T.A id) T.I id).2.2} (m+2) w4 F4->F4 p.pb):=λw4 F4 h=>h.own _ (.inl rfl)
 unfold PP.ptr at*;have B4:=Hd b4;generalize hw2:(w.alloc (.cells #[.int .u32 id] 32))=w2 at*;generalize hgv:(vicX P p.n (P.miss T.A id) T.I id)=V at*;obtain⟨v1,v2,v3⟩:=V
 dsimp only at*
 have HE0:=Hd hE;clear H H1 S ho hno hu b4 hlt hx hg hpg hgv okM okV hgo hE hid0 hd;go_enter func44,ntmps44
 go_wp2_with fail
 try rw[hw2]
 clear hw2;refine KT1.out.mono ?_;rintro e w3⟨rfl,F3,h3,g3,q3⟩;have lb:=KB.out w3 F3 _ h3;have HF:=Hd (KF.out w3 F3 h3);have y1:w3.cell? ⟨w.heap.size,0,none⟩=some (.int .u32 id):=by rw[g3.cell (p:=⟨w.heap.size,0,none⟩) (by show w.heap.size<_;omega) hnF1];exact b1
 have n3:¬F3 w.heap.size:=λq=>(q3 _ q).elim hnF1 (λq=>by omega)
 have HV:=Hd (KV.out w3 F3 h3);have y2:=g3.size;have G3:=Hd g3;have Q3:=Hd q3;clear h3 g3 q3 KT1 KB KF KV
 go_wp2_with fail
 refine HF.out.mono ?_;rintro e w4⟨rfl,rfl⟩
 go_wp2_with fail
 refine HV.out.mono ?_;rintro e w4⟨rfl,F4,h4,g4,q4⟩;obtain⟨a1,a2,a3⟩:=box1 w4 (.int .i64 v1) 3;have h5:=KN.out w4 _ F4 h4 a3;have n4:¬F4 w.heap.size:=λq=>(q4 _ q).elim n3 (λq=>by omega)
 have y3:=g4.size
 have n5:¬F4 w4.heap.size:=λq=>by
  have:=KL4.out w4 F4 h4 _ q;omega
 have HC:=Hd (KC.out _ F4 h5);have lb5:p.pb<(w4.alloc (.cells #[.int .i64 v1] 3)).heap.size:=by have:=KL4.out w4 F4 h4 _ (KO.out w4 F4 h4);omega
 have G4:=Hd g4;have Q4:=Hd q4;have A3:=Hd a3;clear h4 g4 q4 h5 HF HV y1 a3
 go_wp2_with fail
 refine HC.out.mono ?_;rintro e w6⟨rfl,F6,h6,g6,q6⟩;obtain⟨m1,m2,m3,m4⟩:=KM.out w6 F6 h6;have c1:w6.cell? ⟨w4.heap.size,0,none⟩=some (.int .i64 v1):=by rw[g6.cell (p:=⟨w4.heap.size,0,none⟩) (by show w4.heap.size<_;omega) n5];exact a1
 have n6:¬F6 w4.heap.size:=λq=>(q6 _ q).elim n5 (λq=>by omega)
 have y6:=g6.size;have H6:=Hd h6;have G6:=Hd g6;have Q6:=Hd q6;clear h6 g6 q6 HC KC KN KM
 go_wp2_with fail
 refine(KW.out w6 F6 H6.out).mono ?_;rintro e w7⟨rfl,F7,h7,g7,q7⟩;have c2:w7.cell? ⟨w4.heap.size,0,none⟩=some (.int .i64 v1):=by rw[g7.cell (p:=⟨w4.heap.size,0,none⟩) (by show w4.heap.size<_;omega) n6];exact c1
 have H7:=Hd h7;have G7:=Hd g7;have Q7:=Hd q7;clear h7 g7 q7 c1 m3 m4;go_wp2;go_returns;exact⟨rfl,Led.trans (R:=λ_ _=>True) (B4.out.mono (λ_ q=>q.elim)) (λi q=>.inl q) (Led.trans (R:=λ_ _=>True) G3.out Q3.out (Led.trans (R:=λ_ _=>True) G4.out Q4.out (Led.trans (R:=λ_ _=>True) (A3.out.mono (λ_ q=>q.elim)) (λi q=>.inl q) (Led.trans (R:=λ_ _=>True) G6.out Q6.out ⟨F7,H7.out,G7.out,Q7.out⟩))))⟩
theorem place_fail(H:PI RR p T m w F)(hm:m<70000){id x0:Nat}(h1:1<=id)(hu:id<4294967296){pg:Nat->Nat}{ev:Nat->Bool}(ho:ok m T.A pg ev)(hno:∀i,i<p.n->¬pg i=id)(hE:∀x,x<p.n->T.E x=false)(hg:∀x,T.I x=true↔Goer p.n pg ev x)(hpg:∀x,x<p.n->pg x=(T.f x).id)(hinj:∀i j,i<p.n->j<p.n->¬pg i=0->pg i=pg j->i=j)(hx:fstB p.n T.I=some x0)(hd:(T.f (vicX P p.n (P.miss T.A id) T.I id).1).dirty=true)(he0:¬(T.D.write (T.f (vicX P p.n (P.miss T.A id) T.I id).1).id (T.f (vicX P p.n (P.miss T.A id) T.I id).1).val).1=0):Calls prog 44 #[p.ptr,.int .u32 id] w λe w'=>e=.returned (.tuple #[.int .i64 (-1),.int .i64 (T.D.write (T.f (vicX P p.n (P.miss T.A id) T.I id).1).id (T.f (vicX P p.n (P.miss T.A id) T.I id).1).val).1])/\
  Led (PI RR p {T with A:=P.set (P.access (vicX P p.n (P.miss T.A id) T.I id).2.1 (vicX P p.n (P.miss T.A id) T.I id).1 (T.f (vicX P p.n (P.miss T.A id) T.I id).1).id) (vicX P p.n (P.miss T.A id) T.I id).1 true,sc:=T.sc+(vicX P p.n (P.miss T.A id) T.I id).2.2,D:=(T.D.write (T.f (vicX P p.n (P.miss T.A id) T.I id).1).id (T.f (vicX P p.n (P.miss T.A id) T.I id).1).val).2} (m+6)) F w w':=by
 obtain⟨b1,b3,b4⟩:=box1 w (.int .u32 id) 32;have H1:=H.fr0 S b4;have hlt:=H.lt S;have hnF1:¬F w.heap.size:=λq=>by have:=hlt _ q;omega
 have KT1:Hid (Calls prog 48 #[p.ptr,.func (.func 67) #[] #[.pointer (some ⟨w.heap.size,0,none⟩)]] (w.alloc (.cells #[.int .u32 id] 32)) λe w'=>e=.returned (.tuple #[])/\Led (PI RR p {T with A:=P.miss T.A id} m) F (w.alloc (.cells #[.int .u32 id] 32)) w'):=
  H1.tell1 S own_p1 (λFR hr hF=>S.miss hr ho (by omega) h1 hu hno b1 (by omega) (λq=>hnF1 (hF _ q)))
 have KB:Hid (∀w3 F3 (A:τ),PI RR p {T with A:=A} m w3 F3->p.pb<w3.heap.size):=λw3 F3 A h3=>h3.me.hd.lt
 have KF:Hid (∀w3 F3,PI RR p {T with A:=P.miss T.A id} m w3 F3->Calls prog 68 #[.pointer (some ⟨p.pb,4,none⟩)] w3 λe w'=>e=.returned (.int .i64 (-1))/\w3=w'):=λw3 F3 h=>by
  refine(mp_firstE h.me).mono ?_;rintro e w'⟨rfl,⟨_,q,he⟩|⟨x,hx,hl,he⟩⟩
  .exact⟨he,rfl⟩
  .have q1:T.E x=true:=hl.1
   rw[hE x hx]at q1;cases q1
 have okM:=S.okMiss ho (by omega) h1 hno;have hgo:=vic_goer S (P:=P) (A:=P.miss T.A id) (id:=id) hg hx;have okV:=vic_ok S (by omega) h1 okM hno hg hx
 have KV:Hid (∀w3 F3,PI RR p {T with A:=P.miss T.A id} m w3 F3->Calls prog 69 #[p.ptr,.int .u32 id] w3 λe w'=>e=.returned (.int .i64 (vicX P p.n (P.miss T.A id) T.I id).1)/\Led (PI RR p {T with A:=(vicX P p.n (P.miss T.A id) T.I id).2.1,sc:=T.sc+(vicX P p.n (P.miss T.A id) T.I id).2.2} (m+2)) F3 w3 w'):=λw3 F3 h=>
  victim_calls S (h.more (Nat.le_succ m)) (by omega) h1 hu okM hno hg hx
 have hvn:=hgo.1;have hid0:¬(T.f (vicX P p.n (P.miss T.A id) T.I id).1).id=0:=by rw[<-hpg _ hvn];exact hgo.2.1
 have KC:Hid (∀w5 F5,PI RR p {T with A:=(vicX P p.n (P.miss T.A id) T.I id).2.1,sc:=T.sc+(vicX P p.n (P.miss T.A id) T.I id).2.2} (m+2) w5 F5->Calls prog 32 #[p.ptr,.int .i64 (vicX P p.n (P.miss T.A id) T.I id).1] w5 λe w'=>e=.returned (.int .i64 (T.D.write (T.f (vicX P p.n (P.miss T.A id) T.I id).1).id (T.f (vicX P p.n (P.miss T.A id) T.I id).1).val).1)/\Led (PI RR p {T with A:=(vicX P p.n (P.miss T.A id) T.I id).2.1,sc:=T.sc+(vicX P p.n (P.miss T.A id) T.I id).2.2,D:=(T.D.write (T.f (vicX P p.n (P.miss T.A id) T.I id).1).id (T.f (vicX P p.n (P.miss T.A id) T.I id).1).val).2} (m+3)) F5 w5 w'):=λw5 F5 h=>(pi_clean_err S h (by omega) hvn hd he0).mono (λe w1 ⟨he,hl⟩=>⟨he,hl⟩)
 have KN:Hid (∀w5 w6 F5,PI RR p {T with A:=(vicX P p.n (P.miss T.A id) T.I id).2.1,sc:=T.sc+(vicX P p.n (P.miss T.A id) T.I id).2.2} (m+2) w5 F5->Fr NoF w5 w6->PI RR p {T with A:=(vicX P p.n (P.miss T.A id) T.I id).2.1,sc:=T.sc+(vicX P p.n (P.miss T.A id) T.I id).2.2} (m+2) w6 F5):=λw5 w6 F5 h g=>h.fr0 S g
 have KM:Hid (∀w6 F6,PI RR p {T with A:=(vicX P p.n (P.miss T.A id) T.I id).2.1,sc:=T.sc+(vicX P p.n (P.miss T.A id) T.I id).2.2,D:=(T.D.write (T.f (vicX P p.n (P.miss T.A id) T.I id).1).id (T.f (vicX P p.n (P.miss T.A id) T.I id).1).val).2} (m+3) w6 F6->p.pb<w6.heap.size/\p.fb<w6.heap.size/\w6.cell? ⟨p.pb,2,none⟩=some (.slice (some ⟨p.fb,0,none⟩) p.n p.n)/\w6.cell? ⟨p.fb,(vicX P p.n (P.miss T.A id) T.I id).1*4,none⟩=some (.int .u32 (T.f (vicX P p.n (P.miss T.A id) T.I id).1).id)):=λw6 F6 h=>⟨h.me.hd.lt,h.me.fr.lt,h.me.ce 2 (by omega),by
  have:=(h.me.cf hvn).1;exact this⟩
 have hn:=H.me.hn
 have hvid:∀i,i<p.n->¬upd pg (vicX P p.n (P.miss T.A id) T.I id).1 0 i=(T.f (vicX P p.n (P.miss T.A id) T.I id).1).id:=λi hi e=>by
  by_cases q:i=(vicX P p.n (P.miss T.A id) T.I id).1
  .rw[q,upd_same]at e;exact hid0 e.symm
  .rw[upd_other _ _ q]at e
   exact q (hinj i _ hi hvn (λz=>hid0 (by rw[<-e];exact z)) (by rw[hpg _ hvn];exact e))
 have hvu:=(H.me.bd.2 (vicX P p.n (P.miss T.A id) T.I id).1).1;have okA:=S.okNew okV (by omega) (by omega) hvu hvn (upd_same _ _ _) hvid
 have KA:Hid (∀w6 F6 b1 b2,PI RR p {T with A:=(vicX P p.n (P.miss T.A id) T.I id).2.1,sc:=T.sc+(vicX P p.n (P.miss T.A id) T.I id).2.2,D:=(T.D.write (T.f (vicX P p.n (P.miss T.A id) T.I id).1).id (T.f (vicX P p.n (P.miss T.A id) T.I id).1).val).2} (m+3) w6 F6->w6.cell? ⟨b1,0,none⟩=some (.int .i64 (vicX P p.n (P.miss T.A id) T.I id).1)->w6.cell? ⟨b2,0,none⟩=some (.int .u32 (T.f (vicX P p.n (P.miss T.A id) T.I id).1).id)->b1<w6.heap.size->b2<w6.heap.size->¬F6 b1->¬F6 b2->Calls prog 48 #[p.ptr,.func (.func 70) #[] #[.pointer (some ⟨b1,0,none⟩),.pointer (some ⟨b2,0,none⟩)]] w6 λe w'=>e=.returned (.tuple #[])/\Led (PI RR p {T with A:=P.access (vicX P p.n (P.miss T.A id) T.I id).2.1 (vicX P p.n (P.miss T.A id) T.I id).1 (T.f (vicX P p.n (P.miss T.A id) T.I id).1).id,sc:=T.sc+(vicX P p.n (P.miss T.A id) T.I id).2.2,D:=(T.D.write (T.f (vicX P p.n (P.miss T.A id) T.I id).1).id (T.f (vicX P p.n (P.miss T.A id) T.I id).1).val).2} (m+3)) F6 w6 w'):=
  λw6 F6 b1 b2 h q1 q2 q3 q4 q5 q6=>h.tell2 S own_p2 (λFR hr hF=>S.acc hr okV (by omega) (by omega) hvu hvn (.inr ⟨upd_same _ _ _,hvid⟩) q1 q2 q3 q4 (λq=>q5 (hF _ q)) (λq=>q6 (hF _ q)) (.inl rfl))
 have KS:Hid (∀w6 F6 b1,PI RR p {T with A:=P.access (vicX P p.n (P.miss T.A id) T.I id).2.1 (vicX P p.n (P.miss T.A id) T.I id).1 (T.f (vicX P p.n (P.miss T.A id) T.I id).1).id,sc:=T.sc+(vicX P p.n (P.miss T.A id) T.I id).2.2,D:=(T.D.write (T.f (vicX P p.n (P.miss T.A id) T.I id).1).id (T.f (vicX P p.n (P.miss T.A id) T.I id).1).val).2} (m+3) w6 F6->w6.cell? ⟨b1,0,none⟩=some (.int .i64 (vicX P p.n (P.miss T.A id) T.I id).1)->b1<w6.heap.size->¬F6 b1->Calls prog 48 #[p.ptr,.func (.func 71) #[] #[.pointer (some ⟨b1,0,none⟩)]] w6 λe w'=>e=.returned (.tuple #[])/\Led (PI RR p {T with A:=P.set (P.access (vicX P p.n (P.miss T.A id) T.I id).2.1 (vicX P p.n (P.miss T.A id) T.I id).1 (T.f (vicX P p.n (P.miss T.A id) T.I id).1).id) (vicX P p.n (P.miss T.A id) T.I id).1 true,sc:=T.sc+(vicX P p.n (P.miss T.A id) T.I id).2.2,D:=(T.D.write (T.f (vicX P p.n (P.miss T.A id) T.I id).1).id (T.f (vicX P p.n (P.miss T.A id) T.I id).1).val).2} (m+3)) F6 w6 w'):=
  λw6 F6 b1 h q1 q3 q5=>h.tell1 S own_p3 (λFR hr hF=>S.setT hr okA (by omega) hvn (by rw[upd_same];exact hid0) q1 q3 (λq=>q5 (hF _ q)) (.inl rfl))
 have KMM:Hid (∀w6 F6,PI RR p {T with A:=P.set (P.access (vicX P p.n (P.miss T.A id) T.I id).2.1 (vicX P p.n (P.miss T.A id) T.I id).1 (T.f (vicX P p.n (P.miss T.A id) T.I id).1).id) (vicX P p.n (P.miss T.A id) T.I id).1 true,sc:=T.sc+(vicX P p.n (P.miss T.A id) T.I id).2.2,D:=(T.D.write (T.f (vicX P p.n (P.miss T.A id) T.I id).1).id (T.f (vicX P p.n (P.miss T.A id) T.I id).1).val).2} (m+3) w6 F6->PI RR p {T with A:=P.set (P.access (vicX P p.n (P.miss T.A id) T.I id).2.1 (vicX P p.n (P.miss T.A id) T.I id).1 (T.f (vicX P p.n (P.miss T.A id) T.I id).1).id) (vicX P p.n (P.miss T.A id) T.I id).1 true,sc:=T.sc+(vicX P p.n (P.miss T.A id) T.I id).2.2,D:=(T.D.write (T.f (vicX P p.n (P.miss T.A id) T.I id).1).id (T.f (vicX P p.n (P.miss T.A id) T.I id).1).val).2} (m+6) w6 F6):=λw6 F6 h=>h.more (by omega)
 have KN3:Hid (∀w5 w6 F5,PI RR p {T with A:=(vicX P p.n (P.miss T.A id) T.I id).2.1,sc:=T.sc+(vicX P p.n (P.miss T.A id) T.I id).2.2,D:=(T.D.write (T.f (vicX P p.n (P.miss T.A id) T.I id).1).id (T.f (vicX P p.n (P.miss T.A id) T.I id).1).val).2} (m+3) w5 F5->Fr NoF w5 w6->PI RR p {T with A:=(vicX P p.n (P.miss T.A id) T.I id).2.1,sc:=T.sc+(vicX P p.n (P.miss T.A id) T.I id).2.2,D:=(T.D.write (T.f (vicX P p.n (P.miss T.A id) T.I id).1).id (T.f (vicX P p.n (P.miss T.A id) T.I id).1).val).2} (m+3) w6 F5):=λw5 w6 F5 h g=>h.fr0 S g
 have KL4:Hid (∀w4 F4,PI RR p {T with A:=(vicX P p.n (P.miss T.A id) T.I id).2.1,sc:=T.sc+(vicX P p.n (P.miss T.A id) T.I id).2.2} (m+2) w4 F4->∀i,F4 i->i<w4.heap.size):=λw4 F4 h=>h.lt S
 have KO:Hid (∀w4 F4,PI RR p {T with A:=(vicX P p.n (P.miss T.A id) T.I id).2.1,sc:=T.sc+(vicX P p.n (P.miss T.A id) T.I id).2.2} (m+2) w4 F4->F4 p.pb):=λw4 F4 h=>h.own _ (.inl rfl)
 have KL6:Hid (∀w4 F4,PI RR p {T with A:=(vicX P p.n (P.miss T.A id) T.I id).2.1,sc:=T.sc+(vicX P p.n (P.miss T.A id) T.I id).2.2,D:=(T.D.write (T.f (vicX P p.n (P.miss T.A id) T.I id).1).id (T.f (vicX P p.n (P.miss T.A id) T.I id).1).val).2} (m+3) w4 F4->∀i,F4 i->i<w4.heap.size):=λw4 F4 h=>h.lt S
 unfold PP.ptr at*;have B4:=Hd b4;generalize hw2:(w.alloc (.cells #[.int .u32 id] 32))=w2 at*;generalize hgv:(vicX P p.n (P.miss T.A id) T.I id)=V at*;obtain⟨v1,v2,v3⟩:=V
 dsimp only at*
 have HE0:=Hd hE;clear H H1 S ho hno hu b4 hlt hx hg hpg hgv okM okV hgo hE hid0 hd;have hne:(((T.D.write (T.f v1).id (T.f v1).val).1:Int)==0)=false:=by simp<;>exact he0
 generalize hww:(T.D.write (T.f v1).id (T.f v1).val).1=er at*;generalize(T.D.write (T.f v1).id (T.f v1).val).2=D2 at*;generalize hxi:(T.f v1).id=xi at*;clear hww hxi;go_enter func44,ntmps44
 go_wp2_with fail
 try rw[hw2]
 clear hw2;refine KT1.out.mono ?_;rintro e w3⟨rfl,F3,h3,g3,q3⟩;have lb:=KB.out w3 F3 _ h3;have HF:=Hd (KF.out w3 F3 h3);have y1:w3.cell? ⟨w.heap.size,0,none⟩=some (.int .u32 id):=by rw[g3.cell (p:=⟨w.heap.size,0,none⟩) (by show w.heap.size<_;omega) hnF1];exact b1
 have n3:¬F3 w.heap.size:=λq=>(q3 _ q).elim hnF1 (λq=>by omega)
 have HV:=Hd (KV.out w3 F3 h3);have y2:=g3.size;have G3:=Hd g3;have Q3:=Hd q3;clear h3 g3 q3 KT1 KB KF KV
 go_wp2_with fail
 refine HF.out.mono ?_;rintro e w4⟨rfl,rfl⟩
 go_wp2_with fail
 refine HV.out.mono ?_;rintro e w4⟨rfl,F4,h4,g4,q4⟩;obtain⟨a1,a2,a3⟩:=box1 w4 (.int .i64 v1) 3;have h5:=KN.out w4 _ F4 h4 a3;have n4:¬F4 w.heap.size:=λq=>(q4 _ q).elim n3 (λq=>by omega)
 have y3:=g4.size
 have n5:¬F4 w4.heap.size:=λq=>by
  have:=KL4.out w4 F4 h4 _ q;omega
 have HC:=Hd (KC.out _ F4 h5);have lb5:p.pb<(w4.alloc (.cells #[.int .i64 v1] 3)).heap.size:=by have:=KL4.out w4 F4 h4 _ (KO.out w4 F4 h4);omega
 have G4:=Hd g4;have Q4:=Hd q4;have A3:=Hd a3;clear h4 g4 q4 h5 HF HV y1 a3
 go_wp2_with fail
 refine HC.out.mono ?_;rintro e w6⟨rfl,F6,h6,g6,q6⟩;obtain⟨m1,m2,m3,m4⟩:=KM.out w6 F6 h6;have c1:w6.cell? ⟨w4.heap.size,0,none⟩=some (.int .i64 v1):=by rw[g6.cell (p:=⟨w4.heap.size,0,none⟩) (by show w4.heap.size<_;omega) n5];exact a1
 have n6:¬F6 w4.heap.size:=λq=>(q6 _ q).elim n5 (λq=>by omega)
 have y6:=g6.size;have H6:=Hd h6;have G6:=Hd g6;have Q6:=Hd q6;clear h6 g6 q6 HC KC KN KM
 go_wp2_with fail
 have fN:Fr NoF w6 (w6.alloc (.cells #[.int .u32 0] 32)):=(Fr.refl NoF w6).alloc _;have d2:(w6.alloc (.cells #[.int .u32 0] 32)).cell? ⟨p.pb,2,none⟩=some (.slice (some ⟨p.fb,0,none⟩) p.n p.n):=by rw[fN.cell (p:=⟨p.pb,2,none⟩) m1 (λq=>q)];exact m3
 have d0:(w6.alloc (.cells #[.int .u32 0] 32)).cell? ⟨p.fb,v1*4,none⟩=some (.int .u32 xi):=by rw[fN.cell (p:=⟨p.fb,v1*4,none⟩) m2 (λq=>q)];exact m4
 have d1:(w6.alloc (.cells #[.int .u32 0] 32)).cell? ⟨w4.heap.size,0,none⟩=some (.int .i64 v1):=by rw[fN.cell (p:=⟨w4.heap.size,0,none⟩) (by show w4.heap.size<_;omega) (λq=>q)];exact c1
 have dl:=alloc_size w6 (.cells #[.int .u32 0] 32);clear fN
 go_region
 all_goals
  go_wp2_with fail
  clear d0 d1 d2 dl;have fA:Fr NoF w6 (w6.alloc (.cells #[.int .u32 xi] 32)).drew:=((Fr.refl NoF w6).alloc _).drew;have x1:(w6.alloc (.cells #[.int .u32 xi] 32)).drew.cell? ⟨w4.heap.size,0,none⟩=some (.int .i64 v1):=by rw[fA.cell (p:=⟨w4.heap.size,0,none⟩) (by show w4.heap.size<_;omega) (λq=>q)];exact c1
  have x2:(w6.alloc (.cells #[.int .u32 xi] 32)).drew.cell? ⟨w6.heap.size,0,none⟩=some (.int .u32 xi):=((blk1 w6 (.int .u32 xi) 32).drew).cell (i:=0) (by omega);have x3:(w6.alloc (.cells #[.int .u32 xi] 32)).drew.heap.size=w6.heap.size+1:=alloc_size w6 _;have H7:=KN3.out w6 _ F6 H6.out fA;have n7:¬F6 w6.heap.size:=λq=>by have:=KL6.out w6 F6 H6.out _ q;omega
  generalize(w6.alloc (.cells #[.int .u32 xi] 32)).drew=wA at fA x1 x2 x3 H7⊢;have HT:=Hd (KA.out wA F6 _ _ H7 x1 x2 (by omega) (by omega) n6 n7);have FA:=Hd fA;clear H7 fA x2 KA;refine HT.out.mono ?_;rintro e w8⟨rfl,F8,h8,g8,q8⟩;have z1:w8.cell? ⟨w4.heap.size,0,none⟩=some (.int .i64 v1):=by rw[g8.cell (p:=⟨w4.heap.size,0,none⟩) (by show w4.heap.size<_;omega) n6];exact x1
  have z2:=g8.size;have HT2:=Hd (KS.out w8 F8 w4.heap.size h8 z1 (by omega) (λq=>(q8 _ q).elim n6 (λq=>by omega)));have G8:=Hd g8;have Q8:=Hd q8;clear h8 g8 q8 KS HT z1 x1 c1 m3 m4
  go_wp2_with fail
  refine HT2.out.mono ?_;rintro e w9⟨rfl,h9⟩;have H9:=Hd (h9.mono (λF h=>KMM.out _ F h));clear h9;go_wp2;go_returns;exact⟨rfl,Led.trans (R:=λ_ _=>True) (B4.out.mono (λ_ q=>q.elim)) (λi q=>.inl q) (Led.trans (R:=λ_ _=>True) G3.out Q3.out (Led.trans (R:=λ_ _=>True) G4.out Q4.out (Led.trans (R:=λ_ _=>True) (A3.out.mono (λ_ q=>q.elim)) (λi q=>.inl q) (Led.trans (R:=λ_ _=>True) G6.out Q6.out (Led.trans (R:=λ_ _=>True) (FA.out.mono (λ_ q=>q.elim)) (λi q=>.inl q) (Led.trans (R:=λ_ _=>True) G8.out Q8.out H9.out))))))⟩
end
end
end Go.Proofs.YtpkbkhffglikhaaGreatDoor
