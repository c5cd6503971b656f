/- Part 38. -/
import Derived.Test.YtkjhnllcphidpaaGreatDoorM37
namespace Go.Proofs.YtkjhnllcphidpaaGreatDoor
set_option linter.all false
set_option maxHeartbeats 16000000
set_option maxRecDepth 100000
section
open Go.Maps Go.Proofs.Tryz Go.RowKit
def fstB(n:Nat)(I:Nat->Bool):Option Nat:=(List.range n).find? I
theorem aP{n x:Nat}{I:Nat->Bool}(h:fstB n I=some x):x<n/\aJ I x:=by
 unfold fstB at h;obtain⟨h1,l1,l2,h2,h3⟩:=List.find?_eq_some_iff_append.1 h;have hl:(List.range n).length=n:=List.length_range;have hx:(List.range n)[l1.length]?=some x:=by rw[h2];simp
 have hlt:l1.length<n:=by
  rw[<-hl,h2];simp
 rw[List.getElem?_range hlt]at hx;obtain rfl:l1.length=x:=by simpa using hx
 refine⟨hlt,h1,λy hy=>?_⟩;have hy2:(List.range n)[y]?=some y:=List.getElem?_range (by omega);rw[h2,List.getElem?_append_left hy]at hy2;have:=h3 y (List.mem_of_getElem? hy2);simpa using this
theorem bP{n:Nat}{I:Nat->Bool}(h:fstB n I=none):∀x,x<n->I x=false:=by
 unfold fstB at h;intro x hx;have:=List.find?_eq_none.1 h x (List.mem_range.2 hx);simpa using this
theorem pu{n x:Nat}{I:Nat->Bool}(hx:x<n)(h:aJ I x):fstB n I=some x:=by
 cases e:fstB n I with
 |none=>have:=bP e x hx;rw[h.1]at this;cases this
 |some y=>
  obtain⟨h1,h2⟩:=aP e;rcases Nat.lt_trichotomy x y with q|q|q
  .have:=h2.2 x q;rw[h.1]at this;cases this
  .rw[q]
  .have:=h.2 y q;rw[h2.1]at this;cases this
def gS{τ:Type}(P:Adv τ)(n:Nat)(A:τ)(I:Nat->Bool)(id:Nat):Nat×τ×Nat:=
 match P.victim A id with
 |none=>((fstB n I).getD 0,P.remove (P.aft A id) ((fstB n I).getD 0),1)
 |some a=>if I a=true then(a,P.aft A id,0)else((fstB n I).getD 0,P.remove (P.aft A id) ((fstB n I).getD 0),1)
section
variable{τ:Type}{P:Adv τ}{RR:World->τ->(Nat->Prop)->Prop}{ok:Nat->τ->(Nat->Nat)->(Nat->Bool)->Prop}{p:PP}(S:aG P RR p.pb p.rv p.n ok){w w':World}{T:PT τ}{m:Nat}{F:Nat->Prop}
theorem ig{n:Nat}{A:τ}{I:Nat->Bool}{id a:Nat}(h:P.victim A id=some a)(hI:I a=true):gS P n A I id=(a,P.aft A id,0):=by unfold gS;rw[h];simp[hI]
theorem oN{n:Nat}{A:τ}{I:Nat->Bool}{id x:Nat}(h:∀a,P.victim A id=some a->I a=false)(hx:fstB n I=some x):gS P n A I id=(x,P.remove (P.aft A id) x,1):=by
 unfold gS;rw[hx]
 cases e:P.victim A id with
 |none=>rfl
 |some a=>simp[h a e]
theorem vic_case(A:τ)(I:Nat->Bool)(id:Nat):(∃a,P.victim A id=some a/\I a=true)\/∀a,P.victim A id=some a->I a=false:=by
 cases e:P.victim A id with
 |none=>exact .inr (λa h=>by cases h)
 |some a=>
  cases h:I a with
  |true=>exact .inl ⟨a,rfl,h⟩
  |false=>exact .inr (λb hb=>by cases hb;exact h)
include S
theorem te(H:PI RR p T m w F)(hm:m<80000){id v:Nat}(hu:id<4294967296):Calls prog 111 #[.pointer (some ⟨p.db,0,none⟩),.int .u32 id,.int .u64 v] w λe w'=>e=.returned (.int .i64 (T.D.write id v).1)/\Led (PI RR p {T with D:=(T.D.write id v).2} (m+1)) F w w':=
 H.disk S (Q:=λe _=>e=.returned (.int .i64 (T.D.write id v).1)) (Nat.le_succ m) (λFD hd=>yg hd (by omega) (by unfold aO;omega) v)
theorem jQ(H:PI RR p T m w F){k:Nat}(hk:k<p.n)(hd:(T.f k).dirty=false):Calls prog 86 #[p.ptr,.int .i64 k] w λe w'=>e=.returned (.int .i64 0)/\Led (PI RR p T m) F w w':=by
 refine(AQ H.me hk hd).mono ?_;rintro e w'⟨he,rfl⟩;exact⟨he,Led.refl H⟩
theorem qV(H:PI RR p T m w F)(hm:m<80000){k:Nat}(hk:k<p.n)(hd:(T.f k).dirty=true):Calls prog 86 #[p.ptr,.int .i64 k] w λe w'=>e=.returned (.int .i64 (T.D.write (T.f k).id (T.f k).val).1)/\
  ∃w1,Led (PI RR p {T with D:=(T.D.write (T.f k).id (T.f k).val).2} (m+1)) F w w1/\(¬(T.D.write (T.f k).id (T.f k).val).1=0->w'=w1)/\((T.D.write (T.f k).id (T.f k).val).1=0->w'=w1.setCell ⟨p.fb,k*4+3,none⟩ (.bool false)):=
 qB (R:=λw1=>Led (PI RR p {T with D:=(T.D.write (T.f k).id (T.f k).val).2} (m+1)) F w w1) H.me hk hd (λw0 f0=>by
  refine(te S (H.fr0 S f0) hm (H.me.bd.2 k).1).mono ?_;rintro e w'⟨he,hl⟩;exact⟨he,Led.trans (f0.mono (λ_ q=>q.elim)) (λi q=>.inl q) hl⟩) (λw1 ⟨F1,h,_⟩=>h.me)
theorem iQ(H:PI RR p T m w F)(hm:m<80000){k:Nat}(hk:k<p.n)(hd:(T.f k).dirty=true)(he:¬(T.D.write (T.f k).id (T.f k).val).1=0):Calls prog 86 #[p.ptr,.int .i64 k] w λe w'=>e=.returned (.int .i64 (T.D.write (T.f k).id (T.f k).val).1)/\
  Led (PI RR p {T with D:=(T.D.write (T.f k).id (T.f k).val).2} (m+1)) F w w':=by
 refine(qV S H hm hk hd).mono ?_;rintro e w'⟨h0,w1,h1,h2,_⟩;rw[h2 he];exact⟨h0,h1⟩
theorem jD(H:PI RR p T m w F)(hm:m<80000){k:Nat}(hk:k<p.n)(hd:(T.f k).dirty=true)(he:(T.D.write (T.f k).id (T.f k).val).1=0):Calls prog 86 #[p.ptr,.int .i64 k] w λe w'=>e=.returned (.int .i64 0)/\
  Led (PI RR p {T with f:=upd T.f k {T.f k with dirty:=false},D:=(T.D.write (T.f k).id (T.f k).val).2} (m+1)) F w w':=by
 refine(qV S H hm hk hd).mono ?_;rintro e w'⟨h0,w1,⟨F1,h1,g1,q1⟩,_,h3⟩;rw[h3 he];rw[he]at h0;obtain⟨z1,z2⟩:=h1.me.put1 (m':=m+1) (j:=3) hk {T.f k with dirty:=false} (.bool false) (lJ T.f k false) (Nat.le_refl _) (h1.me.bd.2 k);exact⟨h0,Led.trans g1 q1 (h1.set z1 (z2.mono (λi q=>.inr (.inl q))) (Nat.le_refl _) S)⟩
theorem mS(H:PI RR p T m w F)(hm:m<80000){k:Nat}(hk:k<p.n)(hE:T.E k=false):Calls prog 102 #[p.ptr,.int .i64 k] w λe w'=>e=.returned (.tuple #[])/\
  Led (PI RR p {T with f:=upd T.f k zF,pl:=bQ T.pl (T.f k).id (some (-1)),E:=ai T.E k true,I:=ai T.I k false} (m+1)) F w w':=by
 refine(iH H.me (by omega) hk hE).mono ?_;rintro e w'⟨he,h,g⟩;exact⟨he,H.set h g (by omega) S⟩
theorem eO(H:PI RR p T m w F)(hm:m<80000){id x0:Nat}(h1:1<=id)(hu:id<4294967296){pg:Nat->Nat}{ev:Nat->Bool}(ho:ok m T.A pg ev)(hno:∀i,i<p.n->¬pg i=id)(hg:∀x,T.I x=true↔bi p.n pg ev x)(hx0:fstB p.n T.I=some x0):Calls prog 99 #[p.ptr,.int .u32 id] w λe w'=>e=.returned (.int .i64 (gS P p.n T.A T.I id).1)/\
  Led (PI RR p {T with A:=(gS P p.n T.A T.I id).2.1,sc:=T.sc+(gS P p.n T.A T.I id).2.2} (m+1)) F w w':=by
 obtain⟨h2,h3⟩:=aP hx0;rcases vic_case (P:=P) T.A T.I id with⟨a,ha,hI⟩|hv
 .rw[ig ha hI]
  refine(tc S H hm h1 hu ho hno ⟨x0,(hg x0).1 h3.1⟩ ha hI).mono ?_;rintro e w'⟨he,hl⟩;exact⟨he,hl.mono (λF' h=>h.more (by omega))⟩
 .rw[oN hv hx0]
  exact vP S H hm h1 hu ho hno ((hg x0).1 h3.1) (λx q=>(hg x).1 q) (λx q=>(hg x).2 q) hv h3
theorem gi{A:τ}{I:Nat->Bool}{id x0:Nat}{pg:Nat->Nat}{ev:Nat->Bool}(hg:∀x,I x=true↔bi p.n pg ev x)(hx0:fstB p.n I=some x0):bi p.n pg ev (gS P p.n A I id).1:=by
 obtain⟨h2,h3⟩:=aP hx0;rcases vic_case (P:=P) A I id with⟨a,ha,hI⟩|hv
 .rw[ig ha hI];exact(hg a).1 hI
 .rw[oN hv hx0];exact(hg x0).1 h3.1
theorem zn{A:τ}{I:Nat->Bool}{id x0:Nat}{pg:Nat->Nat}{ev:Nat->Bool}(hm:m<80000)(h1:1<=id)(ho:ok m A pg ev)(hno:∀i,i<p.n->¬pg i=id)(hg:∀x,I x=true↔bi p.n pg ev x)(hx0:fstB p.n I=some x0):
  ok (m+2) (gS P p.n A I id).2.1 (upd pg (gS P p.n A I id).1 0) (upd ev (gS P p.n A I id).1 false):=by
 obtain⟨h2,h3⟩:=aP hx0;rcases vic_case (P:=P) A I id with⟨a,ha,hI⟩|hv
 .rw[ig ha hI]
  exact S.more (S.okYes ho (by omega) h1 hno ha ((hg a).1 hI)) (by omega)
 .rw[oN hv hx0]
  exact S.okRem (S.okNo ho (by omega) h1 hno (λa ha q=>by have:=hv a ha;rw[(hg a).2 q]at this;cases this)) (by omega) h2 ((hg x0).1 h3.1).2.1
end
theorem iY{α:Type}(f:Nat->α)(k:Nat)(x y:α):upd (upd f k x) k y=upd f k y:=by
 funext i
 by_cases e:i=k
 .rw[e,upd_same,upd_same]
 .rw[ab _ _ e,ab _ _ e,ab _ _ e]
def VX{τ:Type}(P:Adv τ)(n:Nat)(T:PT τ)(id:Nat):Nat×τ×Nat:=gS P n (P.miss T.A id) T.I id
def T1X{τ:Type}(P:Adv τ)(n:Nat)(T:PT τ)(id:Nat):PT τ:={T with A:=(VX P n T id).2.1,sc:=T.sc+(VX P n T id).2.2}
def D2X{τ:Type}(P:Adv τ)(n:Nat)(T:PT τ)(id:Nat):=T.D.write (T.f (VX P n T id).1).id (T.f (VX P n T id).1).val
def T3X{τ:Type}(P:Adv τ)(n:Nat)(T:PT τ)(id:Nat):PT τ:={T1X P n T id with f:=upd T.f (VX P n T id).1 zF,pl:=bQ T.pl (T.f (VX P n T id).1).id (some (-1)),E:=ai T.E (VX P n T id).1 true,I:=ai T.I (VX P n T id).1 false}
section
variable{τ:Type}{P:Adv τ}{RR:World->τ->(Nat->Prop)->Prop}{ok:Nat->τ->(Nat->Nat)->(Nat->Bool)->Prop}{p:PP}(S:aG P RR p.pb p.rv p.n ok){w w':World}{T:PT τ}{m:Nat}{F:Nat->Prop}
include S
theorem pI(H:PI RR p T m w F)(hm:m<70000){id x0:Nat}(h1:1<=id)(hu:id<4294967296){pg:Nat->Nat}{ev:Nat->Bool}(ho:ok m T.A pg ev)(hno:∀i,i<p.n->¬pg i=id)(hx:fstB p.n T.E=some x0):Calls prog 77 #[p.ptr,.int .u32 id] w λe w'=>e=.returned (.tuple #[.int .i64 x0,.int .i64 0])/\
  Led (PI RR p {T with A:=P.miss T.A id} (m+6)) F w w':=by
 obtain⟨b1,b3,b4⟩:=oH w (.int .u32 id) 42;have H1:=H.fr0 S b4;have hlt:=H.lt S;have hnF1:¬F w.heap.size:=λq=>by have:=hlt _ q;omega
 have KT1:Hid (Calls prog 84 #[p.ptr,.func (.func 98) #[] #[.pointer (some ⟨w.heap.size,0,none⟩)]] (w.alloc (.cells #[.int .u32 id] 42)) λe w'=>e=.returned (.tuple #[])/\Led (PI RR p {T with A:=P.miss T.A id} m) F (w.alloc (.cells #[.int .u32 id] 42)) w'):=
  H1.tell1 S yY (λFR hr hF=>S.miss hr ho (by omega) h1 hu hno b1 (by omega) (λq=>hnF1 (hF _ q)))
 have KB:Hid (∀w3 F3 (A:τ),PI RR p {T with A:=A} m w3 F3->p.pb<w3.heap.size):=λw3 F3 A h3=>h3.me.hd.lt
 obtain⟨hx1,hx2⟩:=aP hx
 have KF:Hid (∀w3 F3,PI RR p {T with A:=P.miss T.A id} m w3 F3->Calls prog 90 #[.pointer (some ⟨p.pb,4,none⟩)] w3 λe w'=>e=.returned (.int .i64 x0)/\w3=w'):=λw3 F3 h=>by
  refine(nJ h.me).mono ?_;rintro e w'⟨rfl,⟨_,q,_⟩|⟨x,hx,hl,he⟩⟩
  .have hq:T.E x0=false:=q x0
   rw[hx2.1]at hq;cases hq
  .have e:some x=some x0:=by rw[<-pu hx1 hx2,<-pu (I:=T.E) hx hl]
   cases e
   exact⟨he,rfl⟩
 unfold PP.ptr at*;have B4:=Hd b4;generalize hw2:(w.alloc (.cells #[.int .u32 id] 42))=w2 at*;clear H H1 S ho hno hu b4 hlt hx hx2;go_enter func77,ntmps77
 go_wp2_with fail
 try rw[hw2]
 clear hw2;refine KT1.out.mono ?_;rintro e w3⟨rfl,F3,h3,g3,q3⟩;have lb:=KB.out w3 F3 _ h3;have HF:=Hd (KF.out w3 F3 h3);have HL:=Hd (Led.trans (B4.out.mono (λ_ q=>q.elim)) (λi q=>.inl q) (⟨F3,h3.more (by omega:m<=m+6),g3,q3⟩:Led (PI RR p {T with A:=P.miss T.A id} (m+6)) F w2 w3));clear h3 g3 q3 KT1 KB KF
 go_wp2_with fail
 refine HF.out.mono ?_;rintro e w4⟨rfl,rfl⟩;have hge:decide ((x0:Int)>=0)=true:=by simp
 go_wp2;go_returns;exact⟨rfl,HL.out⟩
theorem kU(H:PI RR p T m w F)(hm:m<70000){id:Nat}(h1:1<=id)(hu:id<4294967296){pg:Nat->Nat}{ev:Nat->Bool}(ho:ok m T.A pg ev)(hno:∀i,i<p.n->¬pg i=id)(hE:∀x,x<p.n->T.E x=false){v xi:Nat}{T1 T2 T3:PT τ}{er rx:Int}(hvn:v<p.n)
  (KV:Hid (∀w F,PI RR p {T with A:=P.miss T.A id} m w F->Calls prog 99 #[p.ptr,.int .u32 id] w λe w'=>e=.returned (.int .i64 v)/\Led (PI RR p T1 (m+2)) F w w'))
  (KC:Hid (∀w F,PI RR p T1 (m+2) w F->Calls prog 86 #[p.ptr,.int .i64 v] w λe w'=>e=.returned (.int .i64 er)/\Led (PI RR p T2 (m+3)) F w w'))(hxi:(T2.f v).id=xi)
  (KZ:(er=0/\rx=v/\Hid (∀w F,PI RR p T2 (m+3) w F->Calls prog 102 #[p.ptr,.int .i64 v] w λe w'=>e=.returned (.tuple #[])/\Led (PI RR p T3 (m+6)) F w w'))\/(¬er=0/\rx= -1/\∃T4,Hid (∀w F b1 b2,PI RR p T2 (m+3) w F->w.cell? ⟨b1,0,none⟩=some (.int .i64 v)->w.cell? ⟨b2,0,none⟩=some (.int .u32 xi)->b1<w.heap.size->b2<w.heap.size->¬F b1->¬F b2->Calls prog 84 #[p.ptr,.func (.func 100) #[] #[.pointer (some ⟨b1,0,none⟩),.pointer (some ⟨b2,0,none⟩)]] w λe w'=>e=.returned (.tuple #[])/\Led (PI RR p T4 (m+3)) F w w')/\Hid (∀w F b1,PI RR p T4 (m+3) w F->w.cell? ⟨b1,0,none⟩=some (.int .i64 v)->b1<w.heap.size->¬F b1->Calls prog 84 #[p.ptr,.func (.func 101) #[] #[.pointer (some ⟨b1,0,none⟩)]] w λe w'=>e=.returned (.tuple #[])/\Led (PI RR p T3 (m+6)) F w w'))):
  Calls prog 77 #[p.ptr,.int .u32 id] w λe w'=>e=.returned (.tuple #[.int .i64 rx,.int .i64 er])/\Led (PI RR p T3 (m+6)) F w w':=by
 obtain⟨b1,b3,b4⟩:=oH w (.int .u32 id) 42;have H1:=H.fr0 S b4;have hlt:=H.lt S;have hnF1:¬F w.heap.size:=λq=>by have:=hlt _ q;omega
 have KT1:=Hd (H1.tell1 S yY (λFR hr hF=>S.miss hr ho (by omega) h1 hu hno b1 (by omega) (λq=>hnF1 (hF _ q))))
 have KF:Hid (∀w3 F3,PI RR p {T with A:=P.miss T.A id} m w3 F3->p.pb<w3.heap.size/\Calls prog 90 #[.pointer (some ⟨p.pb,4,none⟩)] w3 λe w'=>e=.returned (.int .i64 (-1))/\w3=w'):=λw3 F3 h=>⟨h.me.hd.lt,by
  refine(nJ h.me).mono ?_;rintro e w'⟨rfl,⟨_,q,he⟩|⟨x,hx,hl,he⟩⟩
  .exact⟨he,rfl⟩
  .have q1:T.E x=true:=hl.1
   rw[hE x hx]at q1;cases q1⟩
 have hn:=H.me.hn
 have KM:Hid (∀w6 F6,PI RR p T2 (m+3) w6 F6->p.pb<w6.heap.size/\p.fb<w6.heap.size/\w6.cell? ⟨p.pb,2,none⟩=some (.slice (some ⟨p.fb,0,none⟩) p.n p.n)/\w6.cell? ⟨p.fb,v*4,none⟩=some (.int .u32 xi)/\∀i,F6 i->i<w6.heap.size):=λw6 F6 h=>⟨h.me.hd.lt,h.me.fr.lt,h.me.ce 2 (by omega),by
  rw[<-hxi];exact(h.me.cf hvn).1,h.lt S⟩
 have KN:Hid (∀T0 m w5 w6 F5,PI RR p T0 m w5 F5->Fr NoF w5 w6->PI RR p T0 m w6 F5):=λ_ _ w5 w6 F5 h g=>h.fr0 S g
 have KL:Hid (∀w4 F4,PI RR p T1 (m+2) w4 F4->F4 p.pb/\∀i,F4 i->i<w4.heap.size):=λw4 F4 h=>⟨h.own _ (.inl rfl),h.lt S⟩
 unfold PP.ptr at*;have B4:=Hd (b4.mono (G:=F) (λ_ q=>q.elim));generalize hw2:(w.alloc (.cells #[.int .u32 id] 42))=w2 at*;have HZ:=Hd KZ;clear H H1 S ho hno hu b4 hlt hxi hE KZ;go_enter func77,ntmps77
 go_wp2_with fail
 try rw[hw2]
 clear hw2;refine KT1.out.mono ?_;rintro e w3⟨rfl,F3,h3,g3,q3⟩;obtain⟨lb,HF⟩:=KF.out w3 F3 h3;have HF:=Hd HF;have y1:w3.cell? ⟨w.heap.size,0,none⟩=some (.int .u32 id):=by rw[g3.cell (p:=⟨w.heap.size,0,none⟩) (by show w.heap.size<_;omega) hnF1];exact b1
 have n3:¬F3 w.heap.size:=λq=>(q3 _ q).elim hnF1 (λq=>by omega)
 have HV:=Hd (KV.out w3 F3 h3);have y2:=g3.size;have G3:=Hd g3;have Q3:=Hd q3;clear h3 g3 q3 KT1 KF KV
 go_wp2_with fail
 refine HF.out.mono ?_;rintro e w4⟨rfl,rfl⟩
 go_wp2_with fail
 refine HV.out.mono ?_;rintro e w4⟨rfl,F4,h4,g4,q4⟩;obtain⟨a1,a2,a3⟩:=oH w4 (.int .i64 v) 3;obtain⟨hpb,l4⟩:=KL.out w4 F4 h4;have h5:=KN.out _ _ w4 _ F4 h4 a3;have y3:=g4.size;have n5:¬F4 w4.heap.size:=λq=>by have:=l4 _ q;omega
 have HC:=Hd (KC.out _ F4 h5);have lb5:p.pb<(w4.alloc (.cells #[.int .i64 v] 3)).heap.size:=by have:=l4 _ hpb;omega
 have G4:=Hd g4;have Q4:=Hd q4;have A3:=Hd (a3.mono (G:=F4) (λ_ q=>q.elim));clear h4 g4 q4 h5 HF HV y1 a3 l4 hpb KL
 go_wp2_with fail
 refine HC.out.mono ?_;rintro e w6⟨rfl,F6,h6,g6,q6⟩;obtain⟨m1,m2,m3,m4,m5⟩:=KM.out w6 F6 h6;have c1:w6.cell? ⟨w4.heap.size,0,none⟩=some (.int .i64 v):=by rw[g6.cell (p:=⟨w4.heap.size,0,none⟩) (by show w4.heap.size<_;omega) n5];exact a1
 have n6:¬F6 w4.heap.size:=λq=>(q6 _ q).elim n5 (λq=>by omega)
 have n7:¬F6 w6.heap.size:=λq=>by have:=m5 _ q;omega
 have y6:=g6.size;have H6:=Hd h6;have L6:Hid (∀w',Led (PI RR p T3 (m+6)) F6 w6 w'->Led (PI RR p T3 (m+6)) F w w'):=Hd λw' h=>Led.trans B4.out (λi q=>.inl q) (Led.trans G3.out Q3.out (Led.trans G4.out Q4.out (Led.trans A3.out (λi q=>.inl q) (Led.trans g6 q6 h))))
 clear h6 g6 q6 HC KC KM m5;rcases HZ.out with⟨rfl,rfl,hK⟩|⟨he0,rfl,T4,hA,hS⟩
 .clear HZ KN n7
  go_wp2_with fail
  refine(hK.out w6 F6 H6.out).mono ?_;rintro e w7⟨rfl,h7⟩;have c2:w7.cell? ⟨w4.heap.size,0,none⟩=some (.int .i64 v):=by obtain⟨_,_,g7,_⟩:=h7;rw[g7.cell (p:=⟨w4.heap.size,0,none⟩) (by show w4.heap.size<_;omega) n6];exact c1
  have H7:=Hd h7;clear h7 c1 m3 m4;go_wp2;go_returns;exact⟨rfl,L6.out _ H7.out⟩
 .clear HZ
  have hne:(er==0)=false:=by simp<;>exact he0
  go_wp2_with fail
  have fN:Fr NoF w6 (w6.alloc (.cells #[.int .u32 0] 42)):=(Fr.refl NoF w6).alloc _;have d2:(w6.alloc (.cells #[.int .u32 0] 42)).cell? ⟨p.pb,2,none⟩=some (.slice (some ⟨p.fb,0,none⟩) p.n p.n):=by rw[fN.cell (p:=⟨p.pb,2,none⟩) m1 (λq=>q)];exact m3
  have d0:(w6.alloc (.cells #[.int .u32 0] 42)).cell? ⟨p.fb,v*4,none⟩=some (.int .u32 xi):=by rw[fN.cell (p:=⟨p.fb,v*4,none⟩) m2 (λq=>q)];exact m4
  have d1:(w6.alloc (.cells #[.int .u32 0] 42)).cell? ⟨w4.heap.size,0,none⟩=some (.int .i64 v):=by rw[fN.cell (p:=⟨w4.heap.size,0,none⟩) (by show w4.heap.size<_;omega) (λq=>q)];exact c1
  have dl:=ao w6 (.cells #[.int .u32 0] 42);clear fN
  go_region
  all_goals
   go_wp2_with fail
   clear d0 d1 d2 dl;have fA:Fr NoF w6 (w6.alloc (.cells #[.int .u32 xi] 42)).drew:=((Fr.refl NoF w6).alloc _).drew;have x1:(w6.alloc (.cells #[.int .u32 xi] 42)).drew.cell? ⟨w4.heap.size,0,none⟩=some (.int .i64 v):=by rw[fA.cell (p:=⟨w4.heap.size,0,none⟩) (by show w4.heap.size<_;omega) (λq=>q)];exact c1
   have x2:(w6.alloc (.cells #[.int .u32 xi] 42)).drew.cell? ⟨w6.heap.size,0,none⟩=some (.int .u32 xi):=((s8 w6 (.int .u32 xi) 42).drew).cell (i:=0) (by omega);have x3:(w6.alloc (.cells #[.int .u32 xi] 42)).drew.heap.size=w6.heap.size+1:=ao w6 _;have H7:=KN.out _ _ w6 _ F6 H6.out fA;generalize(w6.alloc (.cells #[.int .u32 xi] 42)).drew=wA at fA x1 x2 x3 H7⊢;have HT:=Hd (hA.out wA F6 _ _ H7 x1 x2 (by omega) (by omega) n6 n7);have FA:=Hd (fA.mono (G:=F6) (λ_ q=>q.elim));clear H7 fA x2 hA;refine HT.out.mono ?_;rintro e w8⟨rfl,F8,h8,g8,q8⟩;have z1:w8.cell? ⟨w4.heap.size,0,none⟩=some (.int .i64 v):=by rw[g8.cell (p:=⟨w4.heap.size,0,none⟩) (by show w4.heap.size<_;omega) n6];exact x1
   have z2:=g8.size;have HT2:=Hd (hS.out w8 F8 w4.heap.size h8 z1 (by omega) (λq=>(q8 _ q).elim n6 (λq=>by omega)));have G8:=Hd g8;have Q8:=Hd q8;clear h8 g8 q8 hS HT z1 x1 c1 m3 m4
   go_wp2_with fail
   refine HT2.out.mono ?_;rintro e w9⟨rfl,h9⟩;have H9:=Hd h9;clear h9;go_wp2;go_returns;exact⟨rfl,L6.out _ (Led.trans FA.out (λi q=>.inl q) (Led.trans G8.out Q8.out H9.out))⟩
theorem sD(H:PI RR p T m w F)(hm:m<70000){id x0:Nat}(h1:1<=id)(hu:id<4294967296){pg:Nat->Nat}{ev:Nat->Bool}(ho:ok m T.A pg ev)(hno:∀i,i<p.n->¬pg i=id)(hE:∀x,x<p.n->T.E x=false)(hg:∀x,T.I x=true↔bi p.n pg ev x)(hpg:∀x,x<p.n->pg x=(T.f x).id)(hx:fstB p.n T.I=some x0)(hd:(T.f (VX P p.n T id).1).dirty=false):Calls prog 77 #[p.ptr,.int .u32 id] w λe w'=>e=.returned (.tuple #[.int .i64 (VX P p.n T id).1,.int .i64 0])/\Led (PI RR p (T3X P p.n T id) (m+6)) F w w':=by
 have okM:=S.okMiss ho (by omega) h1 hno;have hvn:=(gi S (P:=P) (A:=P.miss T.A id) (id:=id) hg hx).1;refine kU S H hm h1 hu ho hno hE (T1:=T1X P p.n T id) (T2:=T1X P p.n T id) hvn (λw F h=>eO S (h.more (Nat.le_succ m)) (by omega) h1 hu okM hno hg hx) (λw F h=>(jQ S h hvn hd).mono λe w1 ⟨he,hl⟩=>⟨he,hl.mono λF1 h1=>h1.more (by omega)⟩) rfl (.inl ⟨rfl,rfl,λw F h=>?_⟩);exact(mS S h (by omega) hvn (hE _ hvn)).mono λe w' ⟨he,hl⟩=>⟨he,hl.mono λF1 h1=>h1.more (by omega)⟩
theorem pE(H:PI RR p T m w F)(hm:m<70000){id x0:Nat}(h1:1<=id)(hu:id<4294967296){pg:Nat->Nat}{ev:Nat->Bool}(ho:ok m T.A pg ev)(hno:∀i,i<p.n->¬pg i=id)(hE:∀x,x<p.n->T.E x=false)(hg:∀x,T.I x=true↔bi p.n pg ev x)(hpg:∀x,x<p.n->pg x=(T.f x).id)(hx:fstB p.n T.I=some x0)(hd:(T.f (VX P p.n T id).1).dirty=true)(he0:(D2X P p.n T id).1=0):Calls prog 77 #[p.ptr,.int .u32 id] w λe w'=>e=.returned (.tuple #[.int .i64 (VX P p.n T id).1,.int .i64 0])/\Led (PI RR p {T3X P p.n T id with D:=(D2X P p.n T id).2} (m+6)) F w w':=by
 have okM:=S.okMiss ho (by omega) h1 hno;have hvn:=(gi S (P:=P) (A:=P.miss T.A id) (id:=id) hg hx).1;refine kU S H hm h1 hu ho hno hE (T1:=T1X P p.n T id) hvn (λw F h=>eO S (h.more (Nat.le_succ m)) (by omega) h1 hu okM hno hg hx) (λw F h=>jD S h (by omega) hvn hd he0) rfl (.inl ⟨rfl,rfl,λw F h=>?_⟩);have:=mS S h (by omega) hvn (hE _ hvn)
 dsimp only at this
 rw[iY,upd_same]at this;exact this.mono λe w' ⟨he,hl⟩=>⟨he,hl.mono λF1 h1=>h1.more (by omega)⟩
theorem sZ(H:PI RR p T m w F)(hm:m<70000){id x0:Nat}(h1:1<=id)(hu:id<4294967296){pg:Nat->Nat}{ev:Nat->Bool}(ho:ok m T.A pg ev)(hno:∀i,i<p.n->¬pg i=id)(hE:∀x,x<p.n->T.E x=false)(hg:∀x,T.I x=true↔bi p.n pg ev x)(hpg:∀x,x<p.n->pg x=(T.f x).id)(hinj:∀i j,i<p.n->j<p.n->¬pg i=0->pg i=pg j->i=j)(hx:fstB p.n T.I=some x0)(hd:(T.f (VX P p.n T id).1).dirty=true)(he0:¬(D2X P p.n T id).1=0):Calls prog 77 #[p.ptr,.int .u32 id] w λe w'=>e=.returned (.tuple #[.int .i64 (-1),.int .i64 (D2X P p.n T id).1])/\
  Led (PI RR p {T1X P p.n T id with A:=P.set (P.access (VX P p.n T id).2.1 (VX P p.n T id).1 (T.f (VX P p.n T id).1).id) (VX P p.n T id).1 true,D:=(D2X P p.n T id).2} (m+6)) F w w':=by
 have okM:=S.okMiss ho (by omega) h1 hno;have hgo:bi p.n pg ev (VX P p.n T id).1:=gi S (P:=P) (A:=P.miss T.A id) (id:=id) hg hx;have okV:ok (m+1+2) (VX P p.n T id).2.1 (upd pg (VX P p.n T id).1 0) (upd ev (VX P p.n T id).1 false):=zn S (by omega) h1 okM hno hg hx;have hvn:=hgo.1;have hid0:¬(T.f (VX P p.n T id).1).id=0:=by rw[<-hpg _ hvn];exact hgo.2.1
 have hvid:∀i,i<p.n->¬upd pg (VX P p.n T id).1 0 i=(T.f (VX P p.n T id).1).id:=λi hi e=>by
  by_cases q:i=(VX P p.n T id).1
  .rw[q,upd_same]at e;exact hid0 e.symm
  .rw[ab _ _ q]at e
   exact q (hinj i _ hi hvn (λz=>hid0 (by rw[<-e];exact z)) (by rw[hpg _ hvn];exact e))
 have hvu:=(H.me.bd.2 (VX P p.n T id).1).1;have okA:=S.okNew okV (by omega) (by omega) hvu hvn (upd_same _ _ _) hvid
 refine kU S H hm h1 hu ho hno hE (T1:=T1X P p.n T id) hvn (λw F h=>eO S (h.more (Nat.le_succ m)) (by omega) h1 hu okM hno hg hx) (λw F h=>iQ S h (by omega) hvn hd he0) rfl (.inr ⟨λe=>he0 (by omega),rfl,_,λw6 F6 b1 b2 h q1 q2 q3 q4 q5 q6=>h.tell2 S Dd (λFR hr hF=>S.acc hr okV (by omega) (by omega) hvu hvn (.inr ⟨upd_same _ _ _,hvid⟩) q1 q2 q3 q4 (λq=>q5 (hF _ q)) (λq=>q6 (hF _ q)) (.inl rfl)),
  λw6 F6 b1 h q1 q3 q5=>(h.tell1 S Dn (λFR hr hF=>S.setT hr okA (by omega) hvn (by rw[upd_same];exact hid0) q1 q3 (λq=>q5 (hF _ q)) (.inl rfl))).mono λe w' ⟨he,hl⟩=>⟨he,hl.mono λF1 h1=>h1.more (by omega)⟩⟩)
end
end
section
open Go.Maps Go.RowKit
def RS.ids(r:RS):List Nat:=r.L.map (·.1)
theorem RS.has_iff(r:RS)(x:Nat):r.has x=true↔x∈r.ids:=by
 unfold RS.has atP RS.ids;rw[List.findIdx?_isSome,List.any_eq_true];constructor
 .rintro⟨p,hp,e⟩
  exact List.mem_map.2 ⟨p,hp,by simpa using e⟩
 .intro h
  obtain⟨p,hp,e⟩:=List.mem_map.1 h;exact⟨p,hp,by simpa using e⟩
theorem RS.has_eq{r r':RS}(h:∀x,x∈r'.ids↔x∈r.ids)(x:Nat):r'.has x=r.has x:=by
 have h1:=r.has_iff x;have h2:=r'.has_iff x
 cases e:r'.has x with
 |true=>exact((h1.2 ((h x).1 (h2.1 e)))).symm
 |false=>
  cases e':r.has x with
  |false=>rfl
  |true=>rw[h2.2 ((h x).2 (h1.1 e'))]at e;cases e
theorem RS.read_L(r:RS)(id:Nat):(r.read id).2.L=r.L/\(r.read id).2.room=r.room:=by
 unfold RS.read
 cases atP r.L id with
 |none=>exact⟨rfl,rfl⟩
 |some k=>dsimp only;split;exact⟨rfl,rfl⟩;split<;>exact⟨rfl,rfl⟩
theorem RS.write_ids(r:RS)(id v:Nat):(r.write id v).2.ids=r.ids/\(r.write id v).2.room=r.room:=by
 unfold RS.write
 cases h:atP r.L id with
 |none=>exact⟨rfl,rfl⟩
 |some k=>
  dsimp only
  split
  .exact⟨rfl,rfl⟩
  .split
   .exact⟨rfl,rfl⟩
   .refine⟨?_,rfl⟩
    unfold RS.ids
    dsimp only
    rw[List.map_set];obtain⟨hk,_⟩:=zD h;rw[show r.L.getD k (0,0)=r.L[k]from by simp[List.getD,hk]];apply List.ext_getElem
    .simp
    .intro i h1 h2
     rw[List.getElem_set]
     split
     .next e=>subst e;simp
     .rfl
theorem RS.read_has(r:RS)(id x:Nat):(r.read id).2.has x=r.has x:=by unfold RS.has;rw[(r.read_L id).1]
theorem RS.write_has(r:RS)(id v x:Nat):(r.write id v).2.has x=r.has x:=RS.has_eq (λy=>by rw[(r.write_ids id v).1]) x
theorem RS.ins_has(r:RS)(k x:Nat):(r.ins k).has x=(decide (x=k+1)||r.has x):=by
 have h1:=(r.ins k).has_iff x;have h2:=r.has_iff x
 have h3:x∈(r.ins k).ids↔x=k+1\/x∈r.ids:=by
  unfold RS.ids RS.ins
  dsimp only
  have e:r.L=r.L.take k++r.L.drop k:=(List.take_append_drop k r.L).symm;constructor
  .intro h
   simp only[List.map_append,List.mem_append,List.map_cons,List.map_nil,List.mem_singleton]at h;rw[e,List.map_append,List.mem_append];rcases h with(h|h)|h
   .exact .inr (.inl h)
   .exact .inl h
   .exact .inr (.inr h)
  .intro h
   rw[e,List.map_append,List.mem_append]at h;simp only[List.map_append,List.mem_append,List.map_cons,List.map_nil,List.mem_singleton];rcases h with h|h|h
   .exact .inl (.inr h)
   .exact .inl (.inl h)
   .exact .inr h
 by_cases hx:x=k+1
 .rw[h1.2 (h3.2 (.inl hx))];simp[hx]
 .rw[decide_eq_false hx,Bool.false_or]
  refine Bool.eq_iff_iff.2 (h1.trans (h3.trans (Iff.trans ⟨λq=>q.elim (λq=>(hx q).elim) id,.inr⟩ h2.symm)))
theorem cw.hasE{s:DS}{r:RS}(h:cw s r)(x:Nat):r.has x=s.has x:=by
 unfold RS.has;rcases h.has x with⟨e,_,_,_,q⟩|⟨e,q⟩
 .rw[e,q];rfl
 .rw[e,q];rfl
theorem cw.free_has{s:DS}{r:RS}(h:cw s r){id:Nat}(hh:r.has id=true)(x:Nat):(r.free id).2.has x=(decide (¬x=id)&&r.has x):=by
 have hs:s.has id=true:=by rw[<-h.hasE];exact hh
 rw[(h.free_yes hs).2.hasE,h.hasE];have h1:1<=id:=by unfold DS.has at hs;simp at hs;exact hs.1.1
 show DS.has (s.gone id) x=_
 unfold DS.has DS.gone
 dsimp only
 by_cases e:x=id
 .subst e;rw[upd_same];simp
 .rw[decide_eq_true e,Bool.true_and]
  by_cases h0:x-1=id-1
  .obtain rfl:x=0:=by omega
   simp
  .rw[ab _ _ h0]
structure PS(τ:Type) where
 f:Nat->FrS
 D:RS
 A:τ
 sc:Nat
def frm(n:Nat)(f:Nat->FrS)(id:Nat):Option Nat:=(List.range n).find? (λi=>decide ((f i).id=id))
def plZ:Option Nat->Int
 |none=> -1
 |some k=>k
def plO(n:Nat)(f:Nat->FrS)(D:RS)(id:Nat):Option Int:=if D.has id=true then some (plZ (frm n f id))else none
def emB(n:Nat)(f:Nat->FrS):Nat->Bool:=λi=>decide (i<n)&&decide ((f i).id=0)
def idB(n:Nat)(f:Nat->FrS):Nat->Bool:=λi=>decide (i<n)&&(decide (¬(f i).id=0)&&decide ((f i).pins=0))
def CT{τ:Type}(n:Nat)(S:PS τ):PT τ:=⟨S.f,plO n S.f S.D,emB n S.f,idB n S.f,S.sc,S.D,S.A⟩
structure Inv(n:Nat)(f:Nat->FrS)(D:RS):Prop where
 em:∀i,i<n->(f i).id=0->f i=zF
 has:∀i,i<n->¬(f i).id=0->D.has (f i).id=true
 inj:∀i j,i<n->j<n->¬(f i).id=0->(f i).id=(f j).id->i=j
 dr:∃s,cw s D
 vd:∀x∈D.L,x.2<18446744073709551616
 vf:∀i,i<n->(f i).val<18446744073709551616
section
variable{n k id:Nat}{f:Nat->FrS}{D D':RS}{x:FrS}
theorem Inv.pos(H:Inv n f D)(h:D.has id=true):1<=id:=by
 obtain⟨s,hs⟩:=H.dr;rw[hs.hasE]at h;unfold DS.has at h;simp at h;exact h.1.1
theorem o4:frm n f id=fstB n (λi=>decide ((f i).id=id)):=rfl
theorem cG(h:frm n f id=some k):k<n/\(f k).id=id:=by
 rw[o4]at h;obtain⟨h1,h2⟩:=aP h;exact⟨h1,by simpa using h2.1⟩
theorem eo(h:frm n f id=none):∀i,i<n->¬(f i).id=id:=by
 rw[o4]at h;intro i hi;have:=bP h i hi;simpa using this
theorem Inv.atf(H:Inv n f D)(hk:k<n)(h:(f k).id=id)(h0:¬id=0):frm n f id=some k:=by
 cases e:frm n f id with
 |none=>exact absurd h (eo e k hk)
 |some j=>
  obtain⟨h1,h2⟩:=cG e;rw[H.inj j k h1 hk (by rw[h2];exact h0) (by rw[h2,h])]
theorem dC(hk:k<n)(x:FrS):emB n (upd f k x)=ai (emB n f) k (decide (x.id=0)):=by
 funext i
 by_cases e:i=k
 .subst e;rw[aI];unfold emB;rw[upd_same];simp[hk]
 .rw[aq _ _ e];unfold emB;rw[ab _ _ e]
theorem cZ(hk:k<n)(x:FrS):idB n (upd f k x)=ai (idB n f) k (decide (¬x.id=0)&&decide (x.pins=0)):=by
 funext i
 by_cases e:i=k
 .subst e;rw[aI];unfold idB;rw[upd_same];simp[hk]
 .rw[aq _ _ e];unfold idB;rw[ab _ _ e]
theorem dN(hk:k<n):emB n f k=decide ((f k).id=0):=by unfold emB;simp[hk]
theorem dw(hk:k<n):idB n f k=(decide (¬(f k).id=0)&&decide ((f k).pins=0)):=by unfold idB;simp[hk]
theorem iX(hk:k<n)(hx:x.id=(f k).id)(id:Nat):frm n (upd f k x) id=frm n f id:=by
 unfold frm
 congr 1
 funext i
 by_cases e:i=k
 .subst e;rw[upd_same,hx]
 .rw[ab _ _ e]
theorem iS(hk:k<n)(hx:x.id=(f k).id):plO n (upd f k x) D=plO n f D:=by
 funext id;unfold plO;rw[iX hk hx]
theorem qR(h:∀x,D'.has x=D.has x):plO n f D'=plO n f D:=by
 funext id;unfold plO;rw[h]
theorem cC(h:∀i,i<n->¬(f i).id=id):frm n f id=none:=by
 cases e:frm n f id with
 |none=>rfl
 |some j=>obtain⟨h1,h2⟩:=cG e;exact absurd h2 (h j h1)
theorem im{g:Nat->FrS}{y:Nat}(hk:k<n)(ho:∀i,¬i=k->g i=f i)(h1:¬(f k).id=y)(h2:¬(g k).id=y):frm n g y=frm n f y:=by
 unfold frm
 congr 1
 funext i
 by_cases e:i=k
 .subst e;rw[decide_eq_false h1,decide_eq_false h2]
 .rw[ho i e]
theorem oq(H:Inv n f D)(hk:k<n)(h0:¬(f k).id=0):plO n (upd f k zF) D=bQ (plO n f D) (f k).id (some (-1)):=by
 funext y
 by_cases e:y=(f k).id
 .subst e
  rw[cm];unfold plO;rw[if_pos (H.has k hk h0),cC (λi hi q=>?_)]
  .rfl
  .by_cases e:i=k
   .subst e;rw[upd_same]at q;exact h0 q.symm
   .rw[ab _ _ e]at q;exact e (H.inj i k hi hk (by rw[q];exact h0) q)
 .rw[bI _ _ e]
  unfold plO;by_cases y0:D.has y=true
  .have hy:¬y=0:=by have:=H.pos y0;omega
   rw[if_pos y0,if_pos y0,im hk (λi q=>ab _ _ q) (λq=>e q.symm) (by rw[upd_same];exact λq=>hy q.symm)]
  .rw[if_neg y0,if_neg y0]
theorem mT(H:Inv n f D)(hk:k<n)(h0:(f k).id=0)(hx:D.has x.id=true)(hno:∀i,i<n->¬(f i).id=x.id):plO n (upd f k x) D=bQ (plO n f D) x.id (some (k:Int)):=by
 have hx1:=H.pos hx
 funext y
 by_cases e:y=x.id
 .subst e
  rw[cm];unfold plO;rw[if_pos hx]
  have:frm n (upd f k x) x.id=some k:=by
   rw[o4];refine pu hk ⟨by show decide ((upd f k x k).id=x.id)=true;rw[upd_same];simp,λi hi=>?_⟩
   show decide ((upd f k x i).id=x.id)=false
   rw[ab _ _ (by omega)];simp[hno i (by omega)]
  rw[this];rfl
 .rw[bI _ _ e]
  unfold plO;by_cases y0:D.has y=true
  .have hy:¬y=0:=by have:=H.pos y0;omega
   rw[if_pos y0,if_pos y0,im hk (λi q=>ab _ _ q) (by rw[h0];exact λq=>hy q.symm) (by rw[upd_same];exact λq=>e q.symm)]
  .rw[if_neg y0,if_neg y0]
theorem sT(H:Inv n f D)(hx:x.val<18446744073709551616):∀i,i<n->(upd f k x i).val<18446744073709551616:=λi hi=>by
 by_cases e:i=k
 .rw[e,upd_same];exact hx
 .rw[ab _ _ e];exact H.vf i hi
theorem Inv.vac(H:Inv n f D)(hk:k<n):Inv n (upd f k zF) D:=by
 refine⟨λi hi q=>?_,λi hi q=>?_,λi j hi hj q e=>?_,H.dr,H.vd,sT H (by decide)⟩
 .by_cases e:i=k
  .rw[e,upd_same]
  .rw[ab _ _ e]at q⊢;exact H.em i hi q
 .by_cases e:i=k
  .rw[e,upd_same]at q;exact absurd rfl q
  .rw[ab _ _ e]at q⊢;exact H.has i hi q
 .by_cases e1:i=k
  .rw[e1,upd_same]at q;exact absurd rfl q
  .by_cases e2:j=k
   .rw[ab _ _ e1]at q e;rw[e2,upd_same]at e;exact absurd e q
   .rw[ab _ _ e1]at q e;rw[ab _ _ e2]at e;exact H.inj i j hi hj q e
theorem Inv.keep(H:Inv n f D)(hk:k<n)(hx:x.id=(f k).id)(h0:¬(f k).id=0)(hxv:x.val<18446744073709551616):Inv n (upd f k x) D:=by
 have hid:∀i,(upd f k x i).id=(f i).id:=λi=>by
  by_cases e:i=k
  .rw[e,upd_same,hx]
  .rw[ab _ _ e]
 refine⟨λi hi q=>?_,λi hi q=>?_,λi j hi hj q e=>?_,H.dr,H.vd,sT H hxv⟩
 .by_cases e:i=k
  .rw[e,upd_same,hx]at q;exact absurd q h0
  .rw[ab _ _ e]at q⊢;exact H.em i hi q
 .rw[hid]at q⊢;exact H.has i hi q
 .rw[hid]at q e;rw[hid]at e;exact H.inj i j hi hj q e
theorem Inv.enter(H:Inv n f D)(hk:k<n)(h0:(f k).id=0)(hx:D.has x.id=true)(hno:∀i,i<n->¬(f i).id=x.id)(hxv:x.val<18446744073709551616):Inv n (upd f k x) D:=by
 have hx1:=H.pos hx;refine⟨λi hi q=>?_,λi hi q=>?_,λi j hi hj q e=>?_,H.dr,H.vd,sT H hxv⟩
 .by_cases e:i=k
  .rw[e,upd_same]at q;omega
  .rw[ab _ _ e]at q⊢;exact H.em i hi q
 .by_cases e:i=k
  .rw[e,upd_same];exact hx
  .rw[ab _ _ e]at q⊢;exact H.has i hi q
 .by_cases e1:i=k
  .by_cases e2:j=k
   .rw[e1,e2]
   .rw[e1,upd_same,ab _ _ e2]at e;exact absurd e.symm (hno j hj)
  .by_cases e2:j=k
   .rw[e2,upd_same,ab _ _ e1]at e;exact absurd e (hno i hi)
   .rw[ab _ _ e1]at q e;rw[ab _ _ e2]at e;exact H.inj i j hi hj q e
theorem Inv.disk(H:Inv n f D)(h:∀i,i<n->¬(f i).id=0->D'.has (f i).id=true)(dr:∃s,cw s D')(vd:∀x∈D'.L,x.2<18446744073709551616):Inv n f D':=⟨H.em,h,H.inj,dr,vd,H.vf⟩
theorem RS.write_vd{r:RS}{id v:Nat}(h:∀x∈r.L,x.2<18446744073709551616)(hv:v<18446744073709551616):∀x∈(r.write id v).2.L,x.2<18446744073709551616:=by
 unfold RS.write
 cases atP r.L id with
 |none=>exact h
 |some k=>
  dsimp only
  split
  .exact h
  .split
   .exact h
   .intro x hx
    rcases List.mem_or_eq_of_mem_set hx with q|q
    .exact h x q
    .rw[q];exact hv
theorem RS.read_v{r:RS}{id:Nat}(h:∀x∈r.L,x.2<18446744073709551616):(r.read id).1.1<18446744073709551616:=by
 unfold RS.read
 cases e:atP r.L id with
 |none=>show 0<_;omega
 |some k=>
  dsimp only
  split
  .show 0<_;omega
  .split
   .show 0<_;omega
   .obtain⟨hk,_⟩:=zD e
    rw[show r.L.getD k (0,0)=r.L[k]from by simp[List.getD,hk]];exact h _ (List.getElem_mem hk)
theorem Inv.write(H:Inv n f D)(id:Nat){v:Nat}(hv:v<18446744073709551616):Inv n f (D.write id v).2:=by
 obtain⟨s,hs⟩:=H.dr;exact H.disk (λi hi q=>by rw[RS.write_has];exact H.has i hi q) ⟨_,(hs.write id v).2⟩ (RS.write_vd H.vd hv)
theorem Inv.read(H:Inv n f D)(id:Nat):Inv n f (D.read id).2:=by
 obtain⟨s,hs⟩:=H.dr;exact H.disk (λi hi q=>by rw[RS.read_has];exact H.has i hi q) ⟨_,(hs.read id).2⟩ (by rw[(D.read_L id).1];exact H.vd)
theorem Inv.ins(H:Inv n f D)(hl:D.L.length<D.room):Inv n f (D.ins (ag D.L)):=by
 obtain⟨s,hs⟩:=H.dr;refine H.disk (λi hi q=>by rw[RS.ins_has,H.has i hi q];simp) ⟨_,hs.put (cF D.L) hl⟩ (λx hx=>?_);rcases List.mem_append.1 hx with q|q
 .rcases List.mem_append.1 q with q|q
  .exact H.vd x (List.mem_of_mem_take q)
  .simp at q;rw[q];show 0<_;omega
 .exact H.vd x (List.mem_of_mem_drop q)
theorem RS.free_vd{r:RS}{id:Nat}(h:∀x∈r.L,x.2<18446744073709551616):∀x∈(r.free id).2.L,x.2<18446744073709551616:=by
 unfold RS.free
 cases atP r.L id with
 |none=>exact h
 |some k=>
  intro x hx;rcases List.mem_append.1 hx with q|q
  .exact h x (List.mem_of_mem_take q)
  .exact h x (List.mem_of_mem_drop q)
theorem Inv.free(H:Inv n f D)(hno:∀i,i<n->¬(f i).id=id):Inv n f (D.free id).2:=by
 obtain⟨s,hs⟩:=H.dr;by_cases hh:D.has id=true
 .refine H.disk (λi hi q=>?_) ⟨_,(hs.free_yes (by rw[<-hs.hasE];exact hh)).2⟩ (RS.free_vd H.vd)
  rw[hs.free_has hh,H.has i hi q];simp[hno i hi]
 .have:s.has id=false:=by rw[<-hs.hasE];simpa using hh
  rw[hs.free_no this];exact H
theorem Inv.gap(H:Inv n f D):D.has (ag D.L+1)=false:=by
 obtain⟨s,hs⟩:=H.dr;have hg:=cF D.L;rw[hs.hasE];have hg2:Gap (plL s.pg s.np) (ag D.L):=by rw[hs.L]at hg⊢;exact hg
 obtain⟨q1,q2,q3,q4⟩:=j6 hg2;unfold DS.has;rcases Nat.lt_or_ge (ag D.L) s.np with q|q
 .rw[show ag D.L+1-1=ag D.L from by omega,q3 q];simp
 .have:¬(1<=ag D.L+1/\ag D.L+1<=s.np):=by omega
  simp only[this,decide_false,Bool.false_and]
end
end
end Go.Proofs.YtkjhnllcphidpaaGreatDoor
