/- Part 33. -/
import Derived.Test.YtkjhnllcphidpaaGreatDoorQ32
namespace Go.Proofs.YtkjhnllcphidpaaGreatDoor
set_option linter.all false
set_option maxHeartbeats 16000000
set_option maxRecDepth 100000
section
open Go.Maps Go.Proofs.Tryz Go.RowKit
theorem tj(w:World)(u:Value)(t:TypeId):Blk (w.alloc (.cells #[u] t)) w.heap.size 1 (λ_=>u):=Blk.new w #[u] t 1 (λ_=>u) _ rfl rfl (λi hi=>by
 match i,hi with
 |0,_=>rfl)
theorem ar(w:World)(o:Obj):(w.alloc o).heap.size=w.heap.size+1:=Array.size_push (xs:=w.heap) o
theorem Hq(w:World)(u1 u2:Value)(t1 t2:TypeId):((w.alloc (.cells #[u1] t1)).alloc (.cells #[u2] t2)).cell? ⟨w.heap.size,0,none⟩=some u1/\((w.alloc (.cells #[u1] t1)).alloc (.cells #[u2] t2)).cell? ⟨w.heap.size+1,0,none⟩=some u2/\((w.alloc (.cells #[u1] t1)).alloc (.cells #[u2] t2)).heap.size=w.heap.size+2/\Fr NoF w ((w.alloc (.cells #[u1] t1)).alloc (.cells #[u2] t2)):=by
 have h1:=(tj w u1 t1).alloc (.cells #[u2] t2);have h2:=tj (w.alloc (.cells #[u1] t1)) u2 t2;have hs:=ar w (.cells #[u1] t1);rw[hs]at h2;exact⟨h1.cell (by omega),h2.cell (by omega),by rw[ar,ar],((Fr.refl NoF w).alloc _).alloc _⟩
theorem oV(w:World)(u1:Value)(t1:TypeId):(w.alloc (.cells #[u1] t1)).cell? ⟨w.heap.size,0,none⟩=some u1/\(w.alloc (.cells #[u1] t1)).heap.size=w.heap.size+1/\Fr NoF w (w.alloc (.cells #[u1] t1)):=
 ⟨(tj w u1 t1).cell (by omega),ar _ _,(Fr.refl NoF w).alloc _⟩
section
variable{τ:Type}{P:Adv τ}{RR:World->τ->(Nat->Prop)->Prop}{ok:Nat->τ->(Nat->Nat)->(Nat->Bool)->Prop}{p:PP}(S:aJ P RR p.pb p.rv p.n ok){w w':World}{T:PT τ}{m:Nat}{F:Nat->Prop}
include S
theorem oT(H:PI RR p T m w F)(hm:m<80000){k:Nat}(hk:k<p.n)(hE:T.E k=false){pg:Nat->Nat}{ev:Nat->Bool}(ho:ok m T.A pg ev)(h0:¬pg k=0):Calls prog 83 #[p.ptr,.int .i64 k] w λe w'=>e=.returned (.tuple #[])/\
  Led (PI RR p {T with f:=upd T.f k zF,pl:=bP T.pl (T.f k).id (some (-1)),E:=ao T.E k true,I:=ao T.I k false,A:=P.remove T.A k} (m+1)) F w w':=by
 obtain⟨b1,b2,b3⟩:=oV w (.int .i64 k) 3;have H1:=H.fr0 S b3;have lb:=H1.me.hd.lt;have hlt:=H.lt S;have KV:=Hd (je H1.me (by omega) hk hE)
 have KT:Hid (∀w3 F3,PI RR p {T with f:=upd T.f k zF,pl:=bP T.pl (T.f k).id (some (-1)),E:=ao T.E k true,I:=ao T.I k false} (m+1) w3 F3->w3.cell? ⟨w.heap.size,0,none⟩=some (.int .i64 k)->w.heap.size<w3.heap.size->¬F3 w.heap.size->
  Calls prog 84 #[p.ptr,.func (.func 109) #[] #[.pointer (some ⟨w.heap.size,0,none⟩)]] w3 λe w'=>e=.returned (.tuple #[])/\Led (PI RR p {T with f:=upd T.f k zF,pl:=bP T.pl (T.f k).id (some (-1)),E:=ao T.E k true,I:=ao T.I k false,A:=P.remove T.A k} (m+1)) F3 w3 w'):=
  λw3 F3 h3 q1 q2 q3=>h3.tell1 S Em (λFR hr hF=>S.rem hr (S.more ho (Nat.le_succ m)) (by omega) hk h0 q1 q2 (λq=>q3 (hF _ q)) (.inr rfl))
 have KS:Hid (∀w2,MP w2 p (upd T.f k zF) (bP T.pl (T.f k).id (some (-1))) (ao T.E k true) (ao T.I k false) T.sc (m+1)->Fr p.own (w.alloc (.cells #[.int .i64 k] 3)) w2->Led (PI RR p {T with f:=upd T.f k zF,pl:=bP T.pl (T.f k).id (some (-1)),E:=ao T.E k true,I:=ao T.I k false} (m+1)) F (w.alloc (.cells #[.int .i64 k] 3)) w2):=
  λw2 h g=>H1.set h g (by omega) S
 have hno:¬p.own w.heap.size:=λq=>by have:=hlt _ (H.own _ q);omega
 have hnF:¬F w.heap.size:=λq=>by have:=hlt _ q;omega
 generalize p.n=n at*;unfold PP.ptr at*;clear H H1 ho;have B1:=Hd b1;have HB3:=Hd b3;clear b3 hlt;go_enter func83,ntmps83
 go_wp2_with fail
 refine KV.out.mono ?_;rintro e w2⟨rfl,h2,g2⟩;obtain⟨F2,h3,g3,q3⟩:=KS.out w2 h2 g2;have hs2:=g3.size;have x1:w2.cell? ⟨w.heap.size,0,none⟩=some (.int .i64 k):=by rw[g3.cell (p:=⟨w.heap.size,0,none⟩) (by show w.heap.size<_;omega) hnF];exact B1.out
 have KC:=Hd (KT.out w2 F2 h3 x1 (by omega) (λq=>(q3 _ q).elim hnF (λq=>by omega)));have G3:=Hd g3;have Q3:=Hd q3;clear h2 g2 h3 g3 q3 x1
 go_wp2_with fail
 refine KC.out.mono ?_;rintro e w3⟨rfl,h4⟩;have H4:=Hd h4;clear h4;go_wp2;go_returns;exact⟨rfl,Led.trans (HB3.out.mono (λ_ q=>q.elim)) (λi q=>.inl q) (Led.trans G3.out Q3.out H4.out)⟩
theorem jZ(H:PI RR p T m w F)(hm:m<80000){k id:Nat}(hk:k<p.n)(h1:1<=id)(hu:id<4294967296){pg:Nat->Nat}{ev:Nat->Bool}(ho:ok m T.A pg ev)(h0:pg k=0)(hno:∀i,i<p.n->¬pg i=id)(hm1:1<=m):Calls prog 79 #[p.ptr,.int .i64 k,.int .u32 id] w λe w'=>e=.returned (.tuple #[])/\
  Led (PI RR p {T with f:=upd T.f k ⟨id,0,1,false⟩,pl:=bP T.pl id (some k),E:=ao T.E k false,A:=P.access T.A k id} (m+1)) F w w':=by
 obtain⟨b1,b2,b3,b4⟩:=Hq w (.int .i64 k) (.int .u32 id) 3 42;have H1:=H.fr0 S b4;have lb:=H1.me.hd.lt;have lf:=H1.me.fr.lt;have hlt:=H.lt S;have c2:((w.alloc (.cells #[.int .i64 k] 3)).alloc (.cells #[.int .u32 id] 42)).cell? ⟨p.pb,2,none⟩=some (.slice (some ⟨p.fb,0,none⟩) p.n p.n):=H1.me.ce 2 (by omega);have hn:=H.me.hn;obtain⟨e0,e1,e2,e3⟩:=H1.me.cf hk;have z0:=H1.me.fr.frozen (k*4);have z1:=H1.me.fr.frozen (k*4+1);have z2:=H1.me.fr.frozen (k*4+2);have z3:=H1.me.fr.frozen (k*4+3);have hnF1:¬F w.heap.size:=λq=>by have:=hlt _ q;omega
 have hnF2:¬F (w.heap.size+1):=λq=>by have:=hlt _ q;omega
 have HF:=Hd H1;have HU:=Hd hu;generalize(T.f k).id=xi at*;generalize(T.f k).val=xv at*;generalize(T.f k).pins=xp at*;generalize(T.f k).dirty=xd at*;have B4:=Hd b4
 have KA:Hid (∀wA,wA=(((((((w.alloc (.cells #[.int .i64 k] 3)).alloc (.cells #[.int .u32 id] 42)).setCell ⟨p.fb,k*4,none⟩ (.int .u32 id)).setCell ⟨p.fb,k*4+1,none⟩ (.int .u64 0)).setCell ⟨p.fb,k*4+2,none⟩ (.int .i64 1)).setCell ⟨p.fb,k*4+3,none⟩ (.bool false)).drew)->
   MP wA p (upd T.f k ⟨id,0,1,false⟩) T.pl T.E T.I T.sc m/\Fr p.own ((w.alloc (.cells #[.int .i64 k] 3)).alloc (.cells #[.int .u32 id] 42)) wA):=λwA hA=>by
  obtain⟨q1,q2⟩:=H1.me.put4 hk ⟨id,0,1,false⟩ ⟨hu,by show 0<_;omega,hm1⟩ rfl;subst hA;exact⟨q1.fr0 ((Fr.refl NoF _).drew),(q2.drew).mono (λi q=>.inr (.inl q))⟩
 have KT:Hid (∀w3 F3,PI RR p {T with f:=upd T.f k ⟨id,0,1,false⟩,pl:=bP T.pl id (some k),E:=ao T.E k false} (m+1) w3 F3->w3.cell? ⟨w.heap.size,0,none⟩=some (.int .i64 k)->w3.cell? ⟨w.heap.size+1,0,none⟩=some (.int .u32 id)->w.heap.size+1<w3.heap.size->¬F3 w.heap.size->¬F3 (w.heap.size+1)->
  Calls prog 84 #[p.ptr,.func (.func 105) #[] #[.pointer (some ⟨w.heap.size,0,none⟩),.pointer (some ⟨w.heap.size+1,0,none⟩)]] w3 λe w'=>e=.returned (.tuple #[])/\Led (PI RR p {T with f:=upd T.f k ⟨id,0,1,false⟩,pl:=bP T.pl id (some k),E:=ao T.E k false,A:=P.access T.A k id} (m+1)) F3 w3 w'):=
  λw3 F3 h3 q1 q2 q3 q4 q5=>h3.tell2 S Fj (λFR hr hF=>S.acc hr (S.more ho (Nat.le_succ m)) (by omega) h1 hu hk (.inr ⟨h0,hno⟩) q1 q2 (by omega) q3 (λq=>q4 (hF _ q)) (λq=>q5 (hF _ q)) (.inr (.inl rfl)))
 have KS:Hid (∀w3,MP w3 p (upd T.f k ⟨id,0,1,false⟩) (bP T.pl id (some k)) (ao T.E k false) T.I T.sc (m+1)->Fr p.own ((w.alloc (.cells #[.int .i64 k] 3)).alloc (.cells #[.int .u32 id] 42)) w3->Led (PI RR p {T with f:=upd T.f k ⟨id,0,1,false⟩,pl:=bP T.pl id (some k),E:=ao T.E k false} (m+1)) F ((w.alloc (.cells #[.int .i64 k] 3)).alloc (.cells #[.int .u32 id] 42)) w3):=
  λw3 h g=>H1.set h g (by omega) S
 have hno1:¬p.own w.heap.size:=λq=>hnF1 (H.own _ q)
 have hno2:¬p.own (w.heap.size+1):=λq=>hnF2 (H.own _ q)
 generalize hw2:((w.alloc (.cells #[.int .i64 k] 3)).alloc (.cells #[.int .u32 id] 42))=w2 at*;have hbn:w.heap.size+1<w2.heap.size:=by omega
 unfold PP.ptr at*;clear H H1 ho hlt b4 hu S HF hno h0 b3;go_enter func79,ntmps79
 go_wp2_with fail
 try rw[hw2]
 clear hw2
 go_region
 all_goals
  go_wp2_with fail
  obtain⟨mA,gA⟩:=KA.out _ rfl;generalize((((w2.setCell ⟨p.fb,k*4,none⟩ (.int .u32 id)).setCell ⟨p.fb,k*4+1,none⟩ (.int .u64 0)).setCell ⟨p.fb,k*4+2,none⟩ (.int .i64 1)).setCell ⟨p.fb,k*4+3,none⟩ (.bool false)).drew=wA at mA gA⊢;clear KA;obtain⟨wB,rB,hB,gB⟩:=(mA.fr0 ((Fr.refl NoF wA).drew)).put (by omega) HU.out (k:Int);have x3:wA.cell? ⟨p.pb,3,none⟩=some (.map (some p.mb)):=mA.ce 3 (by omega);have xl:=mA.hd.lt;have y1:wA.cell? ⟨w.heap.size,0,none⟩=some (.int .i64 k):=by rw[gA.cell (p:=⟨w.heap.size,0,none⟩) (by show w.heap.size<_;omega) hno1];exact b1
  have y2:wA.cell? ⟨w.heap.size+1,0,none⟩=some (.int .u32 id):=by rw[gA.cell (p:=⟨w.heap.size+1,0,none⟩) (by show w.heap.size+1<_;omega) hno2];exact b2
  have gAB:Fr p.own w2 wB:=gA.trans (((Fr.refl NoF wA).drew.mono (λ_ q=>q.elim)).trans (gB.mono (λi q=>.inr (.inr (.inl q)))) (λi q=>.inl q)) (λi q=>.inl q);clear mA gA gB c2 e0 e1 e2 e3 z0 z1 z2 z3 lb lf
  go_region
  all_goals
   clear rB x3 xl y1 y2
   go_wp2_with fail
   have lb:=hB.hd.lt;have y1:wB.cell? ⟨w.heap.size,0,none⟩=some (.int .i64 k):=by rw[gAB.cell (p:=⟨w.heap.size,0,none⟩) (by show w.heap.size<_;omega) hno1];exact b1
   have HB:=Hd hB;have GB:=Hd gAB;clear hB gAB
   go_still_tail 4,(by kernel_rfl)
   go_wp2_with fail
   refine(AH (HB.out.fr0 ((Fr.refl NoF wB).drew)) hk).mono ?_;rintro e wC⟨rfl,hC,gC⟩;have gAC:Fr p.own w2 wC:=GB.out.trans (((Fr.refl NoF wB).drew.mono (λ_ q=>q.elim)).trans gC (λi q=>.inl q)) (λi q=>.inl q);obtain⟨F3,h3,g3,q3⟩:=KS.out wC hC gAC;have z1:wC.cell? ⟨w.heap.size,0,none⟩=some (.int .i64 k):=by rw[gAC.cell (p:=⟨w.heap.size,0,none⟩) (by show w.heap.size<_;omega) hno1];exact b1
   have z2:wC.cell? ⟨w.heap.size+1,0,none⟩=some (.int .u32 id):=by rw[gAC.cell (p:=⟨w.heap.size+1,0,none⟩) (by show w.heap.size+1<_;omega) hno2];exact b2
   have hs2:=gAC.size;have KC:=Hd (KT.out wC F3 h3 z1 z2 (by omega) (λq=>(q3 _ q).elim hnF1 (λq=>by omega)) (λq=>(q3 _ q).elim hnF2 (λq=>by omega)));have G3:=Hd g3;have Q3:=Hd q3;clear hC gC gAC h3 g3 q3 z1 z2 KT KS HB GB y1
   go_wp2_with fail
   refine KC.out.mono ?_;rintro e w3⟨rfl,h4⟩;have H4:=Hd h4;clear h4;go_wp2;go_returns;exact⟨rfl,Led.trans (B4.out.mono (λ_ q=>q.elim)) (λi q=>.inl q) (Led.trans G3.out Q3.out H4.out)⟩
end
section
variable{τ:Type}{P:Adv τ}{RR:World->τ->(Nat->Prop)->Prop}{ok:Nat->τ->(Nat->Nat)->(Nat->Bool)->Prop}{p:PP}(S:aJ P RR p.pb p.rv p.n ok){w w':World}{T:PT τ}{m:Nat}{F:Nat->Prop}
include S
theorem m6(H:PI RR p T m w F)(hm:m<80000){k:Nat}(hk:k<p.n)(h1:1<=(T.f k).id){pg:Nat->Nat}{ev:Nat->Bool}(ho:ok m T.A pg ev)(h0:pg k=(T.f k).id){TF:PT τ}
  (hTF:((T.f k).pins=0/\TF={T with f:=upd T.f k {T.f k with pins:=(T.f k).pins+1},I:=ao T.I k false,A:=P.set (P.access T.A k (T.f k).id) k false})\/(¬(T.f k).pins=0/\TF={T with f:=upd T.f k {T.f k with pins:=(T.f k).pins+1},A:=P.access T.A k (T.f k).id})):Calls prog 81 #[p.ptr,.int .i64 k] w λe w'=>e=.returned (.tuple #[])/\
  Led (PI RR p TF (m+2)) F w w':=by
 obtain⟨b1,b3,b4⟩:=oV w (.int .i64 k) 3;have H1:=H.fr0 S b4;have lb:=H1.me.hd.lt;have lf:=H1.me.fr.lt;have hlt:=H.lt S;have c2:(w.alloc (.cells #[.int .i64 k] 3)).cell? ⟨p.pb,2,none⟩=some (.slice (some ⟨p.fb,0,none⟩) p.n p.n):=H1.me.ce 2 (by omega);have hn:=H.me.hn;obtain⟨e0,e1,e2,e3⟩:=H1.me.cf hk;have hu:=(H.me.bd.2 k).1;have hbf:=H.me.bd.2 k;have hnF1:¬F w.heap.size:=λq=>by have:=hlt _ q;omega
 have hnF2:¬F (w.heap.size+1):=λq=>by have:=hlt _ q;omega
 have okA:=S.okOld ho (by omega) h1 hk h0;have hpg:¬pg k=0:=by omega
 have KT1:Hid (∀w3,Fr NoF w w3->w3.cell? ⟨w.heap.size,0,none⟩=some (.int .i64 k)->w3.cell? ⟨w.heap.size+1,0,none⟩=some (.int .u32 (T.f k).id)->w.heap.size+1<w3.heap.size->
  Calls prog 84 #[p.ptr,.func (.func 106) #[] #[.pointer (some ⟨w.heap.size,0,none⟩),.pointer (some ⟨w.heap.size+1,0,none⟩)]] w3 λe w'=>e=.returned (.tuple #[])/\Led (PI RR p {T with A:=P.access T.A k (T.f k).id} m) F w3 w'):=
  λw3 g q1 q2 q3=>(H.fr0 S g).tell2 S Es (λFR hr hF=>S.acc hr ho (by omega) h1 hu hk (.inl h0) q1 q2 (by omega) q3 (λq=>hnF1 (hF _ q)) (λq=>hnF2 (hF _ q)) (.inr (.inr rfl)))
 have KP:Hid (∀w3 F3 z A I,PI RR p {T with I:=I,A:=A} m w3 F3->z=(((T.f k).pins+1:Nat):Int)->Led (PI RR p {T with f:=upd T.f k {T.f k with pins:=(T.f k).pins+1},I:=I,A:=A} (m+2)) F3 w3 (w3.setCell ⟨p.fb,k*4+2,none⟩ (.int .i64 z)).drew):=λw3 F3 z A I h3 hz=>by
  subst hz;obtain⟨q1,q2⟩:=h3.me.put1 (m':=m+2) (j:=2) hk {T.f k with pins:=(T.f k).pins+1} (.int .i64 (((T.f k).pins+1:Nat):Int)) (qy T.f k _) (by omega) ⟨hbf.1,hbf.2.1,by show(T.f k).pins+1<=m+2;omega⟩;exact h3.set (q1.fr0 ((Fr.refl NoF _).drew)) ((q2.drew).mono (λi q=>.inr (.inl q))) (by omega) S
 have KD:Hid (∀w3 F3,PI RR p {T with A:=P.access T.A k (T.f k).id} m w3 F3->Calls prog 91 #[.pointer (some ⟨p.pb,7,none⟩),.int .i64 k] w3 λe w'=>e=.returned (.tuple #[])/\Led (PI RR p {T with I:=ao T.I k false,A:=P.access T.A k (T.f k).id} m) F3 w3 w'):=λw3 F3 h3=>by
  refine(qe h3.me hk).mono ?_;rintro e w4⟨he,h4,g4⟩;exact⟨he,h3.set h4 g4 (Nat.le_refl _) S⟩
 have KT2:Hid (∀w3 F3,PI RR p {T with I:=ao T.I k false,A:=P.access T.A k (T.f k).id} m w3 F3->w3.cell? ⟨w.heap.size,0,none⟩=some (.int .i64 k)->w.heap.size<w3.heap.size->¬F3 w.heap.size->
  Calls prog 84 #[p.ptr,.func (.func 107) #[] #[.pointer (some ⟨w.heap.size,0,none⟩)]] w3 λe w'=>e=.returned (.tuple #[])/\Led (PI RR p {T with I:=ao T.I k false,A:=P.set (P.access T.A k (T.f k).id) k false} m) F3 w3 w'):=
  λw3 F3 h3 q1 q2 q3=>h3.tell1 S Fo (λFR hr hF=>S.setF hr okA (by omega) hk hpg q1 q2 (λq=>q3 (hF _ q)))
 have KX:Hid (∀w3 F3 (A:τ) (I:Nat->Bool),PI RR p {T with I:=I,A:=A} m w3 F3->w3.cell? ⟨p.pb,2,none⟩=some (.slice (some ⟨p.fb,0,none⟩) p.n p.n)/\w3.cell? ⟨p.fb,k*4+2,none⟩=some (.int .i64 (T.f k).pins)/\w3.frozen? ⟨p.fb,k*4+2,none⟩=false/\p.pb<w3.heap.size/\p.fb<w3.heap.size):=
  λw3 F3 A I h3=>⟨h3.me.ce 2 (by omega),(h3.me.cf hk).2.2.1,h3.me.fr.frozen _,h3.me.hd.lt,h3.me.fr.lt⟩
 have HS:Hid (∀(A:τ) (I:Nat->Bool) w3 F3,PI RR p {T with I:=I,A:=A} m w3 F3->PI RR p {T with I:=I,A:=A} m w3.drew F3):=λA I w3 F3 h3=>h3.fr0 S ((Fr.refl NoF _).drew)
 have hxpm:(T.f k).pins<900000:=by have:=hbf.2.2;omega
 have HTF:=Hd hTF;clear hTF;generalize hxi:(T.f k).id=xi at*;generalize hxv:(T.f k).val=xv at*;generalize hxp:(T.f k).pins=xp at*;generalize hxd:(T.f k).dirty=xd at*;have B4:=Hd b4;generalize hw2:(w.alloc (.cells #[.int .i64 k] 3))=w2 at*;unfold PP.ptr at*;clear H H1 ho hlt b4 h0 okA S hbf hxi hxv hxp hxd hu;go_enter func81,ntmps81
 go_wp2_with fail
 try rw[hw2]
 clear hw2;have fN:Fr NoF w2 (w2.alloc (.cells #[.int .u32 0] 42)):=(Fr.refl NoF w2).alloc _;have d2:(w2.alloc (.cells #[.int .u32 0] 42)).cell? ⟨p.pb,2,none⟩=some (.slice (some ⟨p.fb,0,none⟩) p.n p.n):=by rw[fN.cell (p:=⟨p.pb,2,none⟩) lb id];exact c2
 have d0:(w2.alloc (.cells #[.int .u32 0] 42)).cell? ⟨p.fb,k*4,none⟩=some (.int .u32 xi):=by rw[fN.cell (p:=⟨p.fb,k*4,none⟩) lf id];exact e0
 have d1:(w2.alloc (.cells #[.int .u32 0] 42)).cell? ⟨w.heap.size,0,none⟩=some (.int .i64 k):=by rw[fN.cell (p:=⟨w.heap.size,0,none⟩) (by show w.heap.size<_;omega) id];exact b1
 have dl:=ar w2 (.cells #[.int .u32 0] 42);clear fN
 go_region
 all_goals
  go_wp2_with fail
  clear d0 d1 d2 dl;have fA:Fr NoF w2 (w2.alloc (.cells #[.int .u32 xi] 42)).drew:=((Fr.refl NoF w2).alloc _).drew;have gA:Fr NoF w (w2.alloc (.cells #[.int .u32 xi] 42)).drew:=B4.out.trans fA (λ_ q=>q.elim);have x1:(w2.alloc (.cells #[.int .u32 xi] 42)).drew.cell? ⟨w.heap.size,0,none⟩=some (.int .i64 k):=by rw[fA.cell (p:=⟨w.heap.size,0,none⟩) (by show w.heap.size<_;omega) id];exact b1
  have x2:(w2.alloc (.cells #[.int .u32 xi] 42)).drew.cell? ⟨w.heap.size+1,0,none⟩=some (.int .u32 xi):=by
   have:=((tj w2 (.int .u32 xi) 42).drew).cell (i:=0) (by omega);rw[b3]at this;exact this
  have x3:(w2.alloc (.cells #[.int .u32 xi] 42)).drew.heap.size=w2.heap.size+1:=ar w2 _;generalize(w2.alloc (.cells #[.int .u32 xi] 42)).drew=wA at fA gA x1 x2 x3⊢;have KC:=Hd (KT1.out wA gA x1 x2 (by omega));have GA:=Hd gA;clear KT1 fA gA x2;refine KC.out.mono ?_;clear KC;rintro e w3⟨rfl,F3,h3,g3,q3⟩;obtain⟨y1,y2,y3,y4,y5⟩:=KX.out w3 F3 _ _ h3;have y6:w3.cell? ⟨w.heap.size,0,none⟩=some (.int .i64 k):=by rw[g3.cell (p:=⟨w.heap.size,0,none⟩) (by show w.heap.size<_;omega) hnF1];exact x1
  have y7:=g3.size;have H3:=Hd h3;have G3:=Hd g3;have Q3:=Hd q3;have n3:¬F3 w.heap.size:=λq=>(q3 _ q).elim hnF1 (λq=>by omega)
  clear h3 g3 q3 x1 c2 e0 e1 e2 e3 lb lf
  go_wp2_with fail
  rcases HTF.out with⟨hp,rfl⟩|⟨hp,rfl⟩
  .have hpI:(xp:Int)=0:=by omega
   clear hp HTF;rw[hpI]at y2
   go_region
   all_goals
    go_wp2_with fail
    have y6d:w3.drew.cell? ⟨w.heap.size,0,none⟩=some (.int .i64 k):=y6;have y4d:p.pb<w3.drew.heap.size:=y4;have y7d:w2.heap.size+1<=w3.drew.heap.size:=by have:w3.drew.heap.size=w3.heap.size:=rfl;omega
    have H3d:=Hd (HS.out _ _ _ _ H3.out);have fD:Fr F3 w3 w3.drew:=(Fr.refl _ w3).drew;have FD:=Hd fD;generalize w3.drew=w3d at y6d y4d y7d H3d FD⊢;clear fD y1 y2 y3 y4 y5 y6
    go_still_tail 4,(by kernel_rfl)
    go_wp2_with fail
    refine(KD.out _ F3 (HS.out _ _ _ _ H3d.out)).mono ?_;rintro e w4⟨rfl,F4,h4,g4,q4⟩;obtain⟨z1,z2,z3,z4,z5⟩:=KX.out w4 F4 _ _ h4;have z6:w4.cell? ⟨w.heap.size,0,none⟩=some (.int .i64 k):=by rw[g4.cell (p:=⟨w.heap.size,0,none⟩) (by show w.heap.size<w3d.heap.size;omega) n3];exact y6d
    have z7:=g4.size;have z8:w.heap.size<w4.heap.size:=Nat.lt_of_lt_of_le (by show w.heap.size<w3d.heap.size;omega) z7;have H4:=Hd h4;have G4:=Hd g4;have Q4:=Hd q4;have n4:¬F4 w.heap.size:=λq=>(q4 _ q).elim n3 (λq=>by have:w3d.heap.size<=w.heap.size:=q;omega)
    clear h4 g4 q4
    go_wp2_with fail
    refine(KT2.out w4 F4 H4.out z6 z8 n4).mono ?_;rintro e w5⟨rfl,F5,h5,g5,q5⟩;obtain⟨u1,u2,u3,u4,u5⟩:=KX.out w5 F5 _ _ h5;have u6:w5.cell? ⟨w.heap.size,0,none⟩=some (.int .i64 k):=by rw[g5.cell (p:=⟨w.heap.size,0,none⟩) z8 n4];exact z6
    have H5:=Hd h5;have G5:=Hd g5;have Q5:=Hd q5;clear h5 g5 q5 z1 z2 z3 z4 z5 z6;have hcw:IntKind.i64.wrap ((xp:Int)+1)=(xp:Int)+1:=IntWalk.i64_in _ (by omega)
    go_wp2_with fail
    go_region
    all_goals
     go_wp2;go_returns;refine⟨rfl,Led.trans (GA.out.mono (λ_ q=>q.elim)) (λi q=>.inl q) (Led.trans G3.out Q3.out (Led.trans (FD.out.trans (((Fr.refl _ w3d).drew).trans G4.out (λi q=>.inl q)) (λi q=>.inl q)) (λi q=>(Q4.out i q).imp id (λq=>by have:w3d.heap.size<=i:=q;have:=FD.out.size;omega)) (Led.trans G5.out Q5.out (KP.out w5 F5 _ _ _ H5.out ?_))))⟩
     first|rfl|omega|simp
  .have hpI:((xp:Int)==0)=false:=by simp<;>exact hp
   clear hp HTF
   go_region
   all_goals
    go_wp2_with fail
    have hcw:IntKind.i64.wrap ((xp:Int)+1)=(xp:Int)+1:=IntWalk.i64_in _ (by omega);have H3d:=Hd (HS.out _ _ _ _ H3.out);have FD:Hid (Fr F3 w3 w3.drew):=(Fr.refl _ w3).drew;obtain⟨v1,v2,v3,v4,v5⟩:=KX.out w3.drew F3 _ _ H3d.out;have v6:w3.drew.cell? ⟨w.heap.size,0,none⟩=some (.int .i64 k):=y6;generalize w3.drew=w3d at v1 v2 v3 v4 v5 v6 H3d FD⊢;clear y1 y2 y3 y4 y5 y6
    go_region
    all_goals
     go_wp2;go_returns;refine⟨rfl,Led.trans (GA.out.mono (λ_ q=>q.elim)) (λi q=>.inl q) (Led.trans G3.out Q3.out (Led.trans FD.out (λi q=>.inl q) (KP.out w3d F3 _ _ _ H3d.out ?_)))⟩
     first|rfl|omega|simp
theorem uD(H:PI RR p T m w F)(hm:m<80000){k:Nat}(hk:k<p.n)(h1:1<=(T.f k).id){pg:Nat->Nat}{ev:Nat->Bool}(ho:ok m T.A pg ev)(h0:pg k=(T.f k).id)(hp:(T.f k).pins=0):Calls prog 81 #[p.ptr,.int .i64 k] w λe w'=>e=.returned (.tuple #[])/\
  Led (PI RR p {T with f:=upd T.f k {T.f k with pins:=(T.f k).pins+1},I:=ao T.I k false,A:=P.set (P.access T.A k (T.f k).id) k false} (m+2)) F w w':=m6 S H hm hk h1 ho h0 (.inl ⟨hp,rfl⟩)
theorem rZ(H:PI RR p T m w F)(hm:m<80000){k:Nat}(hk:k<p.n)(h1:1<=(T.f k).id){pg:Nat->Nat}{ev:Nat->Bool}(ho:ok m T.A pg ev)(h0:pg k=(T.f k).id)(hp:¬(T.f k).pins=0)(hpm:(T.f k).pins<m):Calls prog 81 #[p.ptr,.int .i64 k] w λe w'=>e=.returned (.tuple #[])/\
  Led (PI RR p {T with f:=upd T.f k {T.f k with pins:=(T.f k).pins+1},A:=P.access T.A k (T.f k).id} (m+2)) F w w':=m6 S H hm hk h1 ho h0 (.inr ⟨hp,rfl⟩)
end
section
variable{τ:Type}{P:Adv τ}{RR:World->τ->(Nat->Prop)->Prop}{ok:Nat->τ->(Nat->Nat)->(Nat->Bool)->Prop}{p:PP}(S:aJ P RR p.pb p.rv p.n ok){w w':World}{T:PT τ}{m:Nat}{F:Nat->Prop}
include S
theorem yC(H:PI RR p T m w F)(hm:m<80000){id:Nat}(h1:1<=id)(hu:id<4294967296){pg:Nat->Nat}{ev:Nat->Bool}(ho:ok m T.A pg ev)(hno:∀i,i<p.n->¬pg i=id)(hex:∃x,bk p.n pg ev x)(hv:P.victim T.A id=none):Calls prog 123 #[p.ptr,.int .u32 id] w λe w'=>(∃x:Int,e=.returned (.tuple #[.int .i64 x,.bool false]))/\
  Led (PI RR p {T with A:=P.aft T.A id} m) F w w':=H.told S (Q:=λe _=>∃x:Int,e=.returned (.tuple #[.int .i64 x,.bool false])) (λFR hr hF hp=>by
   have:=S.ask (pb:=p.pb) hr ho (by omega) h1 hu hno hex (H.me.ce 1 (by omega)) H.me.hd.lt hp;rw[hv]at this;exact this)
theorem rH(H:PI RR p T m w F)(hm:m<80000){id a:Nat}(h1:1<=id)(hu:id<4294967296){pg:Nat->Nat}{ev:Nat->Bool}(ho:ok m T.A pg ev)(hno:∀i,i<p.n->¬pg i=id)(hex:∃x,bk p.n pg ev x)(hv:P.victim T.A id=some a):Calls prog 123 #[p.ptr,.int .u32 id] w λe w'=>e=.returned (.tuple #[.int .i64 a,.bool true])/\
  Led (PI RR p {T with A:=P.aft T.A id} m) F w w':=H.told S (Q:=λe _=>e=.returned (.tuple #[.int .i64 a,.bool true])) (λFR hr hF hp=>by
   have:=S.ask (pb:=p.pb) hr ho (by omega) h1 hu hno hex (H.me.ce 1 (by omega)) H.me.hd.lt hp;rw[hv]at this;exact this)
theorem tY(H:PI RR p T m w F)(hm:m<80000){id a:Nat}(h1:1<=id)(hu:id<4294967296){pg:Nat->Nat}{ev:Nat->Bool}(ho:ok m T.A pg ev)(hno:∀i,i<p.n->¬pg i=id)(hex:∃x,bk p.n pg ev x)(hv:P.victim T.A id=some a)(hI:T.I a=true):Calls prog 99 #[p.ptr,.int .u32 id] w λe w'=>e=.returned (.int .i64 a)/\
  Led (PI RR p {T with A:=P.aft T.A id} m) F w w':=by
 have HA:=Hd (rH S H hm h1 hu ho hno hex hv)
 have KH:Hid (∀w1 F1,PI RR p {T with A:=P.aft T.A id} m w1 F1->∀(t:TypeId) d,Calls prog 95 #[.pointer (some ⟨p.pb,7,none⟩),.int .i64 a] ((w1.alloc (.cells #[.int .i64 a] t)).drewN d) λe w'=>e=.returned (.bool true)/\((w1.alloc (.cells #[.int .i64 a] t)).drewN d)=w'):=λw1 F1 h t d=>by
  have:=vQ (h.fr0 S (((Fr.refl NoF w1).alloc (.cells #[.int .i64 a] t)).drewN d)).me (a:Int)
  dsimp only at this
  rw[show gQ T.I (a:Int)=true from by unfold gQ;rw[if_neg (by omega)];exact hI]at this;exact this
 have KL:Hid (∀w1 F1,PI RR p {T with A:=P.aft T.A id} m w1 F1->p.pb<w1.heap.size):=λw1 F1 h=>h.me.hd.lt
 have KF:Hid (∀w1 F1,PI RR p {T with A:=P.aft T.A id} m w1 F1->∀(t:TypeId) d,PI RR p {T with A:=P.aft T.A id} m ((w1.alloc (.cells #[.int .i64 a] t)).drewN d) F1):=λw1 F1 h t d=>h.fr0 S (((Fr.refl NoF w1).alloc _).drewN d)
 unfold PP.ptr at*;clear H S ho hno hex hv hI hu;go_enter func99,ntmps99
 go_wp2_with fail
 refine HA.out.mono ?_;rintro e w1⟨rfl,F1,hp1,g1,q1⟩;have lb:=KL.out w1 F1 hp1;have HH:=Hd (KH.out w1 F1 hp1);have HP1:=Hd hp1;have G1:=Hd g1;have Q1:=Hd q1;clear hp1 g1 q1
 go_wp2_with fail
 obtain⟨x1,x2,x3⟩:=oV w1 (.int .i64 a) 3;have xl:p.pb<(w1.alloc (.cells #[.int .i64 a] 3)).heap.size:=by omega
 go_quiet ((go_at_call 95;exact qs (HH.out _ _)))
 go_wp2;go_returns;exact⟨rfl,F1,KF.out w1 F1 HP1.out _ _,G1.out.trans (((Fr.refl _ w1).alloc _).drewN _) (λi q=>.inl q),Q1.out⟩
theorem yB(H:PI RR p T m w F)(hm:m<80000){id x0:Nat}(h1:1<=id)(hu:id<4294967296){pg:Nat->Nat}{ev:Nat->Bool}(ho:ok m T.A pg ev)(hno:∀i,i<p.n->¬pg i=id)(hg:bk p.n pg ev x0)(hgI:∀x,T.I x=true->bk p.n pg ev x)(hgJ:∀x,bk p.n pg ev x->T.I x=true)(hv:∀a,P.victim T.A id=some a->T.I a=false)(hx0:aT T.I x0):Calls prog 99 #[p.ptr,.int .u32 id] w λe w'=>e=.returned (.int .i64 x0)/\
  Led (PI RR p {T with A:=P.remove (P.aft T.A id) x0,sc:=T.sc+1} (m+1)) F w w':=by
 have okN:=S.okNo ho (by omega) h1 hno (λa ha q=>by have:=hv a ha;rw[hgJ a q]at this;cases this)
 have HA:Hid (∃b:Bool,Calls prog 123 #[p.ptr,.int .u32 id] w λe w'=>(∃x:Int,e=.returned (.tuple #[.int .i64 x,.bool b])/\(b=true->gQ T.I x=false))/\Led (PI RR p {T with A:=P.aft T.A id} m) F w w'):=by
  cases hva:P.victim T.A id with
  |none=>
   refine⟨false,(yC S H hm h1 hu ho hno ⟨x0,hg⟩ hva).mono ?_⟩;rintro e w'⟨⟨x,he⟩,h⟩;exact⟨⟨x,he,λq=>by cases q⟩,h⟩
  |some a=>
   refine⟨true,(rH S H hm h1 hu ho hno ⟨x0,hg⟩ hva).mono ?_⟩;rintro e w'⟨he,h⟩;exact⟨⟨a,he,λq=>by unfold gQ;rw[if_neg (by omega)];exact hv a hva⟩,h⟩
 have KH:Hid (∀w1 F1 (x:Int),PI RR p {T with A:=P.aft T.A id} m w1 F1->gQ T.I x=false->∀(t:TypeId) d,Calls prog 95 #[.pointer (some ⟨p.pb,7,none⟩),.int .i64 x] ((w1.alloc (.cells #[.int .i64 x] t)).drewN d) λe w'=>e=.returned (.bool false)/\((w1.alloc (.cells #[.int .i64 x] t)).drewN d)=w'):=λw1 F1 x h hx t d=>by
  have:=vQ (h.fr0 S (((Fr.refl NoF w1).alloc (.cells #[.int .i64 x] t)).drewN d)).me x
  dsimp only at this
  rw[hx]at this;exact this
 have KS:Hid (∀w1 wq F1,PI RR p {T with A:=P.aft T.A id} m w1 F1->Fr NoF w1 wq->PI RR p {T with A:=P.aft T.A id,sc:=T.sc+1} (m+1) (wq.setCell ⟨p.pb,10,none⟩ (.int .i64 ((T.sc:Int)+1))) F1/\Fr F1 w1 (wq.setCell ⟨p.pb,10,none⟩ (.int .i64 ((T.sc:Int)+1)))/\Fr p.own wq (wq.setCell ⟨p.pb,10,none⟩ (.int .i64 ((T.sc:Int)+1)))):=λw1 wq F1 h0 f0=>by
  have h:=h0.fr0 S f0;obtain⟨q1,q2⟩:=h.me.scan (x:=T.sc+1) (m':=m+1) (by have q0:T.sc<=m:=h.me.bd.1;omega) (by omega);obtain⟨FD,FR,H,hF⟩:=h;have g:Fr p.own wq (wq.setCell ⟨p.pb,10,none⟩ (.int .i64 ((T.sc:Int)+1))):=q2.mono (λi q=>.inl q);exact⟨⟨FD,FR,⟨q1,(H.cd.fr g (λi q k=>(H.s1 i k).1 q)).more (by omega),S.fr H.rr g (λi q k=>(H.s1 i k).2 q),H.s1,H.s2,H.t1⟩,hF⟩,(f0.mono (λ_ q=>q.elim)).trans g (λi q=>.inl ((hF i).2 (.inl q))),g⟩
 have KL:Hid (∀w1 F1 (A:τ) (sc k:Nat),PI RR p {T with A:=A,sc:=sc} k w1 F1->p.pb<w1.heap.size/\w1.cell? ⟨p.pb,10,none⟩=some (.int .i64 sc)/\w1.frozen? ⟨p.pb,10,none⟩=false/\∀i,F1 i->i<w1.heap.size):=λw1 F1 A sc k h=>⟨h.me.hd.lt,h.me.ce 10 (by omega),h.me.hd.frozen 10,h.lt S⟩
 have KN:Hid (∀w1 w2 F1 (A:τ) (sc k:Nat),PI RR p {T with A:=A,sc:=sc} k w1 F1->Fr NoF w1 w2->PI RR p {T with A:=A,sc:=sc} k w2 F1):=λw1 w2 F1 A sc k h g=>h.fr0 S g
 have KW:Hid (∀w1 w2 F1 b (A:τ) (sc k:Nat),PI RR p {T with A:=A,sc:=sc} k w1 F1->Fr (λi=>i=b) w1 w2->¬F1 b->¬b=0->PI RR p {T with A:=A,sc:=sc} k w2 F1):=λw1 w2 F1 b A sc k h g q q2=>h.fro S g (λi q3 q4=>q (q4▸q3)) (λq3=>q2 q3.symm)
 have KT:Hid (∀w1 F1,PI RR p {T with A:=P.aft T.A id,sc:=T.sc+1} (m+1) w1 F1->0<w1.heap.size):=λw1 F1 h=>h.me.tab.lt
 have KI:Hid (∀w1 F1,PI RR p {T with A:=P.aft T.A id,sc:=T.sc+1} (m+1) w1 F1->Calls prog 90 #[.pointer (some ⟨p.pb,7,none⟩)] w1 λe w'=>e=.returned (.int .i64 x0)/\w1=w'):=λw1 F1 h=>by
  refine(yg h.me).mono ?_;rintro e w'⟨rfl,⟨_,q,_⟩|⟨x,hx,hl,he⟩⟩
  .have hq:T.I x0=false:=q x0
   rw[hx0.1]at hq;cases hq
  .have l1:T.I x=true:=hl.1
   have l2:∀y,y<x->T.I y=false:=hl.2
   have e:x=x0:=by
    rcases Nat.lt_trichotomy x x0 with q|q|q
    .have:=hx0.2 x q;rw[l1]at this;cases this
    .exact q
    .have:=l2 x0 q;rw[hx0.1]at this;cases this
   rw[e]at he;exact⟨he,rfl⟩
 have KX:Hid (∀w3 F3 b,PI RR p {T with A:=P.aft T.A id,sc:=T.sc+1} (m+1) w3 F3->w3.cell? ⟨b,0,none⟩=some (.int .i64 x0)->b<w3.heap.size->¬F3 b->
  Calls prog 84 #[p.ptr,.func (.func 124) #[] #[.pointer (some ⟨b,0,none⟩)]] w3 λe w'=>e=.returned (.tuple #[])/\Led (PI RR p {T with A:=P.remove (P.aft T.A id) x0,sc:=T.sc+1} (m+1)) F3 w3 w'):=
  λw3 F3 b h3 q1 q2 q3=>h3.tell1 S ER (λFR hr hF=>S.rem hr okN (by omega) hg.1 hg.2.1 q1 q2 (λq=>q3 (hF _ q)) (.inl rfl))
 have hsc:T.sc<900000:=by have:=H.me.bd.1;omega
 unfold PP.ptr at*;clear H S ho hno hv hgI hgJ hg hx0 hu okN;go_enter func99,ntmps99
 go_wp2_with fail
 obtain⟨b,HC⟩:=HA.out;refine HC.mono ?_;clear HC HA;rintro e w1⟨⟨z,rfl,hz⟩,F1,hp1,g1,q1⟩;obtain⟨lb,y1,y2,y3⟩:=KL.out w1 F1 _ _ _ hp1;have nF1:¬F1 w1.heap.size:=λq=>by have:=y3 _ q;omega
 clear y3;have HP1:=Hd hp1;have G1:=Hd g1;have Q1:=Hd q1;clear hp1 g1 q1;obtain⟨x1,x2,x3⟩:=oV w1 (.int .i64 z) 3;have X3:=Hd x3;have x4:(w1.alloc (.cells #[.int .i64 z] 3)).cell? ⟨p.pb,10,none⟩=some (.int .i64 T.sc):=by rw[x3.cell (p:=⟨p.pb,10,none⟩) lb (λq=>q)];exact y1
 have xl:p.pb<(w1.alloc (.cells #[.int .i64 z] 3)).heap.size:=by omega
 have x5:(w1.alloc (.cells #[.int .i64 z] 3)).frozen? ⟨p.pb,10,none⟩=false:=by rw[x3.frozen (p:=⟨p.pb,10,none⟩) lb (λq=>q)];exact y2
 clear x3 y1 y2;have hcw:IntKind.i64.wrap ((T.sc:Int)+1)=(T.sc:Int)+1:=IntWalk.i64_in _ (by omega)
 have KY:Hid (∀wq,Fr NoF (w1.alloc (.cells #[.int .i64 z] 3)) wq->∀ws,ws=wq.setCell ⟨p.pb,10,none⟩ (.int .i64 ((T.sc:Int)+1))->ws.cell? ⟨w1.heap.size,0,none⟩=some (.int .i64 z)/\ws.frozen? ⟨w1.heap.size,0,none⟩=false/\w1.heap.size<ws.heap.size/\p.pb<ws.heap.size/\
   Calls prog 84 #[.pointer (some ⟨p.pb,0,none⟩),.func (.func 124) #[] #[.pointer (some ⟨w1.heap.size,0,none⟩)]] (ws.setCell ⟨w1.heap.size,0,none⟩ (.int .i64 x0)) λe w'=>e=.returned (.tuple #[])/\w'.cell? ⟨w1.heap.size,0,none⟩=some (.int .i64 x0)/\Led (PI RR p {T with A:=P.remove (P.aft T.A id) x0,sc:=T.sc+1} (m+1)) F w w'):=λwq hq ws hs=>by
  obtain⟨s1,s2,s3⟩:=KS.out w1 wq F1 HP1.out (((Fr.refl NoF w1).alloc _).trans hq (λ_ q=>q.elim));rw[<-hs]at s1 s2 s3;have hpb:¬p.own w1.heap.size:=λq=>nF1 (HP1.out.own _ q)
  have gB:Blk ws w1.heap.size 1 (λ_=>.int .i64 z):=((tj w1 (.int .i64 z) 3).fr hq (λq=>q)).fr s3 hpb;have gs:Fr (λi=>i=w1.heap.size) ws (ws.setCell ⟨w1.heap.size,0,none⟩ (.int .i64 x0)):=(Fr.refl (λi=>i=w1.heap.size) ws).setCell (p:=⟨w1.heap.size,0,none⟩) (.inl rfl) _
  have gB2:Blk (ws.setCell ⟨w1.heap.size,0,none⟩ (.int .i64 x0)) w1.heap.size 1 (λ_=>.int .i64 x0):=(gB.set 0 _).congr (λi hi=>by
   obtain rfl:i=0:=by omega
   rw[upd_same])
  have hp2:=KW.out _ _ _ _ _ _ _ s1 gs nF1 (λe=>by have h9:0<w1.heap.size:=HP1.out.me.tab.lt;omega);refine⟨gB.cell (by omega),gB.frozen 0,gB.lt,s1.me.hd.lt,(KX.out _ F1 _ hp2 (gB2.cell (by omega)) gB2.lt nF1).mono ?_⟩;rintro e w'⟨he,hl⟩;refine⟨he,?_,Led.trans G1.out Q1.out (Led.trans (F1:=F1) (s2.trans gs (λi q=>.inr (by rw[q];exact Nat.le_refl _))) (λi q=>.inl q) hl)⟩;obtain⟨F2,h2,g2,q2⟩:=hl;rw[g2.cell (p:=⟨w1.heap.size,0,none⟩) gB2.lt nF1];exact gB2.cell (by omega)
 have KZ:Hid (∀wq,Fr NoF (w1.alloc (.cells #[.int .i64 z] 3)) wq->∀ws,ws=wq.setCell ⟨p.pb,10,none⟩ (.int .i64 ((T.sc:Int)+1))->Calls prog 90 #[.pointer (some ⟨p.pb,7,none⟩)] ws λe w'=>e=.returned (.int .i64 x0)/\w'.cell? ⟨w1.heap.size,0,none⟩=some (.int .i64 z)/\w'.frozen? ⟨w1.heap.size,0,none⟩=false/\w1.heap.size<w'.heap.size/\p.pb<w'.heap.size/\Calls prog 84 #[.pointer (some ⟨p.pb,0,none⟩),.func (.func 124) #[] #[.pointer (some ⟨w1.heap.size,0,none⟩)]] (w'.setCell ⟨w1.heap.size,0,none⟩ (.int .i64 x0)) λe w'=>e=.returned (.tuple #[])/\w'.cell? ⟨w1.heap.size,0,none⟩=some (.int .i64 x0)/\Led (PI RR p {T with A:=P.remove (P.aft T.A id) x0,sc:=T.sc+1} (m+1)) F w w'):=λwq hq ws hs=>by
  have K0:=KY.out wq hq ws hs;subst hs;refine(KI.out _ _ (KS.out w1 wq F1 HP1.out (((Fr.refl NoF w1).alloc _).trans hq (λ_ q=>q.elim))).1).mono ?_;rintro e w'⟨he,rfl⟩;exact⟨he,K0⟩
 clear KX KI KT KW KN KS KY
 cases b with
 |false=>
  go_wp2_with fail
  go_quiet (fail)
  go_wp2_with fail
  refine(KZ.out _ ((Fr.refl NoF _).drewN _) _ rfl).mono ?_;rintro e w2⟨rfl,u1,u2,u3,u5,u4⟩;have U4:=Hd u4;clear u4
  go_wp2_with fail
  refine U4.out.mono ?_;rintro e w4⟨rfl,v1,v2⟩;have V2:=Hd v2;clear v2;go_wp2;go_returns;exact⟨rfl,V2.out⟩
 |true=>
  have HH:=Hd (KH.out w1 F1 z HP1.out (hz rfl))
  go_wp2_with fail
  go_quiet ((go_at_call 95;exact qs (HH.out _ _)))
  go_wp2_with fail
  refine(KZ.out _ ((Fr.refl NoF _).drewN _) _ rfl).mono ?_;rintro e w2⟨rfl,u1,u2,u3,u5,u4⟩;have U4:=Hd u4;clear u4
  go_wp2_with fail
  refine U4.out.mono ?_;rintro e w4⟨rfl,v1,v2⟩;have V2:=Hd v2;clear v2;go_wp2;go_returns;exact⟨rfl,V2.out⟩
end
def fstB(n:Nat)(I:Nat->Bool):Option Nat:=(List.range n).find? I
theorem aS{n x:Nat}{I:Nat->Bool}(h:fstB n I=some x):x<n/\aT I x:=by
 unfold fstB at h;obtain⟨h1,l1,l2,h2,h3⟩:=List.find?_eq_some_iff_append.1 h;have hl:(List.range n).length=n:=List.length_range;have hx:(List.range n)[l1.length]?=some x:=by rw[h2];simp
 have hlt:l1.length<n:=by
  rw[<-hl,h2];simp
 rw[List.getElem?_range hlt]at hx;obtain rfl:l1.length=x:=by simpa using hx
 refine⟨hlt,h1,λy hy=>?_⟩;have hy2:(List.range n)[y]?=some y:=List.getElem?_range (by omega);rw[h2,List.getElem?_append_left hy]at hy2;have:=h3 y (List.mem_of_getElem? hy2);simpa using this
theorem bM{n:Nat}{I:Nat->Bool}(h:fstB n I=none):∀x,x<n->I x=false:=by
 unfold fstB at h;intro x hx;have:=List.find?_eq_none.1 h x (List.mem_range.2 hx);simpa using this
theorem oX{n x:Nat}{I:Nat->Bool}(hx:x<n)(h:aT I x):fstB n I=some x:=by
 cases e:fstB n I with
 |none=>have:=bM e x hx;rw[h.1]at this;cases this
 |some y=>
  obtain⟨h1,h2⟩:=aS e;rcases Nat.lt_trichotomy x y with q|q|q
  .have:=h2.2 x q;rw[h.1]at this;cases this
  .rw[q]
  .have:=h.2 y q;rw[h2.1]at this;cases this
def hY{τ:Type}(P:Adv τ)(n:Nat)(A:τ)(I:Nat->Bool)(id:Nat):Nat×τ×Nat:=
 match P.victim A id with
 |none=>((fstB n I).getD 0,P.remove (P.aft A id) ((fstB n I).getD 0),1)
 |some a=>if I a=true then(a,P.aft A id,0)else((fstB n I).getD 0,P.remove (P.aft A id) ((fstB n I).getD 0),1)
section
variable{τ:Type}{P:Adv τ}{RR:World->τ->(Nat->Prop)->Prop}{ok:Nat->τ->(Nat->Nat)->(Nat->Bool)->Prop}{p:PP}(S:aJ P RR p.pb p.rv p.n ok){w w':World}{T:PT τ}{m:Nat}{F:Nat->Prop}
theorem i4{n:Nat}{A:τ}{I:Nat->Bool}{id a:Nat}(h:P.victim A id=some a)(hI:I a=true):hY P n A I id=(a,P.aft A id,0):=by unfold hY;rw[h];simp[hI]
theorem oM{n:Nat}{A:τ}{I:Nat->Bool}{id x:Nat}(h:∀a,P.victim A id=some a->I a=false)(hx:fstB n I=some x):hY P n A I id=(x,P.remove (P.aft A id) x,1):=by
 unfold hY;rw[hx]
 cases e:P.victim A id with
 |none=>rfl
 |some a=>simp[h a e]
theorem vic_case(A:τ)(I:Nat->Bool)(id:Nat):(∃a,P.victim A id=some a/\I a=true)\/∀a,P.victim A id=some a->I a=false:=by
 cases e:P.victim A id with
 |none=>exact .inr (λa h=>by cases h)
 |some a=>
  cases h:I a with
  |true=>exact .inl ⟨a,rfl,h⟩
  |false=>exact .inr (λb hb=>by cases hb;exact h)
include S
theorem tM(H:PI RR p T m w F)(hm:m<80000){id v:Nat}(hu:id<4294967296):Calls prog 111 #[.pointer (some ⟨p.db,0,none⟩),.int .u32 id,.int .u64 v] w λe w'=>e=.returned (.int .i64 (T.D.write id v).1)/\Led (PI RR p {T with D:=(T.D.write id v).2} (m+1)) F w w':=
 H.disk S (Q:=λe _=>e=.returned (.int .i64 (T.D.write id v).1)) (Nat.le_succ m) (λFD hd=>AW hd (by omega) (by unfold aR;omega) v)
theorem jY(H:PI RR p T m w F){k:Nat}(hk:k<p.n)(hd:(T.f k).dirty=false):Calls prog 86 #[p.ptr,.int .i64 k] w λe w'=>e=.returned (.int .i64 0)/\Led (PI RR p T m) F w w':=by
 refine(Ar H.me hk hd).mono ?_;rintro e w'⟨he,rfl⟩;exact⟨he,Led.refl H⟩
theorem rE(H:PI RR p T m w F)(hm:m<80000){k:Nat}(hk:k<p.n)(hd:(T.f k).dirty=true):Calls prog 86 #[p.ptr,.int .i64 k] w λe w'=>e=.returned (.int .i64 (T.D.write (T.f k).id (T.f k).val).1)/\
  ∃w1,Led (PI RR p {T with D:=(T.D.write (T.f k).id (T.f k).val).2} (m+1)) F w w1/\(¬(T.D.write (T.f k).id (T.f k).val).1=0->w'=w1)/\((T.D.write (T.f k).id (T.f k).val).1=0->w'=w1.setCell ⟨p.fb,k*4+3,none⟩ (.bool false)):=
 qr (R:=λw1=>Led (PI RR p {T with D:=(T.D.write (T.f k).id (T.f k).val).2} (m+1)) F w w1) H.me hk hd (λw0 f0=>by
  refine(tM S (H.fr0 S f0) hm (H.me.bd.2 k).1).mono ?_;rintro e w'⟨he,hl⟩;exact⟨he,Led.trans (f0.mono (λ_ q=>q.elim)) (λi q=>.inl q) hl⟩) (λw1 ⟨F1,h,_⟩=>h.me)
theorem iy(H:PI RR p T m w F)(hm:m<80000){k:Nat}(hk:k<p.n)(hd:(T.f k).dirty=true)(he:¬(T.D.write (T.f k).id (T.f k).val).1=0):Calls prog 86 #[p.ptr,.int .i64 k] w λe w'=>e=.returned (.int .i64 (T.D.write (T.f k).id (T.f k).val).1)/\
  Led (PI RR p {T with D:=(T.D.write (T.f k).id (T.f k).val).2} (m+1)) F w w':=by
 refine(rE S H hm hk hd).mono ?_;rintro e w'⟨h0,w1,h1,h2,_⟩;rw[h2 he];exact⟨h0,h1⟩
theorem j4(H:PI RR p T m w F)(hm:m<80000){k:Nat}(hk:k<p.n)(hd:(T.f k).dirty=true)(he:(T.D.write (T.f k).id (T.f k).val).1=0):Calls prog 86 #[p.ptr,.int .i64 k] w λe w'=>e=.returned (.int .i64 0)/\
  Led (PI RR p {T with f:=upd T.f k {T.f k with dirty:=false},D:=(T.D.write (T.f k).id (T.f k).val).2} (m+1)) F w w':=by
 refine(rE S H hm hk hd).mono ?_;rintro e w'⟨h0,w1,⟨F1,h1,g1,q1⟩,_,h3⟩;rw[h3 he];rw[he]at h0;obtain⟨z1,z2⟩:=h1.me.put1 (m':=m+1) (j:=3) hk {T.f k with dirty:=false} (.bool false) (lT T.f k false) (Nat.le_refl _) (h1.me.bd.2 k);exact⟨h0,Led.trans g1 q1 (h1.set z1 (z2.mono (λi q=>.inr (.inl q))) (Nat.le_refl _) S)⟩
theorem nV(H:PI RR p T m w F)(hm:m<80000){k:Nat}(hk:k<p.n)(hE:T.E k=false):Calls prog 102 #[p.ptr,.int .i64 k] w λe w'=>e=.returned (.tuple #[])/\
  Led (PI RR p {T with f:=upd T.f k zF,pl:=bP T.pl (T.f k).id (some (-1)),E:=ao T.E k true,I:=ao T.I k false} (m+1)) F w w':=by
 refine(je H.me (by omega) hk hE).mono ?_;rintro e w'⟨he,h,g⟩;exact⟨he,H.set h g (by omega) S⟩
theorem eP(H:PI RR p T m w F)(hm:m<80000){id x0:Nat}(h1:1<=id)(hu:id<4294967296){pg:Nat->Nat}{ev:Nat->Bool}(ho:ok m T.A pg ev)(hno:∀i,i<p.n->¬pg i=id)(hg:∀x,T.I x=true↔bk p.n pg ev x)(hx0:fstB p.n T.I=some x0):Calls prog 99 #[p.ptr,.int .u32 id] w λe w'=>e=.returned (.int .i64 (hY P p.n T.A T.I id).1)/\
  Led (PI RR p {T with A:=(hY P p.n T.A T.I id).2.1,sc:=T.sc+(hY P p.n T.A T.I id).2.2} (m+1)) F w w':=by
 obtain⟨h2,h3⟩:=aS hx0;rcases vic_case (P:=P) T.A T.I id with⟨a,ha,hI⟩|hv
 .rw[i4 ha hI]
  refine(tY S H hm h1 hu ho hno ⟨x0,(hg x0).1 h3.1⟩ ha hI).mono ?_;rintro e w'⟨he,hl⟩;exact⟨he,hl.mono (λF' h=>h.more (by omega))⟩
 .rw[oM hv hx0]
  exact yB S H hm h1 hu ho hno ((hg x0).1 h3.1) (λx q=>(hg x).1 q) (λx q=>(hg x).2 q) hv h3
theorem gj{A:τ}{I:Nat->Bool}{id x0:Nat}{pg:Nat->Nat}{ev:Nat->Bool}(hg:∀x,I x=true↔bk p.n pg ev x)(hx0:fstB p.n I=some x0):bk p.n pg ev (hY P p.n A I id).1:=by
 obtain⟨h2,h3⟩:=aS hx0;rcases vic_case (P:=P) A I id with⟨a,ha,hI⟩|hv
 .rw[i4 ha hI];exact(hg a).1 hI
 .rw[oM hv hx0];exact(hg x0).1 h3.1
theorem As{A:τ}{I:Nat->Bool}{id x0:Nat}{pg:Nat->Nat}{ev:Nat->Bool}(hm:m<80000)(h1:1<=id)(ho:ok m A pg ev)(hno:∀i,i<p.n->¬pg i=id)(hg:∀x,I x=true↔bk p.n pg ev x)(hx0:fstB p.n I=some x0):
  ok (m+2) (hY P p.n A I id).2.1 (upd pg (hY P p.n A I id).1 0) (upd ev (hY P p.n A I id).1 false):=by
 obtain⟨h2,h3⟩:=aS hx0;rcases vic_case (P:=P) A I id with⟨a,ha,hI⟩|hv
 .rw[i4 ha hI]
  exact S.more (S.okYes ho (by omega) h1 hno ha ((hg a).1 hI)) (by omega)
 .rw[oM hv hx0]
  exact S.okRem (S.okNo ho (by omega) h1 hno (λa ha q=>by have:=hv a ha;rw[(hg a).2 q]at this;cases this)) (by omega) h2 ((hg x0).1 h3.1).2.1
end
end
end Go.Proofs.YtkjhnllcphidpaaGreatDoor
