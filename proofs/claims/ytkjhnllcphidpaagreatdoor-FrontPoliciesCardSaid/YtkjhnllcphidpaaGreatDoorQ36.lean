/- Part 36. -/
import Derived.Test.YtkjhnllcphidpaaGreatDoorQ35
namespace Go.Proofs.YtkjhnllcphidpaaGreatDoor
set_option linter.all false
set_option maxHeartbeats 16000000
set_option maxRecDepth 100000
section
open Go.Maps Go.Proofs.Tryz Go.RowKit
section
variable{τ:Type}{P:Adv τ}{RR:World->τ->(Nat->Prop)->Prop}{ok:Nat->τ->(Nat->Nat)->(Nat->Bool)->Prop}{p:PP}(S:aJ P RR p.pb p.rv p.n ok){w w':World}{m:Nat}{F:Nat->Prop}{X:PS τ}{T:PT τ}
theorem held_case{n:Nat}(H:Inv n X.f X.D)(id:Nat):((X.held n id).2=0/\(X.held n id).1<n/\plO n X.f X.D id=some ((X.held n id).1:Int)/\¬(X.f (X.held n id).1).pins=0/\(X.f (X.held n id).1).id=id/\1<=id/\X.D.has id=true/\frm n X.f id=some (X.held n id).1)\/(¬(X.held n id).2=0/\oH n X.f (plO n X.f X.D) id (X.held n id).2):=by
 unfold PS.held;by_cases hh:X.D.has id=true
 .rw[if_pos hh]
  cases hk:frm n X.f id with
  |none=>exact .inr ⟨by show¬5=0;omega,.inr (.inl ⟨eH hh hk,rfl⟩)⟩
  |some k=>
   obtain⟨h1,h2,h3⟩:=H.fpos hh hk
   dsimp only
   by_cases hp:(X.f k).pins=0
   .rw[if_pos hp]
    exact .inr ⟨by show¬5=0;omega,.inr (.inr ⟨k,h1,ec hh hk,hp,rfl⟩)⟩
   .rw[if_neg hp]
    exact .inl ⟨rfl,h1,ec hh hk,hp,h2,h3,hh,rfl⟩
 .rw[if_neg hh]
  exact .inr ⟨by show¬3=0;omega,.inl ⟨dV (by simpa using hh),rfl⟩⟩
include S
theorem GL(H:PW RR ok p X m w F){id e0:Nat}(hu:id<4294967296)(h0:¬e0=0)(hh:oH p.n X.f (plO p.n X.f X.D) id e0):Calls prog 44 #[p.ptr,.int .u32 id] w λe w'=>e=.returned (.int .i64 e0)/\Fr NoF w w':=by
 have HA:=Hd (kD H.1.me hu hh);have hne:(((e0:Nat):Int)==0)=false:=by simp<;>exact h0
 unfold PP.ptr at*;clear H S hh hu;go_enter func44,ntmps44
 go_wp2_with fail
 refine HA.out.mono ?_;rintro e w1⟨rfl,rfl⟩;go_wp2;go_returns;exact⟨rfl,(Fr.refl NoF w).alloc _⟩
theorem Ay(H:PW RR ok p X m w F)(hm:m<60000){id k:Nat}(hu:id<4294967296)(hk:k<p.n)(hpl:plO p.n X.f X.D id=some (k:Int))(hid:(X.f k).id=id)(h1:1<=id){XF:PS τ}
  (hXF:((X.f k).pins=1/\XF={X with f:=upd X.f k {X.f k with pins:=(X.f k).pins-1},A:=P.set X.A k true})\/(2<=(X.f k).pins/\XF={X with f:=upd X.f k {X.f k with pins:=(X.f k).pins-1}})):Calls prog 44 #[p.ptr,.int .u32 id] w λe w'=>e=.returned (.int .i64 0)/\
  Led (PW RR ok p XF (m+4)) F w w':=by
 have hp1:1<=(X.f k).pins:=by rcases hXF with⟨q,_⟩|⟨q,_⟩<;>omega
 have HA:=Hd (ji H.1.me hu hk hpl (by show¬(X.f k).pins=0;omega));obtain⟨b1,b3,b4⟩:=oV w (.int .i64 k) 3;have H1:=H.1.fr0 S b4;have lb:=H1.me.hd.lt;have lf:=H1.me.fr.lt;have hlt:=H.1.lt S;have c2:(w.alloc (.cells #[.int .i64 k] 3)).cell? ⟨p.pb,2,none⟩=some (.slice (some ⟨p.fb,0,none⟩) p.n p.n):=H1.me.ce 2 (by omega);have hn:=H.1.me.hn;obtain⟨e0,e1,e2,e3⟩:=H1.me.cf hk;have z2:=H1.me.fr.frozen (k*4+2);have hnF1:¬F w.heap.size:=λq=>by have:=hlt _ q;omega
 have hid0:¬(X.f k).id=0:=by omega
 have hbf:=H.1.me.bd.2 k
 have KP:Hid (∀z:Int,z=(((X.f k).pins-1:Nat):Int)->PI RR p {CT p.n X with f:=upd X.f k {X.f k with pins:=(X.f k).pins-1}} m ((w.alloc (.cells #[.int .i64 k] 3)).setCell ⟨p.fb,k*4+2,none⟩ (.int .i64 z)).drew F/\Fr F (w.alloc (.cells #[.int .i64 k] 3)) ((w.alloc (.cells #[.int .i64 k] 3)).setCell ⟨p.fb,k*4+2,none⟩ (.int .i64 z)).drew):=λz hz=>by
  subst hz;obtain⟨q1,q2⟩:=H1.me.put1 (m':=m) (j:=2) hk {X.f k with pins:=(X.f k).pins-1} (.int .i64 (((X.f k).pins-1:Nat):Int)) (qy X.f k _) (Nat.le_refl _) ⟨hbf.1,hbf.2.1,Nat.le_trans (Nat.sub_le _ _) hbf.2.2⟩;obtain⟨FD,FR,h,hF⟩:=H1;have g:Fr p.own (w.alloc (.cells #[.int .i64 k] 3)) ((w.alloc (.cells #[.int .i64 k] 3)).setCell ⟨p.fb,k*4+2,none⟩ (.int .i64 (((X.f k).pins-1:Nat):Int))).drew:=(q2.drew).mono (λi q=>.inr (.inl q));exact⟨⟨FD,FR,⟨q1.fr0 ((Fr.refl NoF _).drew),h.cd.fr g (λi q k=>(h.s1 i k).1 q),S.fr h.rr g (λi q k=>(h.s1 i k).2 q),h.s1,h.s2,h.t1⟩,hF⟩,g.mono (λi q=>(hF i).2 (.inl q))⟩
 have KX:Hid (∀w3 F3,PI RR p {CT p.n X with f:=upd X.f k {X.f k with pins:=(X.f k).pins-1}} m w3 F3->w3.cell? ⟨p.pb,2,none⟩=some (.slice (some ⟨p.fb,0,none⟩) p.n p.n)/\w3.cell? ⟨p.fb,k*4+2,none⟩=some (.int .i64 ((X.f k).pins-1:Nat))/\p.pb<w3.heap.size/\p.fb<w3.heap.size):=
  λw3 F3 h3=>⟨h3.me.ce 2 (by omega),by have:=(h3.me.cf hk).2.2.1;dsimp only at this;rw[upd_same]at this;exact this,h3.me.hd.lt,h3.me.fr.lt⟩
 have HS:Hid (∀w3 F3,PI RR p {CT p.n X with f:=upd X.f k {X.f k with pins:=(X.f k).pins-1}} m w3 F3->PI RR p {CT p.n X with f:=upd X.f k {X.f k with pins:=(X.f k).pins-1}} m w3.drew F3):=λw3 F3 h3=>h3.fr0 S ((Fr.refl NoF _).drew)
 have e1:plO p.n (upd X.f k {X.f k with pins:=(X.f k).pins-1}) X.D=plO p.n X.f X.D:=iK hk rfl
 have e2:emB p.n (upd X.f k {X.f k with pins:=(X.f k).pins-1})=emB p.n X.f:=by
  rw[dE hk];exact bC (dN hk)
 have hI:Inv p.n (upd X.f k {X.f k with pins:=(X.f k).pins-1}) X.D:=H.2.1.keep hk rfl hid0 (H.2.1.vf k hk)
 have KL:Hid (((X.f k).pins=1/\Hid (∀w3 F3,PI RR p {CT p.n X with f:=upd X.f k {X.f k with pins:=(X.f k).pins-1}} m w3 F3->Calls prog 73 #[.pointer (some ⟨p.pb,7,none⟩),.int .i64 k] w3 λe w'=>e=.returned (.tuple #[])/\Led (PI RR p {CT p.n X with f:=upd X.f k {X.f k with pins:=(X.f k).pins-1},I:=ao (idB p.n X.f) k true} m) F3 w3 w')/\
   Hid (∀w3 F3,PI RR p {CT p.n X with f:=upd X.f k {X.f k with pins:=(X.f k).pins-1},I:=ao (idB p.n X.f) k true} m w3 F3->w3.cell? ⟨w.heap.size,0,none⟩=some (.int .i64 k)->w.heap.size<w3.heap.size->¬F3 w.heap.size->Calls prog 84 #[p.ptr,.func (.func 85) #[] #[.pointer (some ⟨w.heap.size,0,none⟩)]] w3 λe w'=>e=.returned (.tuple #[])/\Led (PW RR ok p XF (m+4)) F3 w3 w'))\/
   (2<=(X.f k).pins/\Hid (∀w3 F3,PI RR p {CT p.n X with f:=upd X.f k {X.f k with pins:=(X.f k).pins-1}} m w3 F3->PW RR ok p XF (m+4) w3 F3))):=Hd (by
  rcases hXF with⟨hp,rfl⟩|⟨hp,rfl⟩
  .left
   have e3:idB p.n (upd X.f k {X.f k with pins:=(X.f k).pins-1})=ao (idB p.n X.f) k true:=by
    rw[da hk]
    congr 1
    simp[hid0,hp]
   have hI0:idB p.n X.f k=false:=by rw[dt hk];simp[hp]
   have okS:=S.okSet true H.2.2 (by omega) hk (show¬pgO X.f k=0 from hid0)
   have hE:ok (m+1) (P.set X.A k true) (pgO (upd X.f k {X.f k with pins:=(X.f k).pins-1})) (evO (upd X.f k {X.f k with pins:=(X.f k).pins-1})):=by
    refine S.same okS (λi hi=>?_) (λi hi _=>?_)
    .rw[dc]
     by_cases e:i=k
     .rw[e,upd_same];rfl
     .rw[ab _ _ e]
    .rw[cU]
     by_cases e:i=k
     .rw[e,upd_same,upd_same];simp[hp]
     .rw[ab _ _ e,ab _ _ e]
   refine⟨hp,λw3 F3 h3=>?_,λw3 F3 h3 q1 q2 q3=>?_⟩
   .refine(BV h3.me hk hI0).mono ?_
    rintro e w4⟨he,h4,g4⟩;exact⟨he,h3.set h4 g4 (Nat.le_refl _) S⟩
   .refine(h3.tell1 S EO (λFR hr hF=>S.setT hr H.2.2 (by omega) hk (show¬pgO X.f k=0 from hid0) q1 q2 (λq=>q3 (hF _ q)) (.inr rfl))).mono ?_
    rintro e w'⟨he,hl⟩;refine⟨he,hl.mono (λF' h'=>?_)⟩
    dsimp only[CT]at h'
    have hw:PW RR ok p {X with f:=upd X.f k {X.f k with pins:=(X.f k).pins-1},A:=P.set X.A k true} (m+1) w' F':=⟨by
     unfold CT
     dsimp only
     rw[e1,e2,e3];exact h'.more (by omega),hI,hE⟩
    exact hw.more S (by omega)
  .right
   have e3:idB p.n (upd X.f k {X.f k with pins:=(X.f k).pins-1})=idB p.n X.f:=by
    rw[da hk];refine bC ?_;rw[dt hk];have q1:¬(X.f k).pins=0:=by omega
    have q2:¬(X.f k).pins-1=0:=by omega
    simp[q1,q2]
   have hE:ok (m+1) X.A (pgO (upd X.f k {X.f k with pins:=(X.f k).pins-1})) (evO (upd X.f k {X.f k with pins:=(X.f k).pins-1})):=by
    refine S.same (S.more H.2.2 (Nat.le_succ m)) (λi hi=>?_) (λi hi _=>?_)
    .rw[dc]
     by_cases e:i=k
     .rw[e,upd_same];rfl
     .rw[ab _ _ e]
    .rw[cU]
     by_cases e:i=k
     .have q1:¬(X.f k).pins=0:=by omega
      have q2:¬(X.f k).pins-1=0:=by omega
      rw[e,upd_same];unfold evO;simp[q1,q2]
     .rw[ab _ _ e]
   refine⟨hp,λw3 F3 h'=>?_⟩
   dsimp only[CT]at h'
   have hw:PW RR ok p {X with f:=upd X.f k {X.f k with pins:=(X.f k).pins-1}} (m+1) w3 F3:=⟨by
    unfold CT
    dsimp only
    rw[e1,e2,e3];exact h'.more (by omega),hI,hE⟩
   exact hw.more S (by omega))
 have hpm:(X.f k).pins<900000:=by have q:(X.f k).pins<=m:=hbf.2.2;omega
 have e2':(w.alloc (.cells #[.int .i64 k] 3)).cell? ⟨p.fb,k*4+2,none⟩=some (.int .i64 (X.f k).pins):=(H1.me.cf hk).2.2.1;generalize hxp:(X.f k).pins=xp at*;have B4:=Hd b4;have HP:=Hd hpm;generalize hw2:(w.alloc (.cells #[.int .i64 k] 3))=w2 at*;unfold PP.ptr at*;clear H H1 S hlt b4 hu hbf hpl hid h1 hid0 e0 e1 e2 e3 hI hxp hXF;go_enter func44,ntmps44
 go_wp2_with fail
 refine HA.out.mono ?_;rintro e w1⟨rfl,rfl⟩;have hcw:IntKind.i64.wrap ((xp:Int)-1)=(xp:Int)-1:=IntWalk.i64_in _ (by omega)
 go_wp2_with fail
 try rw[hw2]
 clear hw2
 go_region
 all_goals
  obtain⟨hA,gA⟩:=KP.out ((xp:Int)-1) (by omega);generalize(w2.setCell ⟨p.fb,k*4+2,none⟩ (.int .i64 ((xp:Int)-1))).drew=wA at hA gA⊢;obtain⟨y1,y2,y3,y4⟩:=KX.out wA F hA;have y6:wA.cell? ⟨w.heap.size,0,none⟩=some (.int .i64 k):=by rw[gA.cell (p:=⟨w.heap.size,0,none⟩) (by show w.heap.size<_;omega) hnF1];exact b1
  have y7:=gA.size;have H3:=Hd hA;have G3:=Hd gA;clear hA gA KP c2 e2' z2 lb lf
  go_wp2_with fail
  rcases KL.out with⟨hp,KD,KT⟩|⟨hp,KF⟩
  .have hcp:((xp-1:Nat):Int)=0:=by omega
   clear hp KL;rw[hcp]at y2
   go_region
   all_goals
    go_wp2_with fail
    have y6d:wA.drew.cell? ⟨w.heap.size,0,none⟩=some (.int .i64 k):=y6;have y4d:p.pb<wA.drew.heap.size:=y3;have y7d:w2.heap.size<=wA.drew.heap.size:=y7;have H3d:=Hd (HS.out _ _ H3.out);have FD:Hid (Fr F wA wA.drew):=(Fr.refl _ wA).drew;generalize wA.drew=w3d at y6d y4d y7d H3d FD⊢;clear y1 y2 y3 y4 y6
    go_still_tail 4,(by kernel_rfl)
    go_wp2_with fail
    refine(KD.out _ F (HS.out _ _ H3d.out)).mono ?_;rintro e w4⟨rfl,F4,h4,g4,q4⟩;have z6:w4.cell? ⟨w.heap.size,0,none⟩=some (.int .i64 k):=by rw[g4.cell (p:=⟨w.heap.size,0,none⟩) (by show w.heap.size<w3d.heap.size;omega) hnF1];exact y6d
    have z8:w.heap.size<w4.heap.size:=Nat.lt_of_lt_of_le (by show w.heap.size<w3d.heap.size;omega) g4.size;have n4:¬F4 w.heap.size:=λq=>(q4 _ q).elim hnF1 (λq=>by have:w3d.heap.size<=w.heap.size:=q;omega)
    have HT:=Hd (KT.out w4 F4 h4 z6 z8 n4);have G4:=Hd g4;have Q4:=Hd q4;clear h4 g4 q4 KD KT z6
    go_wp2_with fail
    refine HT.out.mono ?_;rintro e w5⟨rfl,h5⟩;have H5:=Hd h5;clear h5;go_wp2;go_returns;exact⟨rfl,Led.trans (B4.out.mono (λ_ q=>q.elim)) (λi q=>.inl q) (Led.trans G3.out (λi q=>.inl q) (Led.trans (FD.out.trans (((Fr.refl _ w3d).drew).trans G4.out (λi q=>.inl q)) (λi q=>.inl q)) (λi q=>(Q4.out i q).imp (λq=>q) (λq=>by have:w3d.heap.size<=i:=q;have:=FD.out.size;omega)) H5.out))⟩
  .have hcp:(((xp-1:Nat):Int)==0)=false:=by simp<;>omega
   clear hp KL
   go_region
   all_goals
    go_wp2;go_returns;exact⟨rfl,Led.trans (B4.out.mono (λ_ q=>q.elim)) (λi q=>.inl q) (Led.trans G3.out (λi q=>.inl q) (Led.trans ((Fr.refl F wA).drew) (λi q=>.inl q) (Led.refl (KF.out _ _ (HS.out _ _ H3.out)))))⟩
theorem Bo(H:PW RR ok p X m w F)(hm:m<60000){id:Nat}(hu:id<4294967296):Calls prog 44 #[p.ptr,.int .u32 id] w λe w'=>e=.returned (.int .i64 (X.unpin P p.n id).1)/\Led (PW RR ok p (X.unpin P p.n id).2 (m+10)) F w w':=by
 unfold PS.unpin;rcases held_case H.2.1 id with⟨h0,h1,h2,h3,h4,h5,h6,h7⟩|⟨h0,h1⟩
 .rw[if_pos h0]
  generalize(X.held p.n id).1=k at*;by_cases hp:(X.f k).pins=1
  .rw[if_pos hp]
   refine(Ay S H hm hu h1 h2 h4 h5 (.inl ⟨hp,rfl⟩)).mono ?_;rintro e w'⟨he,hl⟩;exact⟨he,hl.mono (λF' h=>h.more S (by omega))⟩
  .rw[if_neg hp]
   refine(Ay S H hm hu h1 h2 h4 h5 (.inr ⟨by omega,rfl⟩)).mono ?_;rintro e w'⟨he,hl⟩;exact⟨he,hl.mono (λF' h=>h.more S (by omega))⟩
 .rw[if_neg h0]
  refine(GL S H hu h0 h1).mono ?_;rintro e w'⟨he,g⟩;exact⟨he,F,(H.fr0 S g).more S (by omega),g.mono (λ_ q=>q.elim),λi q=>.inl q⟩
end
section
variable{τ:Type}{P:Adv τ}{RR:World->τ->(Nat->Prop)->Prop}{ok:Nat->τ->(Nat->Nat)->(Nat->Bool)->Prop}{p:PP}{w w':World}{m:Nat}{F:Nat->Prop}{X:PS τ}{T:PT τ}
theorem AJ(H:PW RR ok p X m w F){id:Nat}(hu:id<4294967296):Calls prog 153 #[p.ptr,.int .u32 id] w λe w'=>e=.returned (.bool (X.D.has id))/\w=w':=by
 cases hh:X.D.has id with
 |false=>
  have HA:=Hd (eA H.1.me hu (dV hh));unfold PP.ptr at*;clear H hh hu;go_enter func153,ntmps153
  go_wp2_with fail
  refine HA.out.mono ?_;rintro e w1⟨rfl,rfl⟩;go_wp2;go_returns;exact⟨rfl,rfl⟩
 |true=>
  have hs:∃x,plO p.n X.f X.D id=some x:=by unfold plO;rw[if_pos hh];exact⟨_,rfl⟩
  obtain⟨x,hx⟩:=hs;have HA:=Hd (aK H.1.me hu hx);unfold PP.ptr at*;clear H hh hu hx;go_enter func153,ntmps153
  go_wp2_with fail
  refine HA.out.mono ?_;rintro e w1⟨rfl,rfl⟩;go_wp2;go_returns;exact⟨rfl,rfl⟩
theorem Gw(H:PW RR ok p X m w F){id:Nat}(hu:id<4294967296):Calls prog 15 #[p.ptr,.int .u32 id] w λe w'=>e=.returned (.int .i64 (X.pins p.n id))/\w=w':=by
 unfold PS.pins;rcases held_case H.2.1 id with⟨h0,h1,h2,h3,h4,h5,h6,h7⟩|⟨h0,h1⟩
 .rw[if_pos h0]
  generalize(X.held p.n id).1=k at*;have HA:=Hd (ji H.1.me hu h1 h2 h3);obtain⟨_,_,c,_⟩:=H.1.me.cf h1;rw[show(CT p.n X).f=X.f from rfl]at c;have c2:w.cell? ⟨p.pb,2,none⟩=some (.slice (some ⟨p.fb,0,none⟩) p.n p.n):=H.1.me.ce 2 (by omega);have hn:=H.1.me.hn;have lb:=H.1.me.hd.lt;have lf:=H.1.me.fr.lt;generalize(X.f k).pins=q at*;unfold PP.ptr at*;clear H hu h0 h2 h3 h4 h5 h6 h7;go_enter func15,ntmps15
  go_wp2_with fail
  refine HA.out.mono ?_;rintro e w1⟨rfl,rfl⟩;go_wp2;go_returns;exact⟨rfl,rfl⟩
 .rw[if_neg h0]
  have HA:=Hd (kD H.1.me hu h1);have hne:((((X.held p.n id).2:Nat):Int)==0)=false:=by simp<;>exact h0
  generalize(X.held p.n id).2=e0 at*;unfold PP.ptr at*;clear H hu h0 h1;go_enter func15,ntmps15
  go_wp2_with fail
  refine HA.out.mono ?_;rintro e w1⟨rfl,rfl⟩;go_wp2;go_returns;exact⟨rfl,rfl⟩
theorem BI(H:PW RR ok p X m w F){id:Nat}(hu:id<4294967296):Calls prog 45 #[p.ptr,.int .u32 id] w λe w'=>e=.returned (.tuple #[.int .u64 (X.read p.n id).1,.int .i64 (X.read p.n id).2])/\w=w':=by
 unfold PS.read;rcases held_case H.2.1 id with⟨h0,h1,h2,h3,h4,h5,h6,h7⟩|⟨h0,h1⟩
 .rw[if_pos h0]
  generalize(X.held p.n id).1=k at*;have HA:=Hd (ji H.1.me hu h1 h2 h3);obtain⟨_,c,_,_⟩:=H.1.me.cf h1;rw[show(CT p.n X).f=X.f from rfl]at c;have c2:w.cell? ⟨p.pb,2,none⟩=some (.slice (some ⟨p.fb,0,none⟩) p.n p.n):=H.1.me.ce 2 (by omega);have hn:=H.1.me.hn;have lb:=H.1.me.hd.lt;have lf:=H.1.me.fr.lt;generalize(X.f k).val=q at*;unfold PP.ptr at*;clear H hu h0 h2 h3 h4 h5 h6 h7;go_enter func45,ntmps45
  go_wp2_with fail
  refine HA.out.mono ?_;rintro e w1⟨rfl,rfl⟩;go_wp2;go_returns;exact⟨rfl,rfl⟩
 .rw[if_neg h0]
  have HA:=Hd (kD H.1.me hu h1);have hne:((((X.held p.n id).2:Nat):Int)==0)=false:=by simp<;>exact h0
  generalize(X.held p.n id).2=e0 at*;unfold PP.ptr at*;clear H hu h0 h1;go_enter func45,ntmps45
  go_wp2_with fail
  refine HA.out.mono ?_;rintro e w1⟨rfl,rfl⟩;go_wp2;go_returns;exact⟨rfl,rfl⟩
end
end
end Go.Proofs.YtkjhnllcphidpaaGreatDoor
