/- Part 36. -/
import Derived.Test.YtoenclhimbpfeaaGreatDoorW35
namespace Go.Proofs.YtoenclhimbpfeaaGreatDoor
set_option linter.all false
set_option maxHeartbeats 16000000
set_option maxRecDepth 100000
section
open Go.Maps Go.Proofs.Tryz Go.RowKit
section
variable{τ:Type}{P:Adv τ}{RR:World->τ->(Nat->Prop)->Prop}{ok:Nat->τ->(Nat->Nat)->(Nat->Bool)->Prop}{p:PP}(S:aJ P RR p.pb p.rv p.n ok){w w':World}{m:Nat}{F:Nat->Prop}{X:PS τ}{T:PT τ}
include S
theorem Fm(H:PW RR ok p X m w F){id k v:Nat}(hu:id<4294967296)(hv:v<18446744073709551616)(hk:k<p.n)(hpl:plO p.n X.f X.D id=some (k:Int))(hid:(X.f k).id=id)(h1:1<=id)(hp:¬(X.f k).pins=0):Calls prog 41 #[p.ptr,.int .u32 id,.int .u64 v] w λe w'=>e=.returned (.int .i64 0)/\
  Led (PW RR ok p {X with f:=upd X.f k {X.f k with val:=v,dirty:=true}} (m+1)) F w w':=by
 have HA:=Hd (lS H.1.me hu hk hpl (by show¬(X.f k).pins=0;omega));have lb:=H.1.me.hd.lt;have lf:=H.1.me.fr.lt;have c2:w.cell? ⟨p.pb,2,none⟩=some (.slice (some ⟨p.fb,0,none⟩) p.n p.n):=H.1.me.ce 2 (by omega);have hn:=H.1.me.hn;obtain⟨e0,e1,e2,e3⟩:=H.1.me.cf hk;have z1:=H.1.me.fr.frozen (k*4+1);have z3:=H.1.me.fr.frozen (k*4+3);have hbf:=H.1.me.bd.2 k;have hid0:¬(X.f k).id=0:=by omega
 have K1:MP ((w.setCell ⟨p.fb,k*4+1,none⟩ (.int .u64 v)).setCell ⟨p.fb,k*4+3,none⟩ (.bool true)) p (upd X.f k {X.f k with val:=v,dirty:=true}) (CT p.n X).pl (CT p.n X).E (CT p.n X).I X.sc m/\Fr p.own w ((w.setCell ⟨p.fb,k*4+1,none⟩ (.int .u64 v)).setCell ⟨p.fb,k*4+3,none⟩ (.bool true)):=by
  obtain⟨q1,q2⟩:=H.1.me.put1 (m':=m) (j:=1) hk {X.f k with val:=v} (.int .u64 v) (lj X.f k v) (Nat.le_refl _) ⟨hbf.1,hv,hbf.2.2⟩
  have he:upd (frV (upd X.f k {X.f k with val:=v})) (k*4+3) (.bool true)=frV (upd (upd X.f k {X.f k with val:=v}) k {X.f k with val:=v,dirty:=true}):=by
   have:=lI (upd X.f k {X.f k with val:=v}) k true;rw[upd_same]at this;exact this
  obtain⟨q3,q4⟩:=q1.put1 (m':=m) (j:=3) hk {X.f k with val:=v,dirty:=true} (.bool true) he (Nat.le_refl _) ⟨hbf.1,hv,hbf.2.2⟩;rw[iy]at q3;exact⟨q3,(q2.trans q4 (λi q=>.inl q)).mono (λi q=>.inr (.inl q))⟩
 have K2:MP ((w.setCell ⟨p.fb,k*4+3,none⟩ (.bool true)).setCell ⟨p.fb,k*4+1,none⟩ (.int .u64 v)) p (upd X.f k {X.f k with val:=v,dirty:=true}) (CT p.n X).pl (CT p.n X).E (CT p.n X).I X.sc m/\Fr p.own w ((w.setCell ⟨p.fb,k*4+3,none⟩ (.bool true)).setCell ⟨p.fb,k*4+1,none⟩ (.int .u64 v)):=by
  obtain⟨q1,q2⟩:=H.1.me.put1 (m':=m) (j:=3) hk {X.f k with dirty:=true} (.bool true) (lI X.f k true) (Nat.le_refl _) ⟨hbf.1,hbf.2.1,hbf.2.2⟩
  have he:upd (frV (upd X.f k {X.f k with dirty:=true})) (k*4+1) (.int .u64 (v:Nat))=frV (upd (upd X.f k {X.f k with dirty:=true}) k {X.f k with val:=v,dirty:=true}):=by
   have:=lj (upd X.f k {X.f k with dirty:=true}) k v;rw[upd_same]at this;exact this
  obtain⟨q3,q4⟩:=q1.put1 (m':=m) (j:=1) hk {X.f k with val:=v,dirty:=true} (.int .u64 v) he (Nat.le_refl _) ⟨hbf.1,hv,hbf.2.2⟩;rw[iy]at q3;exact⟨q3,(q2.trans q4 (λi q=>.inl q)).mono (λi q=>.inr (.inl q))⟩
 have KP:Hid (∀wf,(wf=((w.setCell ⟨p.fb,k*4+1,none⟩ (.int .u64 v)).setCell ⟨p.fb,k*4+3,none⟩ (.bool true)).drew\/wf=((w.setCell ⟨p.fb,k*4+3,none⟩ (.bool true)).setCell ⟨p.fb,k*4+1,none⟩ (.int .u64 v)).drew)->Led (PW RR ok p {X with f:=upd X.f k {X.f k with val:=v,dirty:=true}} (m+1)) F w wf):=λwf hw=>by
  rcases hw with rfl|rfl
  .exact pc S H hk hid0 rfl rfl hv ((K1.1.more (Nat.le_succ m)).fr0 ((Fr.refl NoF _).drew)) K1.2.drew
  .exact pc S H hk hid0 rfl rfl hv ((K2.1.more (Nat.le_succ m)).fr0 ((Fr.refl NoF _).drew)) K2.2.drew
 rw[show(CT p.n X).f=X.f from rfl]at e0 e1 e2 e3;generalize(X.f k).val=xv at*;generalize(X.f k).dirty=xd at*;unfold PP.ptr at*;clear H S hu hpl hid h1 hp hbf hid0 K1 K2 hv e0 e2;go_enter func41,ntmps41
 go_wp2_with fail
 refine HA.out.mono ?_;rintro e w1⟨rfl,rfl⟩
 go_wp2_with fail
 go_region
 all_goals
  go_wp2;go_returns;exact⟨rfl,KP.out _ (by first|exact .inl rfl|exact .inr rfl)⟩
theorem FJ(H:PW RR ok p X m w F){id e0 v:Nat}(hu:id<4294967296)(h0:¬e0=0)(hh:oF p.n X.f (plO p.n X.f X.D) id e0):Calls prog 41 #[p.ptr,.int .u32 id,.int .u64 v] w λe w'=>e=.returned (.int .i64 e0)/\w=w':=by
 have HA:=Hd (pd H.1.me hu hh);have hne:(((e0:Nat):Int)==0)=false:=by simp<;>exact h0
 unfold PP.ptr at*;clear H S hh hu;go_enter func41,ntmps41
 go_wp2_with fail
 refine HA.out.mono ?_;rintro e w1⟨rfl,rfl⟩;go_wp2;go_returns;exact⟨rfl,rfl⟩
theorem A7(H:PW RR ok p X m w F){id v:Nat}(hu:id<4294967296)(hv:v<18446744073709551616):Calls prog 41 #[p.ptr,.int .u32 id,.int .u64 v] w λe w'=>e=.returned (.int .i64 (X.write p.n id v).1)/\Led (PW RR ok p (X.write p.n id v).2 (m+10)) F w w':=by
 unfold PS.write;rcases held_case H.2.1 id with⟨h0,h1,h2,h3,h4,h5,h6,h7⟩|⟨h0,h1⟩
 .rw[if_pos h0]
  refine(Fm S H hu hv h1 h2 h4 h5 h3).mono ?_;rintro e w'⟨he,hl⟩;exact⟨he,hl.mono (λF' h=>h.more S (by omega))⟩
 .rw[if_neg h0]
  refine(FJ S H hu h0 h1).mono ?_;rintro e w'⟨he,rfl⟩;exact⟨he,Led.refl (H.more S (by omega))⟩
theorem pB(H:PW RR ok p X m w F)(hm:m<70000){k:Nat}(hk:k<p.n)(h0:(X.f k).dirty=true->¬(X.f k).id=0):Calls prog 71 #[p.ptr,.int .i64 k] w λe w'=>e=.returned (.int .i64 (X.clean k).1)/\Led (PW RR ok p (X.clean k).2 (m+1)) F w w':=by
 unfold PS.clean;by_cases hd:(X.f k).dirty=true
 .rw[if_pos hd]
  have hid0:=h0 hd;by_cases he:(X.D.write (X.f k).id (X.f k).val).1=0
  .rw[if_pos he]
   refine(jE S H.1 (by omega) hk hd he).mono ?_;rintro e w'⟨he',hl⟩;refine⟨he',hl.mono (λF' h'=>?_)⟩
   dsimp only[CT]at h'
   have hw:PW RR ok p {X with f:=upd X.f k {X.f k with dirty:=false},D:=(X.D.write (X.f k).id (X.f k).val).2} (m+1) w' F':=⟨by
    unfold CT
    dsimp only
    rw[qW (λx=>RS.write_has _ _ _ x),iM (x:={X.f k with dirty:=false}) hk rfl,dw hk,cO hk,bD (dC hk),bD (dm hk)];exact h',(H.2.1.keep (x:={X.f k with dirty:=false}) hk rfl hid0 (H.2.1.vf k hk)).write _ (H.2.1.vf k hk),by
    show ok (m+1) X.A (pgO (upd X.f k {X.f k with dirty:=false})) (evO (upd X.f k {X.f k with dirty:=false}))
    rw[cN,cR];refine S.same (S.more H.2.2 (Nat.le_succ m)) (λi hi=>?_) (λi hi q=>?_)
    .by_cases e:i=k
     .rw[e,upd_same];rfl
     .rw[aa _ _ e]
    .by_cases e:i=k
     .rw[e,upd_same];rfl
     .rw[aa _ _ e]⟩
   exact hw
  .rw[if_neg he]
   refine(i8 S H.1 (by omega) hk hd he).mono ?_;rintro e w'⟨he',hl⟩;refine⟨he',hl.mono (λF' h'=>?_)⟩
   dsimp only[CT]at h'
   have hw:PW RR ok p {X with D:=(X.D.write (X.f k).id (X.f k).val).2} (m+1) w' F':=⟨by
    unfold CT
    dsimp only
    rw[qW (λx=>RS.write_has _ _ _ x)];exact h',H.2.1.write _ (H.2.1.vf k hk),S.more H.2.2 (Nat.le_succ m)⟩
   exact hw
 .rw[if_neg hd]
  refine(jK S H.1 hk (Bool.eq_false_iff.2 hd)).mono ?_;rintro e w'⟨he',hl⟩;exact⟨he',hl.mono (λF' h'=>PW.more S (⟨h',H.2⟩:PW RR ok p X m w' F') (by omega))⟩
theorem zt(H:PW RR ok p X m w F)(hm:m<60000){id:Nat}(hu:id<4294967296):Calls prog 42 #[p.ptr,.int .u32 id] w λe w'=>e=.returned (.int .i64 (X.flush p.n id).1)/\Led (PW RR ok p (X.flush p.n id).2 (m+10)) F w w':=by
 unfold PS.flush;by_cases hh:X.D.has id=true
 .rw[if_pos hh]
  cases hk:frm p.n X.f id with
  |none=>
   dsimp only
   have HA:=Hd (aL H.1.me hu (eG hh hk));have HL:=Hd (Led.refl (H.more S (show m<=m+10 by omega)));unfold PP.ptr at*;clear H S hu hh hk;go_enter func42,ntmps42
   go_wp2_with fail
   refine HA.out.mono ?_;rintro e w1⟨rfl,rfl⟩;go_wp2;go_returns;exact⟨rfl,HL.out⟩
  |some k=>
   dsimp only
   obtain⟨h1,h2,h3⟩:=H.2.1.fpos hh hk;have HA:=Hd (aL H.1.me hu (dP hh hk));have HC:=Hd ((pB S H (by omega) h1 (λ_=>by omega)).mono (λe w' ⟨he,hl⟩=>(⟨he,hl.mono (λF' h=>h.more S (by omega))⟩:e=Ending.returned (.int .i64 (X.clean k).1)/\Led (PW RR ok p (X.clean k).2 (m+10)) F w w')));have hne:((k:Int)==(-1))=false:=by simp<;>omega
   generalize X.clean k=R at*;unfold PP.ptr at*;clear H S hu hh hk h2;go_enter func42,ntmps42
   go_wp2_with fail
   refine HA.out.mono ?_;rintro e w1⟨rfl,rfl⟩
   go_wp2_with fail
   refine HC.out.mono ?_;rintro e w1⟨rfl,hl⟩;have HL:=Hd hl;clear hl;go_wp2;go_returns;exact⟨rfl,HL.out⟩
 .rw[if_neg hh]
  have HA:=Hd (gG H.1.me hu (eZ (by simpa using hh)));have HL:=Hd (Led.refl (H.more S (show m<=m+10 by omega)));unfold PP.ptr at*;clear H S hu hh;go_enter func42,ntmps42
  go_wp2_with fail
  refine HA.out.mono ?_;rintro e w1⟨rfl,rfl⟩;go_wp2;go_returns;exact⟨rfl,HL.out⟩
end
section
variable{τ:Type}{P:Adv τ}{RR:World->τ->(Nat->Prop)->Prop}{ok:Nat->τ->(Nat->Nat)->(Nat->Bool)->Prop}{p:PP}(S:aJ P RR p.pb p.rv p.n ok){w w':World}{m:Nat}{F:Nat->Prop}{X:PS τ}{T:PT τ}
theorem zP{n:Nat}{f:Nat->FrS}{D:RS}{id:Nat}(hI:∃s,bv s D)(hh:D.has id=true):plO n f (D.free id).2=bN (plO n f D) id none:=by
 obtain⟨s,hs⟩:=hI
 funext y
 by_cases e:y=id
 .rw[e,cq]
  exact eZ (by rw[hs.free_has hh];simp)
 .rw[bI _ _ e]
  unfold plO;rw[hs.free_has hh,decide_eq_true e,Bool.true_and]
include S
theorem qR(H:PW RR ok p X m w F){id:Nat}(hu:id<4294967296)(hh:X.D.has id=true)(hno:∀i,i<p.n->¬(X.f i).id=id)(ty:TypeId):∃w1,(Builtin.delete_ #[111,34] ty #[.map (some p.mb),.int .u32 (id:Nat)]).run prog w=.ok (.tuple #[]) w1/\Led (PI RR p {CT p.n X with pl:=bN (plO p.n X.f X.D) id none} m) F w w1/\
  (∀w2 F2,PI RR p {CT p.n X with pl:=bN (plO p.n X.f X.D) id none} m w2 F2->Calls prog 63 #[.pointer (some ⟨p.db,0,none⟩),.int .u32 id] w2 λe w'=>e=.returned (.int .i64 0)/\Led (PW RR ok p {X with D:=(X.D.free id).2} m) F2 w2 w'):=by
 obtain⟨w1,r1,h1,g1⟩:=H.1.me.del hu ty;refine⟨w1,r1,H.1.set h1 (g1.mono (λi q=>.inr (.inr (.inl q)))) (Nat.le_refl _) S,λw2 F2 h2=>?_⟩;refine(h2.free S hu).mono ?_;rintro e w'⟨he,hl⟩;obtain⟨s,hs⟩:=H.2.1.dr;have e0:(X.D.free id).1=0:=(hs.free_yes (by rw[<-hs.hasE];exact hh)).1;refine⟨by rw[he];show Ending.returned (.int .i64 ((X.D.free id).1:Nat))=_;rw[e0];rfl,hl.mono (λF' h'=>?_)⟩
 dsimp only[CT]at h'
 have hw:PW RR ok p {X with D:=(X.D.free id).2} m w' F':=⟨by
  unfold CT
  dsimp only
  rw[zP H.2.1.dr hh];exact h',H.2.1.free hno,H.2.2⟩
 exact hw
theorem GI(H:PW RR ok p X m w F)(hm:m<60000){id k:Nat}(hu:id<4294967296)(hh:X.D.has id=true)(hk:frm p.n X.f id=some k)(hp:(X.f k).pins=0):Calls prog 44 #[p.ptr,.int .u32 id] w λe w'=>e=.returned (.int .i64 0)/\Led (PW RR ok p {X with f:=upd X.f k zF,D:=(X.D.free id).2,A:=P.remove X.A k} (m+1)) F w w':=by
 obtain⟨h1,h2,h3⟩:=H.2.1.fpos hh hk;have HA:=Hd (aL H.1.me hu (dP hh hk));have HR:=Hd (mZ S H (by omega) h1 (by omega))
 have hno:∀i,i<p.n->¬(upd X.f k zF i).id=id:=λi hi q=>by
  by_cases e:i=k
  .rw[e,upd_same]at q;exact absurd q (by show¬0=id;omega)
  .rw[aa _ _ e]at q;exact e (H.2.1.inj i k hi h1 (by omega) (by rw[q,h2]))
 have KD:Hid (∀(ty:TypeId) w1 F1,PW RR ok p {X with f:=upd X.f k zF,A:=P.remove X.A k} (m+1) w1 F1->_):=λty w1 F1 h=>qR S (w:=w1) (F:=F1) h hu hh hno ty
 have KC:Hid (∀w1 F1,PW RR ok p {X with f:=upd X.f k zF,A:=P.remove X.A k} (m+1) w1 F1->p.pb<w1.heap.size/\w1.cell? ⟨p.pb,3,none⟩=some (.map (some p.mb))):=λw1 F1 h=>⟨h.1.me.hd.lt,h.1.me.ce 3 (by omega)⟩
 have KC0:Hid (∀w1 F1 T j,PI RR p T j w1 F1->w1.cell? ⟨p.pb,0,none⟩=some (.pointer (some ⟨p.db,0,none⟩))/\p.pb<w1.heap.size):=λw1 F1 T j h=>h.c0
 have c2:w.cell? ⟨p.pb,2,none⟩=some (.slice (some ⟨p.fb,0,none⟩) p.n p.n):=H.1.me.ce 2 (by omega);have hn:=H.1.me.hn;have lb:=H.1.me.hd.lt;have lf:=H.1.me.fr.lt;obtain⟨_,_,cp,_⟩:=H.1.me.cf h1;rw[show(CT p.n X).f=X.f from rfl,hp]at cp;have hne:((k:Int)==(-1))=false:=by simp<;>omega
 unfold PP.ptr at*;clear H S hh hk h2 hp hno h3;have HU:=Hd hu;clear hu;go_enter func44,ntmps44
 go_wp2_with fail
 refine HA.out.mono ?_;rintro e w1⟨rfl,rfl⟩
 go_wp2_with fail
 refine HR.out.mono ?_;rintro e w1⟨rfl,F1,g1,f1,k1⟩;obtain⟨x1,x2⟩:=KC.out w1 F1 g1;obtain⟨w2,r2,⟨F2,g2,f2,k2⟩,hfree⟩:=KD.out 0 w1 F1 g1;obtain⟨x3,x4⟩:=KC0.out w2 F2 _ _ g2;have HFR:=Hd (hfree w2 F2 g2);have FF1:=Hd f1;have KK1:=Hd k1;have FF2:=Hd f2;have KK2:=Hd k2;clear g1 f1 k1 g2 f2 k2 hfree KD KC KC0 HR
 go_wp2_with fail
 refine HFR.out.mono ?_;rintro e w3⟨rfl,hl⟩;have HL:=Hd hl;clear hl;go_wp2;go_returns;exact⟨rfl,Led.trans FF1.out KK1.out (Led.trans FF2.out KK2.out HL.out)⟩
theorem EO(H:PW RR ok p X m w F){id:Nat}(hu:id<4294967296)(hh:X.D.has id=true)(hk:frm p.n X.f id=none):Calls prog 44 #[p.ptr,.int .u32 id] w λe w'=>e=.returned (.int .i64 0)/\Led (PW RR ok p {X with D:=(X.D.free id).2} m) F w w':=by
 have HA:=Hd (aL H.1.me hu (eG hh hk));have c3:w.cell? ⟨p.pb,3,none⟩=some (.map (some p.mb)):=H.1.me.ce 3 (by omega);have lb:=H.1.me.hd.lt;obtain⟨w2,r2,⟨F2,g2,f2,k2⟩,hfree⟩:=qR S H hu hh (dK hk) 0;obtain⟨x3,x4⟩:=g2.c0;have HFR:=Hd (hfree w2 F2 g2);have FF2:=Hd f2;have KK2:=Hd k2;unfold PP.ptr at*;clear H S hh hk g2 f2 k2 hfree;have HU:=Hd hu;clear hu;go_enter func44,ntmps44
 go_wp2_with fail
 refine HA.out.mono ?_;rintro e w1⟨rfl,rfl⟩
 go_wp2_with fail
 refine HFR.out.mono ?_;rintro e w3⟨rfl,hl⟩;have HL:=Hd hl;clear hl;go_wp2;go_returns;exact⟨rfl,Led.trans FF2.out KK2.out HL.out⟩
theorem Gv(H:PW RR ok p X m w F){id:Nat}(hu:id<4294967296)(hh:X.D.has id=false):Calls prog 44 #[p.ptr,.int .u32 id] w λe w'=>e=.returned (.int .i64 3)/\w=w':=by
 have HA:=Hd (gG H.1.me hu (eZ hh));unfold PP.ptr at*;clear H S hh hu;go_enter func44,ntmps44
 go_wp2_with fail
 refine HA.out.mono ?_;rintro e w1⟨rfl,rfl⟩;go_wp2;go_returns;exact⟨rfl,rfl⟩
theorem EP(H:PW RR ok p X m w F){id k:Nat}(hu:id<4294967296)(hh:X.D.has id=true)(hk:frm p.n X.f id=some k)(hp:¬(X.f k).pins=0):Calls prog 44 #[p.ptr,.int .u32 id] w λe w'=>e=.returned (.int .i64 4)/\w=w':=by
 obtain⟨h1,h2,h3⟩:=H.2.1.fpos hh hk;have HA:=Hd (aL H.1.me hu (dP hh hk));have c2:w.cell? ⟨p.pb,2,none⟩=some (.slice (some ⟨p.fb,0,none⟩) p.n p.n):=H.1.me.ce 2 (by omega);have hn:=H.1.me.hn;have lb:=H.1.me.hd.lt;have lf:=H.1.me.fr.lt;obtain⟨_,_,cp,_⟩:=H.1.me.cf h1;rw[show(CT p.n X).f=X.f from rfl]at cp;have hgt:decide (((X.f k).pins:Int)>0)=true:=decide_eq_true (by omega);have hgt2:decide (0<((X.f k).pins:Int))=true:=decide_eq_true (by omega);have hgt3:decide (0<(X.f k).pins)=true:=decide_eq_true (by omega);have hgt4:0<(X.f k).pins:=by omega
 have hgt5:(0:Int)<((X.f k).pins:Int):=by omega
 have hne:((k:Int)==(-1))=false:=by simp<;>omega
 generalize(X.f k).pins=q at*;unfold PP.ptr at*;clear H S hh hu hk h2 hp h3;go_enter func44,ntmps44
 go_wp2_with fail
 refine HA.out.mono ?_;rintro e w1⟨rfl,rfl⟩;go_wp2;go_returns;exact⟨rfl,rfl⟩
theorem Bc(H:PW RR ok p X m w F)(hm:m<60000){id:Nat}(hu:id<4294967296):Calls prog 44 #[p.ptr,.int .u32 id] w λe w'=>e=.returned (.int .i64 (X.delete P p.n id).1)/\Led (PW RR ok p (X.delete P p.n id).2 (m+10)) F w w':=by
 unfold PS.delete;by_cases hh:X.D.has id=true
 .rw[if_pos hh]
  cases hk:frm p.n X.f id with
  |none=>
   dsimp only
   exact(EO S H hu hh hk).mono λe w' ⟨he,hl⟩=>⟨he,hl.mono (λF' h=>h.more S (by omega))⟩
  |some k=>
   dsimp only
   by_cases hp:(X.f k).pins=0
   .rw[if_pos hp]
    exact(GI S H hm hu hh hk hp).mono λe w' ⟨he,hl⟩=>⟨he,hl.mono (λF' h=>h.more S (by omega))⟩
   .rw[if_neg hp]
    refine(EP S H hu hh hk hp).mono ?_;rintro e w'⟨he,rfl⟩;exact⟨he,Led.refl (H.more S (by omega))⟩
 .rw[if_neg hh]
  refine(Gv S H hu (by simpa using hh)).mono ?_;rintro e w'⟨he,rfl⟩;exact⟨he,Led.refl (H.more S (by omega))⟩
end
end
end Go.Proofs.YtoenclhimbpfeaaGreatDoor
