/- Part 37. -/
import Derived.Test.YtkjhnllcphidpaaGreatDoorQ36
namespace Go.Proofs.YtkjhnllcphidpaaGreatDoor
set_option linter.all false
set_option maxHeartbeats 16000000
set_option maxRecDepth 100000
section
open Go.Maps Go.Proofs.Tryz Go.RowKit
section
variable{τ:Type}{P:Adv τ}{RR:World->τ->(Nat->Prop)->Prop}{ok:Nat->τ->(Nat->Nat)->(Nat->Bool)->Prop}{p:PP}(S:aJ P RR p.pb p.rv p.n ok){w w':World}{m:Nat}{F:Nat->Prop}{X:PS τ}{T:PT τ}
include S
theorem FS(H:PW RR ok p X m w F){id k v:Nat}(hu:id<4294967296)(hv:v<18446744073709551616)(hk:k<p.n)(hpl:plO p.n X.f X.D id=some (k:Int))(hid:(X.f k).id=id)(h1:1<=id)(hp:¬(X.f k).pins=0):Calls prog 46 #[p.ptr,.int .u32 id,.int .u64 v] w λe w'=>e=.returned (.int .i64 0)/\
  Led (PW RR ok p {X with f:=upd X.f k {X.f k with val:=v,dirty:=true}} (m+1)) F w w':=by
 have HA:=Hd (ji H.1.me hu hk hpl (by show¬(X.f k).pins=0;omega));have lb:=H.1.me.hd.lt;have lf:=H.1.me.fr.lt;have c2:w.cell? ⟨p.pb,2,none⟩=some (.slice (some ⟨p.fb,0,none⟩) p.n p.n):=H.1.me.ce 2 (by omega);have hn:=H.1.me.hn;obtain⟨e0,e1,e2,e3⟩:=H.1.me.cf hk;have z1:=H.1.me.fr.frozen (k*4+1);have z3:=H.1.me.fr.frozen (k*4+3);have hbf:=H.1.me.bd.2 k;have hid0:¬(X.f k).id=0:=by omega
 have K1:MP ((w.setCell ⟨p.fb,k*4+1,none⟩ (.int .u64 v)).setCell ⟨p.fb,k*4+3,none⟩ (.bool true)) p (upd X.f k {X.f k with val:=v,dirty:=true}) (CT p.n X).pl (CT p.n X).E (CT p.n X).I X.sc m/\Fr p.own w ((w.setCell ⟨p.fb,k*4+1,none⟩ (.int .u64 v)).setCell ⟨p.fb,k*4+3,none⟩ (.bool true)):=by
  obtain⟨q1,q2⟩:=H.1.me.put1 (m':=m) (j:=1) hk {X.f k with val:=v} (.int .u64 v) (lY X.f k v) (Nat.le_refl _) ⟨hbf.1,hv,hbf.2.2⟩
  have he:upd (frV (upd X.f k {X.f k with val:=v})) (k*4+3) (.bool true)=frV (upd (upd X.f k {X.f k with val:=v}) k {X.f k with val:=v,dirty:=true}):=by
   have:=lT (upd X.f k {X.f k with val:=v}) k true;rw[upd_same]at this;exact this
  obtain⟨q3,q4⟩:=q1.put1 (m':=m) (j:=3) hk {X.f k with val:=v,dirty:=true} (.bool true) he (Nat.le_refl _) ⟨hbf.1,hv,hbf.2.2⟩;rw[iR]at q3;exact⟨q3,(q2.trans q4 (λi q=>.inl q)).mono (λi q=>.inr (.inl q))⟩
 have K2:MP ((w.setCell ⟨p.fb,k*4+3,none⟩ (.bool true)).setCell ⟨p.fb,k*4+1,none⟩ (.int .u64 v)) p (upd X.f k {X.f k with val:=v,dirty:=true}) (CT p.n X).pl (CT p.n X).E (CT p.n X).I X.sc m/\Fr p.own w ((w.setCell ⟨p.fb,k*4+3,none⟩ (.bool true)).setCell ⟨p.fb,k*4+1,none⟩ (.int .u64 v)):=by
  obtain⟨q1,q2⟩:=H.1.me.put1 (m':=m) (j:=3) hk {X.f k with dirty:=true} (.bool true) (lT X.f k true) (Nat.le_refl _) ⟨hbf.1,hbf.2.1,hbf.2.2⟩
  have he:upd (frV (upd X.f k {X.f k with dirty:=true})) (k*4+1) (.int .u64 (v:Nat))=frV (upd (upd X.f k {X.f k with dirty:=true}) k {X.f k with val:=v,dirty:=true}):=by
   have:=lY (upd X.f k {X.f k with dirty:=true}) k v;rw[upd_same]at this;exact this
  obtain⟨q3,q4⟩:=q1.put1 (m':=m) (j:=1) hk {X.f k with val:=v,dirty:=true} (.int .u64 v) he (Nat.le_refl _) ⟨hbf.1,hv,hbf.2.2⟩;rw[iR]at q3;exact⟨q3,(q2.trans q4 (λi q=>.inl q)).mono (λi q=>.inr (.inl q))⟩
 have KP:Hid (∀wf,(wf=((w.setCell ⟨p.fb,k*4+1,none⟩ (.int .u64 v)).setCell ⟨p.fb,k*4+3,none⟩ (.bool true)).drew\/wf=((w.setCell ⟨p.fb,k*4+3,none⟩ (.bool true)).setCell ⟨p.fb,k*4+1,none⟩ (.int .u64 v)).drew)->Led (PW RR ok p {X with f:=upd X.f k {X.f k with val:=v,dirty:=true}} (m+1)) F w wf):=λwf hw=>by
  rcases hw with rfl|rfl
  .exact pM S H hk hid0 rfl rfl hv ((K1.1.more (Nat.le_succ m)).fr0 ((Fr.refl NoF _).drew)) K1.2.drew
  .exact pM S H hk hid0 rfl rfl hv ((K2.1.more (Nat.le_succ m)).fr0 ((Fr.refl NoF _).drew)) K2.2.drew
 rw[show(CT p.n X).f=X.f from rfl]at e0 e1 e2 e3;generalize(X.f k).val=xv at*;generalize(X.f k).dirty=xd at*;unfold PP.ptr at*;clear H S hu hpl hid h1 hp hbf hid0 K1 K2 hv e0 e2;go_enter func46,ntmps46
 go_wp2_with fail
 refine HA.out.mono ?_;rintro e w1⟨rfl,rfl⟩
 go_wp2_with fail
 go_region
 all_goals
  go_wp2;go_returns;exact⟨rfl,KP.out _ (by first|exact .inl rfl|exact .inr rfl)⟩
theorem Gv(H:PW RR ok p X m w F){id e0 v:Nat}(hu:id<4294967296)(h0:¬e0=0)(hh:oH p.n X.f (plO p.n X.f X.D) id e0):Calls prog 46 #[p.ptr,.int .u32 id,.int .u64 v] w λe w'=>e=.returned (.int .i64 e0)/\w=w':=by
 have HA:=Hd (kD H.1.me hu hh);have hne:(((e0:Nat):Int)==0)=false:=by simp<;>exact h0
 unfold PP.ptr at*;clear H S hh hu;go_enter func46,ntmps46
 go_wp2_with fail
 refine HA.out.mono ?_;rintro e w1⟨rfl,rfl⟩;go_wp2;go_returns;exact⟨rfl,rfl⟩
theorem zW(H:PW RR ok p X m w F){id v:Nat}(hu:id<4294967296)(hv:v<18446744073709551616):Calls prog 46 #[p.ptr,.int .u32 id,.int .u64 v] w λe w'=>e=.returned (.int .i64 (X.write p.n id v).1)/\Led (PW RR ok p (X.write p.n id v).2 (m+10)) F w w':=by
 unfold PS.write;rcases held_case H.2.1 id with⟨h0,h1,h2,h3,h4,h5,h6,h7⟩|⟨h0,h1⟩
 .rw[if_pos h0]
  refine(FS S H hu hv h1 h2 h4 h5 h3).mono ?_;rintro e w'⟨he,hl⟩;exact⟨he,hl.mono (λF' h=>h.more S (by omega))⟩
 .rw[if_neg h0]
  refine(Gv S H hu h0 h1).mono ?_;rintro e w'⟨he,rfl⟩;exact⟨he,Led.refl (H.more S (by omega))⟩
theorem qJ(H:PW RR ok p X m w F)(hm:m<70000){k:Nat}(hk:k<p.n)(h0:(X.f k).dirty=true->¬(X.f k).id=0):Calls prog 86 #[p.ptr,.int .i64 k] w λe w'=>e=.returned (.int .i64 (X.clean k).1)/\Led (PW RR ok p (X.clean k).2 (m+1)) F w w':=by
 unfold PS.clean;by_cases hd:(X.f k).dirty=true
 .rw[if_pos hd]
  have hid0:=h0 hd;by_cases he:(X.D.write (X.f k).id (X.f k).val).1=0
  .rw[if_pos he]
   refine(j4 S H.1 (by omega) hk hd he).mono ?_;rintro e w'⟨he',hl⟩;refine⟨he',hl.mono (λF' h'=>?_)⟩
   dsimp only[CT]at h'
   have hw:PW RR ok p {X with f:=upd X.f k {X.f k with dirty:=false},D:=(X.D.write (X.f k).id (X.f k).val).2} (m+1) w' F':=⟨by
    unfold CT
    dsimp only
    rw[ry (λx=>RS.write_has _ _ _ x),iK (x:={X.f k with dirty:=false}) hk rfl,dE hk,da hk,bC (dN hk),bC (dt hk)];exact h',(H.2.1.keep (x:={X.f k with dirty:=false}) hk rfl hid0 (H.2.1.vf k hk)).write _ (H.2.1.vf k hk),by
    show ok (m+1) X.A (pgO (upd X.f k {X.f k with dirty:=false})) (evO (upd X.f k {X.f k with dirty:=false}))
    rw[dc,cU];refine S.same (S.more H.2.2 (Nat.le_succ m)) (λi hi=>?_) (λi hi q=>?_)
    .by_cases e:i=k
     .rw[e,upd_same];rfl
     .rw[ab _ _ e]
    .by_cases e:i=k
     .rw[e,upd_same];rfl
     .rw[ab _ _ e]⟩
   exact hw
  .rw[if_neg he]
   refine(iy S H.1 (by omega) hk hd he).mono ?_;rintro e w'⟨he',hl⟩;refine⟨he',hl.mono (λF' h'=>?_)⟩
   dsimp only[CT]at h'
   have hw:PW RR ok p {X with D:=(X.D.write (X.f k).id (X.f k).val).2} (m+1) w' F':=⟨by
    unfold CT
    dsimp only
    rw[ry (λx=>RS.write_has _ _ _ x)];exact h',H.2.1.write _ (H.2.1.vf k hk),S.more H.2.2 (Nat.le_succ m)⟩
   exact hw
 .rw[if_neg hd]
  refine(jY S H.1 hk (Bool.eq_false_iff.2 hd)).mono ?_;rintro e w'⟨he',hl⟩;exact⟨he',hl.mono (λF' h'=>PW.more S (⟨h',H.2⟩:PW RR ok p X m w' F') (by omega))⟩
theorem AZ(H:PW RR ok p X m w F)(hm:m<60000){id:Nat}(hu:id<4294967296):Calls prog 47 #[p.ptr,.int .u32 id] w λe w'=>e=.returned (.int .i64 (X.flush p.n id).1)/\Led (PW RR ok p (X.flush p.n id).2 (m+10)) F w w':=by
 unfold PS.flush;by_cases hh:X.D.has id=true
 .rw[if_pos hh]
  cases hk:frm p.n X.f id with
  |none=>
   dsimp only
   have HA:=Hd (aK H.1.me hu (eH hh hk));have HL:=Hd (Led.refl (H.more S (show m<=m+10 by omega)));unfold PP.ptr at*;clear H S hu hh hk;go_enter func47,ntmps47
   go_wp2_with fail
   refine HA.out.mono ?_;rintro e w1⟨rfl,rfl⟩;go_wp2;go_returns;exact⟨rfl,HL.out⟩
  |some k=>
   dsimp only
   obtain⟨h1,h2,h3⟩:=H.2.1.fpos hh hk;have HA:=Hd (aK H.1.me hu (ec hh hk));have HC:=Hd ((qJ S H (by omega) h1 (λ_=>by omega)).mono (λe w' ⟨he,hl⟩=>(⟨he,hl.mono (λF' h=>h.more S (by omega))⟩:e=Ending.returned (.int .i64 (X.clean k).1)/\Led (PW RR ok p (X.clean k).2 (m+10)) F w w')));have hne:((k:Int)==(-1))=false:=by simp<;>omega
   generalize X.clean k=R at*;unfold PP.ptr at*;clear H S hu hh hk h2;go_enter func47,ntmps47
   go_wp2_with fail
   refine HA.out.mono ?_;rintro e w1⟨rfl,rfl⟩
   go_wp2_with fail
   refine HC.out.mono ?_;rintro e w1⟨rfl,hl⟩;have HL:=Hd hl;clear hl;go_wp2;go_returns;exact⟨rfl,HL.out⟩
 .rw[if_neg hh]
  have HA:=Hd (eA H.1.me hu (dV (by simpa using hh)));have HL:=Hd (Led.refl (H.more S (show m<=m+10 by omega)));unfold PP.ptr at*;clear H S hu hh;go_enter func47,ntmps47
  go_wp2_with fail
  refine HA.out.mono ?_;rintro e w1⟨rfl,rfl⟩;go_wp2;go_returns;exact⟨rfl,HL.out⟩
end
section
variable{τ:Type}{P:Adv τ}{RR:World->τ->(Nat->Prop)->Prop}{ok:Nat->τ->(Nat->Nat)->(Nat->Bool)->Prop}{p:PP}(S:aJ P RR p.pb p.rv p.n ok){w w':World}{m:Nat}{F:Nat->Prop}{X:PS τ}{T:PT τ}
theorem Ad{n:Nat}{f:Nat->FrS}{D:RS}{id:Nat}(hI:∃s,cu s D)(hh:D.has id=true):plO n f (D.free id).2=bP (plO n f D) id none:=by
 obtain⟨s,hs⟩:=hI
 funext y
 by_cases e:y=id
 .rw[e,b9]
  exact dV (by rw[hs.free_has hh];simp)
 .rw[bH _ _ e]
  unfold plO;rw[hs.free_has hh,decide_eq_true e,Bool.true_and]
include S
theorem pS(H:PW RR ok p X m w F){id:Nat}(hu:id<4294967296)(hh:X.D.has id=true)(hno:∀i,i<p.n->¬(X.f i).id=id)(ty:TypeId):∃w1,(Builtin.delete_ #[110,42] ty #[.map (some p.mb),.int .u32 (id:Nat)]).run prog w=.ok (.tuple #[]) w1/\Led (PI RR p {CT p.n X with pl:=bP (plO p.n X.f X.D) id none} m) F w w1/\
  (∀w2 F2,PI RR p {CT p.n X with pl:=bP (plO p.n X.f X.D) id none} m w2 F2->Calls prog 78 #[.pointer (some ⟨p.db,0,none⟩),.int .u32 id] w2 λe w'=>e=.returned (.int .i64 0)/\Led (PW RR ok p {X with D:=(X.D.free id).2} m) F2 w2 w'):=by
 obtain⟨w1,r1,h1,g1⟩:=H.1.me.del hu ty;refine⟨w1,r1,H.1.set h1 (g1.mono (λi q=>.inr (.inr (.inl q)))) (Nat.le_refl _) S,λw2 F2 h2=>?_⟩;refine(h2.free S hu).mono ?_;rintro e w'⟨he,hl⟩;obtain⟨s,hs⟩:=H.2.1.dr;have e0:(X.D.free id).1=0:=(hs.free_yes (by rw[<-hs.hasE];exact hh)).1;refine⟨by rw[he];show Ending.returned (.int .i64 ((X.D.free id).1:Nat))=_;rw[e0];rfl,hl.mono (λF' h'=>?_)⟩
 dsimp only[CT]at h'
 have hw:PW RR ok p {X with D:=(X.D.free id).2} m w' F':=⟨by
  unfold CT
  dsimp only
  rw[Ad H.2.1.dr hh];exact h',H.2.1.free hno,H.2.2⟩
 exact hw
theorem Gl(H:PW RR ok p X m w F)(hm:m<60000){id k:Nat}(hu:id<4294967296)(hh:X.D.has id=true)(hk:frm p.n X.f id=some k)(hp:(X.f k).pins=0):Calls prog 49 #[p.ptr,.int .u32 id] w λe w'=>e=.returned (.int .i64 0)/\Led (PW RR ok p {X with f:=upd X.f k zF,D:=(X.D.free id).2,A:=P.remove X.A k} (m+1)) F w w':=by
 obtain⟨h1,h2,h3⟩:=H.2.1.fpos hh hk;have HA:=Hd (aK H.1.me hu (ec hh hk));have HR:=Hd (oq S H (by omega) h1 (by omega))
 have hno:∀i,i<p.n->¬(upd X.f k zF i).id=id:=λi hi q=>by
  by_cases e:i=k
  .rw[e,upd_same]at q;exact absurd q (by show¬0=id;omega)
  .rw[ab _ _ e]at q;exact e (H.2.1.inj i k hi h1 (by omega) (by rw[q,h2]))
 have KD:Hid (∀(ty:TypeId) w1 F1,PW RR ok p {X with f:=upd X.f k zF,A:=P.remove X.A k} (m+1) w1 F1->_):=λty w1 F1 h=>pS S (w:=w1) (F:=F1) h hu hh hno ty
 have KC:Hid (∀w1 F1,PW RR ok p {X with f:=upd X.f k zF,A:=P.remove X.A k} (m+1) w1 F1->p.pb<w1.heap.size/\w1.cell? ⟨p.pb,3,none⟩=some (.map (some p.mb))):=λw1 F1 h=>⟨h.1.me.hd.lt,h.1.me.ce 3 (by omega)⟩
 have KC0:Hid (∀w1 F1 T j,PI RR p T j w1 F1->w1.cell? ⟨p.pb,0,none⟩=some (.pointer (some ⟨p.db,0,none⟩))/\p.pb<w1.heap.size):=λw1 F1 T j h=>h.c0
 have c2:w.cell? ⟨p.pb,2,none⟩=some (.slice (some ⟨p.fb,0,none⟩) p.n p.n):=H.1.me.ce 2 (by omega);have hn:=H.1.me.hn;have lb:=H.1.me.hd.lt;have lf:=H.1.me.fr.lt;obtain⟨_,_,cp,_⟩:=H.1.me.cf h1;rw[show(CT p.n X).f=X.f from rfl,hp]at cp;have hne:((k:Int)==(-1))=false:=by simp<;>omega
 unfold PP.ptr at*;clear H S hh hk h2 hp hno h3;have HU:=Hd hu;clear hu;go_enter func49,ntmps49
 go_wp2_with fail
 refine HA.out.mono ?_;rintro e w1⟨rfl,rfl⟩
 go_wp2_with fail
 refine HR.out.mono ?_;rintro e w1⟨rfl,F1,g1,f1,k1⟩;obtain⟨x1,x2⟩:=KC.out w1 F1 g1;obtain⟨w2,r2,⟨F2,g2,f2,k2⟩,hfree⟩:=KD.out 0 w1 F1 g1;obtain⟨x3,x4⟩:=KC0.out w2 F2 _ _ g2;have HFR:=Hd (hfree w2 F2 g2);have FF1:=Hd f1;have KK1:=Hd k1;have FF2:=Hd f2;have KK2:=Hd k2;clear g1 f1 k1 g2 f2 k2 hfree KD KC KC0 HR
 go_wp2_with fail
 refine HFR.out.mono ?_;rintro e w3⟨rfl,hl⟩;have HL:=Hd hl;clear hl;go_wp2;go_returns;exact⟨rfl,Led.trans FF1.out KK1.out (Led.trans FF2.out KK2.out HL.out)⟩
theorem Ft(H:PW RR ok p X m w F){id:Nat}(hu:id<4294967296)(hh:X.D.has id=true)(hk:frm p.n X.f id=none):Calls prog 49 #[p.ptr,.int .u32 id] w λe w'=>e=.returned (.int .i64 0)/\Led (PW RR ok p {X with D:=(X.D.free id).2} m) F w w':=by
 have HA:=Hd (aK H.1.me hu (eH hh hk));have c3:w.cell? ⟨p.pb,3,none⟩=some (.map (some p.mb)):=H.1.me.ce 3 (by omega);have lb:=H.1.me.hd.lt;obtain⟨w2,r2,⟨F2,g2,f2,k2⟩,hfree⟩:=pS S H hu hh (dT hk) 0;obtain⟨x3,x4⟩:=g2.c0;have HFR:=Hd (hfree w2 F2 g2);have FF2:=Hd f2;have KK2:=Hd k2;unfold PP.ptr at*;clear H S hh hk g2 f2 k2 hfree;have HU:=Hd hu;clear hu;go_enter func49,ntmps49
 go_wp2_with fail
 refine HA.out.mono ?_;rintro e w1⟨rfl,rfl⟩
 go_wp2_with fail
 refine HFR.out.mono ?_;rintro e w3⟨rfl,hl⟩;have HL:=Hd hl;clear hl;go_wp2;go_returns;exact⟨rfl,Led.trans FF2.out KK2.out HL.out⟩
theorem Gh(H:PW RR ok p X m w F){id:Nat}(hu:id<4294967296)(hh:X.D.has id=false):Calls prog 49 #[p.ptr,.int .u32 id] w λe w'=>e=.returned (.int .i64 3)/\w=w':=by
 have HA:=Hd (eA H.1.me hu (dV hh));unfold PP.ptr at*;clear H S hh hu;go_enter func49,ntmps49
 go_wp2_with fail
 refine HA.out.mono ?_;rintro e w1⟨rfl,rfl⟩;go_wp2;go_returns;exact⟨rfl,rfl⟩
theorem E4(H:PW RR ok p X m w F){id k:Nat}(hu:id<4294967296)(hh:X.D.has id=true)(hk:frm p.n X.f id=some k)(hp:¬(X.f k).pins=0):Calls prog 49 #[p.ptr,.int .u32 id] w λe w'=>e=.returned (.int .i64 4)/\w=w':=by
 obtain⟨h1,h2,h3⟩:=H.2.1.fpos hh hk;have HA:=Hd (aK H.1.me hu (ec hh hk));have c2:w.cell? ⟨p.pb,2,none⟩=some (.slice (some ⟨p.fb,0,none⟩) p.n p.n):=H.1.me.ce 2 (by omega);have hn:=H.1.me.hn;have lb:=H.1.me.hd.lt;have lf:=H.1.me.fr.lt;obtain⟨_,_,cp,_⟩:=H.1.me.cf h1;rw[show(CT p.n X).f=X.f from rfl]at cp;have hgt:decide (((X.f k).pins:Int)>0)=true:=decide_eq_true (by omega);have hgt2:decide (0<((X.f k).pins:Int))=true:=decide_eq_true (by omega);have hgt3:decide (0<(X.f k).pins)=true:=decide_eq_true (by omega);have hgt4:0<(X.f k).pins:=by omega
 have hgt5:(0:Int)<((X.f k).pins:Int):=by omega
 have hne:((k:Int)==(-1))=false:=by simp<;>omega
 generalize(X.f k).pins=q at*;unfold PP.ptr at*;clear H S hh hu hk h2 hp h3;go_enter func49,ntmps49
 go_wp2_with fail
 refine HA.out.mono ?_;rintro e w1⟨rfl,rfl⟩;go_wp2;go_returns;exact⟨rfl,rfl⟩
theorem Al(H:PW RR ok p X m w F)(hm:m<60000){id:Nat}(hu:id<4294967296):Calls prog 49 #[p.ptr,.int .u32 id] w λe w'=>e=.returned (.int .i64 (X.delete P p.n id).1)/\Led (PW RR ok p (X.delete P p.n id).2 (m+10)) F w w':=by
 unfold PS.delete;by_cases hh:X.D.has id=true
 .rw[if_pos hh]
  cases hk:frm p.n X.f id with
  |none=>
   dsimp only
   exact(Ft S H hu hh hk).mono λe w' ⟨he,hl⟩=>⟨he,hl.mono (λF' h=>h.more S (by omega))⟩
  |some k=>
   dsimp only
   by_cases hp:(X.f k).pins=0
   .rw[if_pos hp]
    exact(Gl S H hm hu hh hk hp).mono λe w' ⟨he,hl⟩=>⟨he,hl.mono (λF' h=>h.more S (by omega))⟩
   .rw[if_neg hp]
    refine(E4 S H hu hh hk hp).mono ?_;rintro e w'⟨he,rfl⟩;exact⟨he,Led.refl (H.more S (by omega))⟩
 .rw[if_neg hh]
  refine(Gh S H hu (by simpa using hh)).mono ?_;rintro e w'⟨he,rfl⟩;exact⟨he,Led.refl (H.more S (by omega))⟩
end
def cmpZ(x y:Int):Int:=if x<y then-1 else if y<x then 1 else 0
theorem E9(z:Nat)(w:World):Calls prog 129 #[.int .u32 z] w λe w'=>e=.returned (.bool false)/\w=w':=by
 go_enter func129,ntmps129;go_wp2;go_returns;exact⟨by simp,rfl⟩
theorem Hy(x y:Nat)(w:World):Calls prog 114 #[.int .u32 x,.int .u32 y] w λe w'=>e=.returned (.int .i64 (cmpZ x y))/\w=w':=by
 unfold cmpZ;by_cases h1:(x:Int)<y
 .rw[if_pos h1]
  go_enter func114,ntmps114
  go_wp2_with(go_at_call 129;refine(E9 _ _).mono ?_;rintro e w'⟨rfl,rfl⟩)
  go_returns;exact⟨rfl,rfl⟩
 .rw[if_neg h1]
  have h1':(y:Int)<=x:=by omega
  by_cases h2:(y:Int)<x
  .rw[if_pos h2]
   go_enter func114,ntmps114
   go_wp2_with(go_at_call 129;refine(E9 _ _).mono ?_;rintro e w'⟨rfl,rfl⟩)
   go_returns;exact⟨rfl,rfl⟩
  .rw[if_neg h2]
   have h2':(x:Int)<=y:=by omega
   go_enter func114,ntmps114
   go_wp2_with(go_at_call 129;refine(E9 _ _).mono ?_;rintro e w'⟨rfl,rfl⟩)
   go_returns;exact⟨rfl,rfl⟩
def dirL(f:Nat->FrS)(k:Nat):List Nat:=(List.range k).filter λi=>(f i).dirty
theorem xP(f:Nat->FrS)(k:Nat):dirL f (k+1)=if(f k).dirty=true then dirL f k++[k]else dirL f k:=by
 unfold dirL;rw[List.range_succ,List.filter_append]
 cases h:(f k).dirty<;>simp[h]
theorem oF(f:Nat->FrS)(k:Nat):(dirL f k).length<=k:=by
 have:=List.length_filter_le (λi=>(f i).dirty) (List.range k)
 rwa [List.length_range]at this
theorem iX{f:Nat->FrS}{k x:Nat}:x∈dirL f k↔x<k/\(f x).dirty=true:=by
 unfold dirL;simp
section
variable{w w':World}{p:PP}{f:Nat->FrS}{pl:Nat->Option Int}{E I:Nat->Bool}{sc m:Nat}
theorem sD(H:MP w p f pl E I sc m){b x y:Nat}(hx:x<p.n)(hy:y<p.n)(hb:w.cell? ⟨b,0,none⟩=some p.ptr)(hbl:b<w.heap.size):Calls prog 113 #[.int .i64 x,.int .i64 y,.pointer (some ⟨b,0,none⟩)] w λe w'=>e=.returned (.int .i64 (cmpZ (f x).id (f y).id))/\∃q,w'=w.drewN q:=by
 have c2:w.cell? ⟨p.pb,2,none⟩=some (.slice (some ⟨p.fb,0,none⟩) p.n p.n):=H.ce 2 (by omega);have lb:=H.hd.lt;have lf:=H.fr.lt;have hn:=H.hn;have cx:=(H.cf hx).1;have cy:=(H.cf hy).1;have HC:=Hd (λd=>Hy (f x).id (f y).id (w.drewN d));have hxi:(x:Int)<(p.n:Int):=by omega
 have hyi:(y:Int)<(p.n:Int):=by omega
 generalize(f x).id=xi at*;generalize(f y).id=yi at*;generalize cmpZ xi yi=r at*;unfold PP.ptr at hb;clear H;go_enter func113,ntmps113
 go_wp2_with fail
 go_quiet ((go_at_call 114;exact qs (HC.out _)))
 go_wp2;go_returns;exact⟨rfl,_,rfl⟩
def oC(p:PP)(f:Nat->FrS)(bx base:Nat):Prop:=∀(W:World) (v:Value) (l:List Nat),OwK .i64 base 3 W v l->bx<base->(∀x∈l,x<p.n)->l.length<=65535->W.cell? ⟨bx,0,none⟩=some p.ptr->bx<W.heap.size->(∃pl E I sc m,MP W p f pl E I sc m)->(∀i,p.own i->i<base)->0<base->
 Calls prog 112 #[v,.func (.func 113) #[] #[.pointer (some ⟨bx,0,none⟩)]] W λe w'=>e=.returned (.tuple #[])/\∃l':List Nat,l'.Perm l/\(∀i j (hi:i<l'.length) (hj:j<l'.length),i<j->¬(f l'[j]).id<(f l'[i]).id)/\SlK .i64 w' v l'/\Fr (λi=>v.ownBlock=some i) W w'
theorem qU(H:MP w p f pl E I sc m)(hs:oC p f w.heap.size (w.heap.size+1)):Calls prog 87 #[p.ptr] w λe w'=>∃v l',e=.returned v/\l'.Perm (dirL f p.n)/\(∀i j (hi:i<l'.length) (hj:j<l'.length),i<j->¬(f l'[j]).id<(f l'[i]).id)/\SlK .i64 w' v l'/\(∀i,v.ownBlock=some i->w.heap.size<=i)/\Fr NoF w w':=by
 obtain⟨b1,b2,b3⟩:=oV w p.ptr 32;have H1:=H.fr0 b3;have hlt:=H.lt;have htb:=Hd H.tab.lt;have hn:=H1.hn
 have KX:Hid (∀wr,Fr NoF (w.alloc (.cells #[p.ptr] 32)) wr->wr.cell? ⟨w.heap.size,0,none⟩=some p.ptr/\w.heap.size<wr.heap.size/\wr.cell? ⟨p.pb,2,none⟩=some (.slice (some ⟨p.fb,0,none⟩) p.n p.n)/\p.pb<wr.heap.size/\p.fb<wr.heap.size/\MP wr p f pl E I sc m):=λwr g=>by
  have h:=H1.fr0 g;have hz:=g.size;exact⟨by rw[g.cell (p:=⟨w.heap.size,0,none⟩) (by show w.heap.size<_;omega) (λq=>q)];exact b1,by omega,h.ce 2 (by omega),h.hd.lt,h.fr.lt,h⟩
 have KD:Hid (∀wr k,Fr NoF (w.alloc (.cells #[p.ptr] 32)) wr->k<p.n->wr.cell? ⟨p.fb,k*4+3,none⟩=some (.bool (f k).dirty)):=λwr k g hk=>((H1.fr0 g).cf hk).2.2.2
 have HSO:=Hd hs;have HLT:=Hd hlt;have B3:=Hd b3;have hbs:=b2;generalize hw2:(w.alloc (.cells #[p.ptr] 32))=w2 at*;clear H H1 hs hlt b1 b2 b3;obtain⟨x1,x2,x3,x4,x5,_⟩:=KX.out w2 (Fr.refl _ _);unfold PP.ptr at x1 hw2;unfold PP.ptr;go_enter func87,ntmps87
 go_wp2_with fail
 try rw[hw2]
 clear hw2
 go_loopw [3,10] (λo i wr=>∃k:Nat,k<=p.n/\i=.int .i64 k/\OwK .i64 (w.heap.size+1) 3 wr o (dirL f k)/\Fr NoF w2 wr) (λ_ i _=>p.n-(intOf i).toNat)
 case atStart=>exact⟨0,Nat.zero_le _,rfl,OwK.nil _ _ _ _,Fr.refl _ _⟩
 case round=>
  obtain⟨k,hk,rfl,ho,hf⟩:=hrel;obtain⟨y1,y2,y3,y4,y5,y6⟩:=KX.out wr hf;unfold PP.ptr at y1;have HO:=Hd ho;have HF:=Hd hf;have HY6:=Hd y6;have hsz:=hf.size;clear y6;by_cases hlt:k<p.n
  .have cd:=KD.out wr k hf hlt
   have hN:=xP f k;have hL:=oF f k;have hlt':(k:Int)<(p.n:Int):=by omega
   cases hd:(f k).dirty with
   |false=>
    rw[hd]at cd hN;rw[if_neg (by simp)]at hN;have HN:=Hd hN;clear hN ho hf hL;go_wp2
    go_roundw
    case rel=>exact⟨k+1,by omega,by go_num,by rw[HN.out];exact HO.out,HF.out⟩
    case measure=>simp[intOf];omega
   |true=>
    rw[hd]at cd hN;rw[if_pos rfl]at hN;have HN:=Hd hN;clear hN ho hf;generalize dirL f k=l at*
    go_wp2_with(at_builtin;go_must(refine jM (base:=w.heap.size+1) EIi rfl _ _ rfl (by rfl) (by rfl) (by simp;omega) (am HO.out ((Fr.refl NoF _).alloc _) (λ_ _ q=>q)) (SlC.ofOwn (bo (w0:=wr) (Nat.le_refl _) #[.int .i64 k] 3 1 1 _ rfl rfl (by unfold maxLen;omega)) (by simp[Value.oneCell'])) (by unfold maxLen;omega) (by omega) ?_);intro v' w5 hown' hf' _;have HF':=Hd hf';have HO':=Hd hown';clear hown' hf')
    go_roundw
    case rel=>
     refine⟨k+1,by omega,by go_num,?_,?_⟩
     .rw[HN.out];exact OwK.snoc HO'.out
     .refine(HF.out.alloc _).trans HF'.out (λi hi=>.inr ?_)
      have:=HO.out.base i hi;omega
    case measure=>simp[intOf];omega
  .obtain rfl:k=p.n:=by omega
   have hL:=oF f p.n;have HC:=Hd (HSO.out wr _ (dirL f p.n) ho (by omega) (λx hx=>(iX.1 hx).1) (by omega) y1 y2 ⟨pl,E,I,sc,m,HY6.out⟩ (λi q=>by have:=HLT.out i q;omega) (by have:=htb.out;omega));have hbase:=ho.base;have HB:=Hd hbase;clear ho hf hbase
   go_wp2_with fail
   refine HC.out.mono ?_;rintro e w5⟨rfl,l',p1,p2,p3,p4⟩;have P1:=Hd p1;have P2:=Hd p2;have P3:=Hd p3;have P4:=Hd p4;clear p1 p2 p3 p4 HC;go_wp2;go_returns;exact⟨_,l',rfl,P1.out,P2.out,P3.out,λi q=>by have:=HB.out i q;omega,(B3.out.trans HF.out (λ_ q=>q.elim)).trans P4.out (λi q=>.inr (by have:=HB.out i q;omega))⟩
end
def flF{τ:Type}(ax:Nat×PS τ)(k:Nat):Nat×PS τ:=(if(ax.2.clean k).1=0 then ax.1 else 7,(ax.2.clean k).2)
def PS.flushL{τ:Type}(X:PS τ)(l:List Nat):Nat×PS τ:=l.foldl flF (0,X)
theorem pZ{τ:Type}(X:PS τ)(l:List Nat){k:Nat}(hk:k<l.length):X.flushL (l.take (k+1))=flF (X.flushL (l.take k)) l[k]:=by
 unfold PS.flushL;rw[List.take_succ_eq_append_getElem hk,List.foldl_append];rfl
section
variable{τ:Type}{P:Adv τ}{RR:World->τ->(Nat->Prop)->Prop}{ok:Nat->τ->(Nat->Nat)->(Nat->Bool)->Prop}{p:PP}(S:aJ P RR p.pb p.rv p.n ok){w w':World}{m:Nat}{F:Nat->Prop}{X:PS τ}{T:PT τ}
include S
theorem Bb(H:PW RR ok p X m w F)(hm:m<60000)(hn:p.n<=64)(hs:oC p X.f w.heap.size (w.heap.size+1)):Calls prog 48 #[p.ptr] w λe w'=>∃l':List Nat,l'.Perm (dirL X.f p.n)/\(∀i j (hi:i<l'.length) (hj:j<l'.length),i<j->¬(X.f l'[j]).id<(X.f l'[i]).id)/\e=.returned (.int .i64 (X.flushL l').1)/\Led (PW RR ok p (X.flushL l').2 (m+100)) F w w':=by
 have HD:=Hd (qU H.1.me hs);have HF0:Hid (∀w2,Fr NoF w w2->PW RR ok p X m w2 F):=λw2 g=>H.fr0 S g
 have KC:Hid (∀(Y:PS τ) j k w2 F2,PW RR ok p Y j w2 F2->j<65000->k<p.n->Calls prog 86 #[p.ptr,.int .i64 k] w2 λe w'=>e=.returned (.int .i64 (Y.clean k).1)/\Led (PW RR ok p (Y.clean k).2 (j+1)) F2 w2 w'):=λY j k w2 F2 h hj hk=>
  qJ S h (by omega) hk (λhd q=>by rw[h.2.1.em k hk q]at hd;cases hd)
 have KM:Hid (∀(Y:PS τ) j k w2 F2,PW RR ok p Y j w2 F2->j<=k->PW RR ok p Y k w2 F2):=λY j k w2 F2 h hj=>h.more S hj
 have hFl:=H.1.lt S;have HFL:=Hd hFl;have HX:=Hd (show CT p.n X=CT p.n X from rfl);rw[show(CT p.n X).f=X.f from rfl]at HD;unfold PP.ptr at*;clear H S hs hFl;go_enter func48,ntmps48
 go_wp2_with fail
 refine HD.out.mono ?_;rintro e w2⟨v,l,rfl,d1,d2,d3,d4,d5⟩;obtain⟨sa,sc,rfl,s1,s2⟩:=SlK.shape d3;have hlen:l.length<=p.n:=by rw[d1.length_eq];exact oF _ _
 have D1:=Hd d1;have D2:=Hd d2;have D3:=Hd d3;have D4:=Hd d4;have D5:=Hd d5;have HSC:=Hd s2;have HMEM:Hid (∀x∈l,x<p.n):=λx hx=>(iX.1 (d1.mem_iff.1 hx)).1
 clear d1 d2 d3 d4 d5 HD s2
 go_wp2_with fail
 go_loopw [3,11] (λo i wr=>∃k:Nat,k<=l.length/\i=.int .i64 k/\o=.int .i64 (X.flushL (l.take k)).1/\Led (PW RR ok p (X.flushL (l.take k)).2 (m+k)) F w2 wr) (λ_ i _=>l.length-(intOf i).toNat)
 case atStart=>exact⟨0,Nat.zero_le _,rfl,by simp[PS.flushL],by simp only[List.take_zero];exact Led.refl (HF0.out w2 D5.out)⟩
 case round=>
  obtain⟨k,hk,rfl,rfl,F3,h3,g3,q3⟩:=hrel;have lb:=h3.1.me.hd.lt;have G3:=Hd g3;have Q3:=Hd q3;by_cases hlt:k<l.length
  .have hlt':(k:Int)<(l.length:Int):=by omega
   obtain⟨b,off,c,ev,z1,z2,z3,z4⟩:=(SlK.fr D3.out g3 (λb q e=>by have h9:=D4.out b q;have h10:=HFL.out b e;omega)).at hlt;simp only[Value.slice.injEq]at ev;obtain⟨rfl,_,rfl⟩:=ev;have hnx:=pZ X l hlt;have HC:=Hd (KC.out _ _ l[k] wr F3 h3 (by omega) (HMEM.out _ (List.getElem_mem hlt)));generalize l[k]=fk at*;generalize X.flushL (l.take k)=Y at*;have HNX:=Hd hnx;clear h3 g3 q3 hnx;unfold maxLen at z2;have HZ2:=Hd z2;clear z2
   go_wp2_with fail
   refine HC.out.mono ?_;rintro e w4⟨rfl,h4⟩;have H4:=Hd (Led.trans G3.out Q3.out h4);clear h4 HC;by_cases hz:(Y.2.clean fk).1=0
   .have hz':((((Y.2.clean fk).1:Nat):Int)==0)=true:=by simp[hz]
    have hz2:((((Y.2.clean fk).1:Nat):Int) !=0)=false:=by simp[hz]
    have hz3:(((Y.2.clean fk).1:Nat):Int)=0:=by omega
    go_wp2
    go_roundw
    case rel=>exact⟨k+1,by omega,by go_num,by rw[HNX.out];unfold flF;dsimp only;rw[if_pos hz],by rw[HNX.out];exact H4.out⟩
    case measure=>simp[intOf];omega
   .have hz':((((Y.2.clean fk).1:Nat):Int)==0)=false:=by simp<;>exact hz
    go_wp2
    go_roundw
    case rel=>exact⟨k+1,by omega,by go_num,by rw[HNX.out];unfold flF;dsimp only;rw[if_neg hz];rfl,by rw[HNX.out];exact H4.out⟩
    case measure=>simp[intOf];omega
  .obtain rfl:k=l.length:=by omega
   rw[List.take_length]at h3;have H3:=Hd (KM.out _ _ (m+100) wr F3 h3 (by omega));clear h3 g3 q3;rw[List.take_length];go_wp2;go_returns;exact⟨l,D1.out,D2.out,rfl,Led.trans (D5.out.mono (λ_ q=>q.elim)) (λi q=>.inl q) ⟨F3,H3.out,G3.out,Q3.out⟩⟩
end
end
section
open Go.Maps Go.RowKit
structure AM where
 ids:List Nat
 val:Nat->Nat
 pin:Nat->Nat
 room:Nat
def AM.pinned(M:AM):List Nat:=M.ids.filter (λx=>decide (¬M.pin x=0))
def AM.full(n:Nat)(M:AM):Bool:=decide (n<=M.pinned.length)
noncomputable def AM.gap(M:AM):Nat:=ah (M.ids.map (λx=>(x,0)))
def outI(l:List Nat)(x:Nat):List Nat:=match l.findIdx? (λy=>y==x)with|none=>l|some k=>l.take k++l.drop (k+1)
noncomputable def AM.newPage(n:Nat)(M:AM):(Nat×Nat)×AM:=
 if M.full n=true then((0,6),M)else if M.room<=M.ids.length then((0,2),M)
 else((M.gap+1,0),{M with ids:=M.ids.take M.gap++[M.gap+1]++M.ids.drop M.gap,val:=upd M.val (M.gap+1) 0,pin:=upd M.pin (M.gap+1) 1})
def AM.fetch(n:Nat)(M:AM)(id:Nat):Nat×AM:=
 if id∈M.ids then(if M.pin id=0/\M.full n=true then(6,M)else(0,{M with pin:=upd M.pin id (M.pin id+1)}))else(3,M)
def AM.held(M:AM)(id:Nat):Nat:=if id∈M.ids then(if M.pin id=0 then 5 else 0)else 3
def AM.unpin(M:AM)(id:Nat):Nat×AM:=if M.held id=0 then(0,{M with pin:=upd M.pin id (M.pin id-1)})else(M.held id,M)
def AM.read(M:AM)(id:Nat):Nat×Nat:=if M.held id=0 then(M.val id,0)else(0,M.held id)
def AM.write(M:AM)(id v:Nat):Nat×AM:=if M.held id=0 then(0,{M with val:=upd M.val id v})else(M.held id,M)
def AM.flush(M:AM)(id:Nat):Nat:=if id∈M.ids then 0 else 3
def AM.delete(M:AM)(id:Nat):Nat×AM:=
 if id∈M.ids then(if M.pin id=0 then(0,{M with ids:=outI M.ids id})else(4,M))else(3,M)
theorem jo(a:Nat×Nat)(l:List (Nat×Nat))(x:Nat):aB (a::l) x=if a.1=x then a.2 else aB l x:=by
 unfold aB atP;rw[List.findIdx?_cons];by_cases e:a.1=x
 .simp[e]
 .have:(a.1==x)=false:=by simp[e]
  rw[this,if_neg e];simp only[Bool.false_eq_true,if_false]
  cases l.findIdx? (λp=>p.1==x)with
  |none=>rfl
  |some j=>simp
theorem qB(A B:List (Nat×Nat))(p:Nat×Nat){x:Nat}(h:¬x=p.1):aB (A++p::B) x=aB (A++B) x:=by
 induction A with
 |nil=>rw[List.nil_append,List.nil_append,jo,if_neg (λe=>h e.symm)]
 |cons a A ih=>rw[List.cons_append,List.cons_append,jo,jo,ih]
structure xG(D:RS):Prop where
 st:D.stops=false
 nr:D.nr=[]
 ns:D.ns=[]
theorem dD(D:RS)(id:Nat):D.has id=true↔id∈D.ids:=D.has_iff id
theorem gM{D:RS}{id:Nat}(h:id∈D.ids):∃A v B,D.L=A++(id,v)::B/\(∀p∈A,¬p.1=id)/\atP D.L id=some A.length/\aB D.L id=v:=by
 rcases atP_of (l:=D.L) (id:=id)with⟨h1,h2⟩|q
 .obtain⟨p,hp,e⟩:=List.mem_map.1 h
  exact(h2 p hp e).elim
 .exact q
theorem kM{D:RS}{id:Nat}(F:xG D)(h:id∈D.ids)(v:Nat):(D.write id v).1=0/\xG (D.write id v).2/\(D.write id v).2.ids=D.ids/\(D.write id v).2.room=D.room/\∀x,aB (D.write id v).2.L x=if x=id then v else aB D.L x:=by
 obtain⟨A,u,B,e1,e2,e3,e4⟩:=gM h;have hs:D.stopped=false:=by unfold RS.stopped;rw[F.st];rfl
 have hf:(bn D.ns id).2=false:=by rw[F.ns];rfl
 have hw:D.write id v=(0,{D with L:=D.L.set A.length ((D.L.getD A.length (0,0)).1,v),wr:=D.wr+1,left:=D.left-1}):=by
  unfold RS.write;rw[e3];simp only[hs,hf,Bool.false_eq_true,if_false]
 have hL:D.L.set A.length ((D.L.getD A.length (0,0)).1,v)=A++(id,v)::B:=by
  rw[e1];have:(A++(id,u)::B).getD A.length (0,0)=(id,u):=by simp[List.getD]
  rw[this];simp
 refine⟨by rw[hw],by rw[hw];exact⟨F.st,F.nr,F.ns⟩,(RS.write_ids D id v).1,(RS.write_ids D id v).2,λx=>?_⟩;rw[hw]
 show aB (D.L.set A.length ((D.L.getD A.length (0,0)).1,v)) x=_
 rw[hL];by_cases c:x=id
 .subst c;rw[if_pos rfl,cm e2]
 .rw[if_neg c,e1];exact mt c
theorem xW{D:RS}{id:Nat}(F:xG D)(h:id∈D.ids):(D.read id).1=(aB D.L id,0)/\xG (D.read id).2/\(D.read id).2.ids=D.ids/\(D.read id).2.room=D.room/\(D.read id).2.L=D.L:=by
 obtain⟨A,u,B,e1,e2,e3,e4⟩:=gM h;have hs:D.stopped=false:=by unfold RS.stopped;rw[F.st];rfl
 have hf:(bn D.nr id).2=false:=by rw[F.nr];rfl
 have hw:D.read id=(((D.L.getD A.length (0,0)).2,0),{D with rd:=D.rd+1,left:=D.left-1}):=by
  unfold RS.read;rw[e3];simp only[hs,hf,Bool.false_eq_true,if_false]
 refine⟨?_,by rw[hw];exact⟨F.st,F.nr,F.ns⟩,by rw[hw];rfl,by rw[hw],by rw[hw]⟩;rw[hw]
 show((D.L.getD A.length (0,0)).2,0)=_
 rw[e4,e1];simp[List.getD]
theorem AV(D:RS)(k:Nat):(D.ins k).ids=D.ids.take k++[k+1]++D.ids.drop k/\∀x,¬x=k+1->aB (D.ins k).L x=aB D.L x:=by
 constructor
 .unfold RS.ids RS.ins
  simp only[List.map_append,List.map_cons,List.map_nil,List.map_take,List.map_drop]
 .intro x hx
  unfold RS.ins
  dsimp only
  rw[List.append_assoc,List.singleton_append,qB _ _ _ hx,List.take_append_drop]
theorem yf{D:RS}{id:Nat}(h:id∈D.ids):(D.free id).1=0/\(D.free id).2.ids=outI D.ids id/\(D.free id).2.room=D.room/\(D.free id).2.stops=D.stops/\(D.free id).2.nr=D.nr/\(D.free id).2.ns=D.ns/\∀x,¬x=id->aB (D.free id).2.L x=aB D.L x:=by
 obtain⟨A,u,B,e1,e2,e3,e4⟩:=gM h
 have hw:D.free id=(0,{D with L:=D.L.take A.length++D.L.drop (A.length+1)}):=by
  unfold RS.free;rw[e3]
 have hL:D.L.take A.length++D.L.drop (A.length+1)=A++B:=by
  rw[e1];simp
 refine⟨by rw[hw],?_,by rw[hw],by rw[hw],by rw[hw],by rw[hw],λx hx=>?_⟩
 .rw[hw]
  show((D.L.take A.length++D.L.drop (A.length+1)).map (·.1))=_
  have:D.ids.findIdx? (λy=>y==id)=some A.length:=by
   unfold RS.ids;rw[List.findIdx?_map];exact e3
  unfold outI;rw[this];unfold RS.ids;simp only[List.map_append,List.map_take,List.map_drop]
 .rw[hw]
  show aB (D.L.take A.length++D.L.drop (A.length+1)) x=_
  rw[hL,e1,qB _ _ _ hx]
theorem Dp{L L':List (Nat×Nat)}(h:L.map (·.1)=L'.map (·.1)):ah L=ah L':=by
 have hl:L.length=L'.length:=by have:=congrArg List.length h;simpa using this
 have hg:∀j (h1:j<L.length) (h2:j<L'.length),L[j].1=L'[j].1:=λj h1 h2=>by
  have e:(L.map (·.1))[j]?=(L'.map (·.1))[j]?:=by rw[h]
  rw[List.getElem?_map,List.getElem?_map,List.getElem?_eq_getElem h1,List.getElem?_eq_getElem h2]at e;simpa using e
 have g:=bS L;refine Gap.same (L:=L') ⟨by rw[<-hl];exact g.le,λj hj hk=>?_,λhk=>?_⟩ (bS L')
 .rw[<-hg j (by omega) hj];exact g.all j (by omega) hk
 .rw[<-hg _ (by omega) hk];exact g.not (by omega)
theorem ny{D:RS}(h:∃s,cu s D):D.ids.Nodup:=by
 obtain⟨s,hs⟩:=h;unfold RS.ids;rw[hs.L];unfold plL plR;rw[List.map_map];refine List.Pairwise.map _ (R:=λa b=>¬a=b) (λa b q e=>q ?_) (List.Pairwise.filter _ List.nodup_range');simpa using e
def cX(n:Nat)(f:Nat->FrS)(id:Nat):Nat:=match frm n f id with|some k=>(f k).pins|none=>0
def ba(n:Nat)(f:Nat->FrS)(L:List (Nat×Nat))(id:Nat):Nat:=match frm n f id with|some k=>(f k).val|none=>aB L id
section
variable{n k id:Nat}{f:Nat->FrS}{D:RS}{x:FrS}{L:List (Nat×Nat)}
theorem re(H:Inv n f D)(hk:k<n)(h0:¬(f k).id=0)(hx:x.id=(f k).id):frm n (upd f k x) id=frm n f id/\(id=(f k).id->frm n f id=some k)/\(¬id=(f k).id->∀j,frm n f id=some j->¬j=k):=
 ⟨iO hk hx id,λe=>H.atf hk e.symm (e▸h0),λe j hj c=>by
  obtain⟨_,q⟩:=cK hj;rw[c]at q;exact e q.symm⟩
theorem m8(H:Inv n f D)(hk:k<n)(h0:¬(f k).id=0)(hx:x.id=(f k).id):cX n (upd f k x) id=if id=(f k).id then x.pins else cX n f id:=by
 obtain⟨e1,e2,e3⟩:=re (id:=id) H hk h0 hx;unfold cX;rw[e1];by_cases c:id=(f k).id
 .rw[if_pos c,e2 c];simp only[upd_same]
 .rw[if_neg c]
  cases q:frm n f id with
  |none=>rfl
  |some j=>simp only[ab _ _ (e3 c j q)]
theorem lL(H:Inv n f D)(hk:k<n)(h0:¬(f k).id=0)(hx:x.id=(f k).id):ba n (upd f k x) L id=if id=(f k).id then x.val else ba n f L id:=by
 obtain⟨e1,e2,e3⟩:=re (id:=id) H hk h0 hx;unfold ba;rw[e1];by_cases c:id=(f k).id
 .rw[if_pos c,e2 c];simp only[upd_same]
 .rw[if_neg c]
  cases q:frm n f id with
  |none=>rfl
  |some j=>simp only[ab _ _ (e3 c j q)]
theorem qX(H:Inv n f D)(hk:k<n)(h0:¬(f k).id=0)(h1:1<=id):frm n (upd f k zF) id=if id=(f k).id then none else frm n f id:=by
 by_cases c:id=(f k).id
 .rw[if_pos c]
  apply cJ;intro i hi e;by_cases d:i=k
  .rw[d,upd_same]at e
   have:(0:Nat)=id:=e;omega
  .rw[ab _ _ d]at e
   exact d (H.inj k i hk hi h0 (by rw[e,c])).symm
 .rw[if_neg c]
  exact ii hk (λi hi=>ab _ _ hi) (λe=>c e.symm) (by rw[upd_same];show¬0=id;omega)
theorem kG(hj:frm n f id=some k){i:Nat}(h:¬(f i).id=id):¬k=i:=λe=>h (e▸(cK hj).2)
theorem mZ(H:Inv n f D)(hk:k<n)(h0:¬(f k).id=0)(h1:1<=id):cX n (upd f k zF) id=if id=(f k).id then 0 else cX n f id:=by
 unfold cX;rw[qX H hk h0 h1];by_cases c:id=(f k).id
 .rw[if_pos c,if_pos c]
 .rw[if_neg c,if_neg c]
  cases q:frm n f id with
  |none=>rfl
  |some j=>simp only[ab _ _ (kG q (λe=>c e.symm))]
theorem kL(H:Inv n f D)(hk:k<n)(h0:¬(f k).id=0)(h1:1<=id):ba n (upd f k zF) L id=if id=(f k).id then aB L id else ba n f L id:=by
 unfold ba;rw[qX H hk h0 h1];by_cases c:id=(f k).id
 .rw[if_pos c,if_pos c]
 .rw[if_neg c,if_neg c]
  cases q:frm n f id with
  |none=>rfl
  |some j=>simp only[ab _ _ (kG q (λe=>c e.symm))]
theorem qh(H:Inv n f D)(hk:k<n)(h0:(f k).id=0)(hx:1<=x.id)(hno:∀i,i<n->¬(f i).id=x.id)(h1:1<=id):frm n (upd f k x) id=if id=x.id then some k else frm n f id:=by
 by_cases c:id=x.id
 .rw[if_pos c]
  subst c
  have:fstB n (λi=>decide ((upd f k x i).id=x.id))=some k:=by
   unfold fstB
   cases e:(List.range n).find? (λi=>decide ((upd f k x i).id=x.id))with
   |none=>
    have:=List.find?_eq_none.1 e k (List.mem_range.2 hk);simp[upd_same]at this
   |some j=>
    have h2:=List.find?_some e;have h3:=List.mem_range.1 (List.mem_of_find?_eq_some e);by_cases d:j=k
    .rw[d]
    .simp only[ab _ _ d,decide_eq_true_eq]at h2
     exact(hno j h3 h2).elim
  exact this
 .rw[if_neg c]
  exact ii hk (λi hi=>ab _ _ hi) (by rw[h0];omega) (by rw[upd_same];exact λe=>c e.symm)
theorem yq(H:Inv n f D)(hk:k<n)(h0:(f k).id=0)(hx:1<=x.id)(hno:∀i,i<n->¬(f i).id=x.id)(h1:1<=id):cX n (upd f k x) id=if id=x.id then x.pins else cX n f id:=by
 unfold cX;rw[qh H hk h0 hx hno h1];by_cases c:id=x.id
 .rw[if_pos c,if_pos c];simp only[upd_same]
 .rw[if_neg c,if_neg c]
  cases q:frm n f id with
  |none=>rfl
  |some j=>simp only[ab _ _ (kG q (i:=k) (by rw[h0];omega))]
theorem sk(H:Inv n f D)(hk:k<n)(h0:(f k).id=0)(hx:1<=x.id)(hno:∀i,i<n->¬(f i).id=x.id)(h1:1<=id):ba n (upd f k x) L id=if id=x.id then x.val else ba n f L id:=by
 unfold ba;rw[qh H hk h0 hx hno h1];by_cases c:id=x.id
 .rw[if_pos c,if_pos c];simp only[upd_same]
 .rw[if_neg c,if_neg c]
  cases q:frm n f id with
  |none=>rfl
  |some j=>simp only[ab _ _ (kG q (i:=k) (by rw[h0];omega))]
end
structure Abs{τ:Type}(n:Nat)(X:PS τ)(M:AM):Prop where
 inv:Inv n X.f X.D
 ids:X.D.ids=M.ids
 room:X.D.room=M.room
 pin:∀id,1<=id->M.pin id=cX n X.f id
 val:∀id,1<=id->id∈M.ids->M.val id=ba n X.f X.D.L id
 cl:∀i,i<n->¬(X.f i).id=0->(X.f i).dirty=false->aB X.D.L (X.f i).id=(X.f i).val
 fine:xG X.D
section
variable{τ:Type}{P:Adv τ}{n k id v:Nat}{X:PS τ}{M:AM}
theorem Abs.pos(A:Abs n X M)(h:id∈M.ids):1<=id:=A.inv.pos ((dD _ _).2 (by rw[A.ids];exact h))
theorem Abs.has(A:Abs n X M)(id:Nat):X.D.has id=decide (id∈M.ids):=by
 cases e:X.D.has id with
 |true=>rw[<-A.ids];simp[(dD _ _).1 e]
 |false=>
  have:¬id∈M.ids:=λq=>by rw[(dD _ _).2 (by rw[A.ids];exact q)]at e;cases e
  simp[this]
theorem Abs.sub{τ':Type}(A:Abs n X M){X':PS τ'}(e1:X'.f=X.f)(e2:X'.D=X.D):Abs n X' M:=by
 obtain⟨f',D',A',sc'⟩:=X';simp only at e1 e2;subst e1 e2;exact⟨A.inv,A.ids,A.room,A.pin,A.val,A.cl,A.fine⟩
theorem Abs.fullE(A:Abs n X M):X.all n=M.full n:=by
 have hnd:M.ids.Nodup:=by rw[<-A.ids];exact ny A.inv.dr
 have hJ:(((List.range n).filter (λi=>decide (¬(X.f i).id=0)&&decide (¬(X.f i).pins=0))).map (λi=>(X.f i).id)).Perm M.pinned:=by
  refine(List.perm_ext_iff_of_nodup ?_ (hnd.filter _)).2 (λid=>?_)
  .have hn:=List.Pairwise.filter (λi=>decide (¬(X.f i).id=0)&&decide (¬(X.f i).pins=0)) (List.nodup_range (n:=n))
   refine List.pairwise_map.2 (List.Pairwise.imp_of_mem (λ{a b} ha hb hab e=>?_) hn);obtain⟨a1,a2⟩:=List.mem_filter.1 ha;obtain⟨b1,b2⟩:=List.mem_filter.1 hb;simp at a2;exact hab (A.inv.inj a b (List.mem_range.1 a1) (List.mem_range.1 b1) a2.1 e)
  .rw[List.mem_map,List.mem_filter]
   constructor
   .rintro⟨i,hi,rfl⟩
    obtain⟨i1,i2⟩:=List.mem_filter.1 hi;have i1:=List.mem_range.1 i1;simp at i2;have hm:(X.f i).id∈M.ids:=by rw[<-A.ids];exact(dD _ _).1 (A.inv.has i i1 i2.1)
    refine⟨hm,?_⟩;have hp:=A.pin (X.f i).id (by omega);unfold cX at hp;rw[A.inv.atf i1 rfl i2.1]at hp;simp[hp,i2.2]
   .rintro⟨h1,h2⟩
    have h2:¬M.pin id=0:=by simpa using h2
    have hp:=A.pin id (A.pos h1);unfold cX at hp
    cases e:frm n X.f id with
    |none=>rw[e]at hp;exact(h2 hp).elim
    |some j=>
     rw[e]at hp;obtain⟨j1,j2⟩:=cK e;have:=A.pos h1;refine⟨j,List.mem_filter.2 ⟨List.mem_range.2 j1,?_⟩,j2⟩;have hp:M.pin id=(X.f j).pins:=hp;simp;omega
 have hl:M.pinned.length=((List.range n).filter (λi=>decide (¬(X.f i).id=0)&&decide (¬(X.f i).pins=0))).length:=by rw[<-hJ.length_eq,List.length_map]
 unfold AM.full;rw[hl]
 have key:X.all n=true↔∀i,i<n->(decide (¬(X.f i).id=0)&&decide (¬(X.f i).pins=0))=true:=by
  unfold PS.all;constructor
  .intro h i hi
   simp only[Bool.and_eq_true,Option.isNone_iff_eq_none]at h;have q1:=bM h.1 i hi;have q2:=bM h.2 i hi;rw[dN hi]at q1;rw[dt hi]at q2;simp at q1 q2⊢;exact⟨q1,q2 q1⟩
  .intro h
   simp only[Bool.and_eq_true,Option.isNone_iff_eq_none];constructor
   .unfold fstB
    rw[List.find?_eq_none];intro i hi;have hi:=List.mem_range.1 hi;have:=h i hi;rw[dN hi];simp at this⊢;exact this.1
   .unfold fstB
    rw[List.find?_eq_none];intro i hi;have hi:=List.mem_range.1 hi;have:=h i hi;rw[dt hi];simp at this⊢;exact λ_=>this.2
 have hle:=List.length_filter_le (λi=>decide (¬(X.f i).id=0)&&decide (¬(X.f i).pins=0)) (List.range n);rw[List.length_range]at hle
 have hiff:(n<=((List.range n).filter (λi=>decide (¬(X.f i).id=0)&&decide (¬(X.f i).pins=0))).length)↔X.all n=true:=by
  rw[key];constructor
  .intro h i hi
   have he:((List.range n).filter (λi=>decide (¬(X.f i).id=0)&&decide (¬(X.f i).pins=0))).length=(List.range n).length:=by rw[List.length_range];omega
   exact List.length_filter_eq_length_iff.1 he i (List.mem_range.2 hi)
  .intro h
   have:(List.range n).filter (λi=>decide (¬(X.f i).id=0)&&decide (¬(X.f i).pins=0))=List.range n:=List.filter_eq_self.2 (λi hi=>h i (List.mem_range.1 hi));rw[this,List.length_range];exact Nat.le_refl _
 cases e:X.all n with
 |true=>rw[decide_eq_true (hiff.2 e)]
 |false=>rw[decide_eq_false (λq=>by rw[hiff.1 q]at e;cases e)]
end
end
end Go.Proofs.YtkjhnllcphidpaaGreatDoor
