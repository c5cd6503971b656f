/- Part 34. -/
import Derived.Test.YtoenclhimbpfeaaGreatDoorW33
namespace Go.Proofs.YtoenclhimbpfeaaGreatDoor
set_option linter.all false
set_option maxHeartbeats 16000000
set_option maxRecDepth 100000
section
open Go.Maps Go.RowKit
def RS.ids(r:RS):List Nat:=r.L.map (·.1)
theorem RS.has_iff(r:RS)(x:Nat):r.has x=true↔x∈r.ids:=by
 unfold RS.has atP RS.ids;rw[List.findIdx?_isSome,List.any_eq_true];constructor
 .rintro⟨p,hp,e⟩
  exact List.mem_map.2 ⟨p,hp,by simpa using e⟩
 .intro h
  obtain⟨p,hp,e⟩:=List.mem_map.1 h;exact⟨p,hp,by simpa using e⟩
theorem RS.has_eq{r r':RS}(h:∀x,x∈r'.ids↔x∈r.ids)(x:Nat):r'.has x=r.has x:=by
 have h1:=r.has_iff x;have h2:=r'.has_iff x
 cases e:r'.has x with
 |true=>exact((h1.2 ((h x).1 (h2.1 e)))).symm
 |false=>
  cases e':r.has x with
  |false=>rfl
  |true=>rw[h2.2 ((h x).2 (h1.1 e'))]at e;cases e
theorem RS.read_L(r:RS)(id:Nat):(r.read id).2.L=r.L/\(r.read id).2.room=r.room:=by
 unfold RS.read
 cases atP r.L id with
 |none=>exact⟨rfl,rfl⟩
 |some k=>dsimp only;split;exact⟨rfl,rfl⟩;split<;>exact⟨rfl,rfl⟩
theorem RS.write_ids(r:RS)(id v:Nat):(r.write id v).2.ids=r.ids/\(r.write id v).2.room=r.room:=by
 unfold RS.write
 cases h:atP r.L id with
 |none=>exact⟨rfl,rfl⟩
 |some k=>
  dsimp only
  split
  .exact⟨rfl,rfl⟩
  .split
   .exact⟨rfl,rfl⟩
   .refine⟨?_,rfl⟩
    unfold RS.ids
    dsimp only
    rw[List.map_set];obtain⟨hk,_⟩:=Ag h;rw[show r.L.getD k (0,0)=r.L[k]from by simp[List.getD,hk]];apply List.ext_getElem
    .simp
    .intro i h1 h2
     rw[List.getElem_set]
     split
     .next e=>subst e;simp
     .rfl
theorem RS.read_has(r:RS)(id x:Nat):(r.read id).2.has x=r.has x:=by unfold RS.has;rw[(r.read_L id).1]
theorem RS.write_has(r:RS)(id v x:Nat):(r.write id v).2.has x=r.has x:=RS.has_eq (λy=>by rw[(r.write_ids id v).1]) x
theorem RS.ins_has(r:RS)(k x:Nat):(r.ins k).has x=(decide (x=k+1)||r.has x):=by
 have h1:=(r.ins k).has_iff x;have h2:=r.has_iff x
 have h3:x∈(r.ins k).ids↔x=k+1\/x∈r.ids:=by
  unfold RS.ids RS.ins
  dsimp only
  have e:r.L=r.L.take k++r.L.drop k:=(List.take_append_drop k r.L).symm;constructor
  .intro h
   simp only[List.map_append,List.mem_append,List.map_cons,List.map_nil,List.mem_singleton]at h;rw[e,List.map_append,List.mem_append];rcases h with(h|h)|h
   .exact .inr (.inl h)
   .exact .inl h
   .exact .inr (.inr h)
  .intro h
   rw[e,List.map_append,List.mem_append]at h;simp only[List.map_append,List.mem_append,List.map_cons,List.map_nil,List.mem_singleton];rcases h with h|h|h
   .exact .inl (.inr h)
   .exact .inl (.inl h)
   .exact .inr h
 by_cases hx:x=k+1
 .rw[h1.2 (h3.2 (.inl hx))];simp[hx]
 .rw[decide_eq_false hx,Bool.false_or]
  refine Bool.eq_iff_iff.2 (h1.trans (h3.trans (Iff.trans ⟨λq=>q.elim (λq=>(hx q).elim) id,.inr⟩ h2.symm)))
theorem bv.hasE{s:DS}{r:RS}(h:bv s r)(x:Nat):r.has x=s.has x:=by
 unfold RS.has;rcases h.has x with⟨e,_,_,_,q⟩|⟨e,q⟩
 .rw[e,q];rfl
 .rw[e,q];rfl
theorem bv.free_has{s:DS}{r:RS}(h:bv s r){id:Nat}(hh:r.has id=true)(x:Nat):(r.free id).2.has x=(decide (¬x=id)&&r.has x):=by
 have hs:s.has id=true:=by rw[<-h.hasE];exact hh
 rw[(h.free_yes hs).2.hasE,h.hasE];have h1:1<=id:=by unfold DS.has at hs;simp at hs;exact hs.1.1
 show DS.has (s.gone id) x=_
 unfold DS.has DS.gone
 dsimp only
 by_cases e:x=id
 .subst e;rw[upd_same];simp
 .rw[decide_eq_true e,Bool.true_and]
  by_cases h0:x-1=id-1
  .obtain rfl:x=0:=by omega
   simp
  .rw[aa _ _ h0]
structure PS(τ:Type) where
 f:Nat->FrS
 D:RS
 A:τ
 sc:Nat
def frm(n:Nat)(f:Nat->FrS)(id:Nat):Option Nat:=(List.range n).find? (λi=>decide ((f i).id=id))
def plZ:Option Nat->Int
 |none=> -1
 |some k=>k
def plO(n:Nat)(f:Nat->FrS)(D:RS)(id:Nat):Option Int:=if D.has id=true then some (plZ (frm n f id))else none
def emB(n:Nat)(f:Nat->FrS):Nat->Bool:=λi=>decide (i<n)&&decide ((f i).id=0)
def idB(n:Nat)(f:Nat->FrS):Nat->Bool:=λi=>decide (i<n)&&(decide (¬(f i).id=0)&&decide ((f i).pins=0))
def CT{τ:Type}(n:Nat)(S:PS τ):PT τ:=⟨S.f,plO n S.f S.D,emB n S.f,idB n S.f,S.sc,S.D,S.A⟩
structure Inv(n:Nat)(f:Nat->FrS)(D:RS):Prop where
 em:∀i,i<n->(f i).id=0->f i=zF
 has:∀i,i<n->¬(f i).id=0->D.has (f i).id=true
 inj:∀i j,i<n->j<n->¬(f i).id=0->(f i).id=(f j).id->i=j
 dr:∃s,bv s D
 vd:∀x∈D.L,x.2<18446744073709551616
 vf:∀i,i<n->(f i).val<18446744073709551616
section
variable{n k id:Nat}{f:Nat->FrS}{D D':RS}{x:FrS}
theorem Inv.pos(H:Inv n f D)(h:D.has id=true):1<=id:=by
 obtain⟨s,hs⟩:=H.dr;rw[hs.hasE]at h;unfold DS.has at h;simp at h;exact h.1.1
theorem oR:frm n f id=fstB n (λi=>decide ((f i).id=id)):=rfl
theorem bQ(h:frm n f id=some k):k<n/\(f k).id=id:=by
 rw[oR]at h;obtain⟨h1,h2⟩:=aS h;exact⟨h1,by simpa using h2.1⟩
theorem dK(h:frm n f id=none):∀i,i<n->¬(f i).id=id:=by
 rw[oR]at h;intro i hi;have:=bL h i hi;simpa using this
theorem Inv.atf(H:Inv n f D)(hk:k<n)(h:(f k).id=id)(h0:¬id=0):frm n f id=some k:=by
 cases e:frm n f id with
 |none=>exact absurd h (dK e k hk)
 |some j=>
  obtain⟨h1,h2⟩:=bQ e;rw[H.inj j k h1 hk (by rw[h2];exact h0) (by rw[h2,h])]
theorem dw(hk:k<n)(x:FrS):emB n (upd f k x)=ap (emB n f) k (decide (x.id=0)):=by
 funext i
 by_cases e:i=k
 .subst e;rw[aM];unfold emB;rw[upd_same];simp[hk]
 .rw[aA _ _ e];unfold emB;rw[aa _ _ e]
theorem cO(hk:k<n)(x:FrS):idB n (upd f k x)=ap (idB n f) k (decide (¬x.id=0)&&decide (x.pins=0)):=by
 funext i
 by_cases e:i=k
 .subst e;rw[aM];unfold idB;rw[upd_same];simp[hk]
 .rw[aA _ _ e];unfold idB;rw[aa _ _ e]
theorem dC(hk:k<n):emB n f k=decide ((f k).id=0):=by unfold emB;simp[hk]
theorem dm(hk:k<n):idB n f k=(decide (¬(f k).id=0)&&decide ((f k).pins=0)):=by unfold idB;simp[hk]
theorem i3(hk:k<n)(hx:x.id=(f k).id)(id:Nat):frm n (upd f k x) id=frm n f id:=by
 unfold frm
 congr 1
 funext i
 by_cases e:i=k
 .subst e;rw[upd_same,hx]
 .rw[aa _ _ e]
theorem iM(hk:k<n)(hx:x.id=(f k).id):plO n (upd f k x) D=plO n f D:=by
 funext id;unfold plO;rw[i3 hk hx]
theorem qW(h:∀x,D'.has x=D.has x):plO n f D'=plO n f D:=by
 funext id;unfold plO;rw[h]
theorem cA(h:∀i,i<n->¬(f i).id=id):frm n f id=none:=by
 cases e:frm n f id with
 |none=>rfl
 |some j=>obtain⟨h1,h2⟩:=bQ e;exact absurd h2 (h j h1)
theorem ie{g:Nat->FrS}{y:Nat}(hk:k<n)(ho:∀i,¬i=k->g i=f i)(h1:¬(f k).id=y)(h2:¬(g k).id=y):frm n g y=frm n f y:=by
 unfold frm
 congr 1
 funext i
 by_cases e:i=k
 .subst e;rw[decide_eq_false h1,decide_eq_false h2]
 .rw[ho i e]
theorem od(H:Inv n f D)(hk:k<n)(h0:¬(f k).id=0):plO n (upd f k zF) D=bN (plO n f D) (f k).id (some (-1)):=by
 funext y
 by_cases e:y=(f k).id
 .subst e
  rw[cq];unfold plO;rw[if_pos (H.has k hk h0),cA (λi hi q=>?_)]
  .rfl
  .by_cases e:i=k
   .subst e;rw[upd_same]at q;exact h0 q.symm
   .rw[aa _ _ e]at q;exact e (H.inj i k hi hk (by rw[q];exact h0) q)
 .rw[bI _ _ e]
  unfold plO;by_cases y0:D.has y=true
  .have hy:¬y=0:=by have:=H.pos y0;omega
   rw[if_pos y0,if_pos y0,ie hk (λi q=>aa _ _ q) (λq=>e q.symm) (by rw[upd_same];exact λq=>hy q.symm)]
  .rw[if_neg y0,if_neg y0]
theorem mV(H:Inv n f D)(hk:k<n)(h0:(f k).id=0)(hx:D.has x.id=true)(hno:∀i,i<n->¬(f i).id=x.id):plO n (upd f k x) D=bN (plO n f D) x.id (some (k:Int)):=by
 have hx1:=H.pos hx
 funext y
 by_cases e:y=x.id
 .subst e
  rw[cq];unfold plO;rw[if_pos hx]
  have:frm n (upd f k x) x.id=some k:=by
   rw[oR];refine nZ hk ⟨by show decide ((upd f k x k).id=x.id)=true;rw[upd_same];simp,λi hi=>?_⟩
   show decide ((upd f k x i).id=x.id)=false
   rw[aa _ _ (by omega)];simp[hno i (by omega)]
  rw[this];rfl
 .rw[bI _ _ e]
  unfold plO;by_cases y0:D.has y=true
  .have hy:¬y=0:=by have:=H.pos y0;omega
   rw[if_pos y0,if_pos y0,ie hk (λi q=>aa _ _ q) (by rw[h0];exact λq=>hy q.symm) (by rw[upd_same];exact λq=>e q.symm)]
  .rw[if_neg y0,if_neg y0]
theorem rU(H:Inv n f D)(hx:x.val<18446744073709551616):∀i,i<n->(upd f k x i).val<18446744073709551616:=λi hi=>by
 by_cases e:i=k
 .rw[e,upd_same];exact hx
 .rw[aa _ _ e];exact H.vf i hi
theorem Inv.vac(H:Inv n f D)(hk:k<n):Inv n (upd f k zF) D:=by
 refine⟨λi hi q=>?_,λi hi q=>?_,λi j hi hj q e=>?_,H.dr,H.vd,rU H (by decide)⟩
 .by_cases e:i=k
  .rw[e,upd_same]
  .rw[aa _ _ e]at q⊢;exact H.em i hi q
 .by_cases e:i=k
  .rw[e,upd_same]at q;exact absurd rfl q
  .rw[aa _ _ e]at q⊢;exact H.has i hi q
 .by_cases e1:i=k
  .rw[e1,upd_same]at q;exact absurd rfl q
  .by_cases e2:j=k
   .rw[aa _ _ e1]at q e;rw[e2,upd_same]at e;exact absurd e q
   .rw[aa _ _ e1]at q e;rw[aa _ _ e2]at e;exact H.inj i j hi hj q e
theorem Inv.keep(H:Inv n f D)(hk:k<n)(hx:x.id=(f k).id)(h0:¬(f k).id=0)(hxv:x.val<18446744073709551616):Inv n (upd f k x) D:=by
 have hid:∀i,(upd f k x i).id=(f i).id:=λi=>by
  by_cases e:i=k
  .rw[e,upd_same,hx]
  .rw[aa _ _ e]
 refine⟨λi hi q=>?_,λi hi q=>?_,λi j hi hj q e=>?_,H.dr,H.vd,rU H hxv⟩
 .by_cases e:i=k
  .rw[e,upd_same,hx]at q;exact absurd q h0
  .rw[aa _ _ e]at q⊢;exact H.em i hi q
 .rw[hid]at q⊢;exact H.has i hi q
 .rw[hid]at q e;rw[hid]at e;exact H.inj i j hi hj q e
theorem Inv.enter(H:Inv n f D)(hk:k<n)(h0:(f k).id=0)(hx:D.has x.id=true)(hno:∀i,i<n->¬(f i).id=x.id)(hxv:x.val<18446744073709551616):Inv n (upd f k x) D:=by
 have hx1:=H.pos hx;refine⟨λi hi q=>?_,λi hi q=>?_,λi j hi hj q e=>?_,H.dr,H.vd,rU H hxv⟩
 .by_cases e:i=k
  .rw[e,upd_same]at q;omega
  .rw[aa _ _ e]at q⊢;exact H.em i hi q
 .by_cases e:i=k
  .rw[e,upd_same];exact hx
  .rw[aa _ _ e]at q⊢;exact H.has i hi q
 .by_cases e1:i=k
  .by_cases e2:j=k
   .rw[e1,e2]
   .rw[e1,upd_same,aa _ _ e2]at e;exact absurd e.symm (hno j hj)
  .by_cases e2:j=k
   .rw[e2,upd_same,aa _ _ e1]at e;exact absurd e (hno i hi)
   .rw[aa _ _ e1]at q e;rw[aa _ _ e2]at e;exact H.inj i j hi hj q e
theorem Inv.disk(H:Inv n f D)(h:∀i,i<n->¬(f i).id=0->D'.has (f i).id=true)(dr:∃s,bv s D')(vd:∀x∈D'.L,x.2<18446744073709551616):Inv n f D':=⟨H.em,h,H.inj,dr,vd,H.vf⟩
theorem RS.write_vd{r:RS}{id v:Nat}(h:∀x∈r.L,x.2<18446744073709551616)(hv:v<18446744073709551616):∀x∈(r.write id v).2.L,x.2<18446744073709551616:=by
 unfold RS.write
 cases atP r.L id with
 |none=>exact h
 |some k=>
  dsimp only
  split
  .exact h
  .split
   .exact h
   .intro x hx
    rcases List.mem_or_eq_of_mem_set hx with q|q
    .exact h x q
    .rw[q];exact hv
theorem RS.read_v{r:RS}{id:Nat}(h:∀x∈r.L,x.2<18446744073709551616):(r.read id).1.1<18446744073709551616:=by
 unfold RS.read
 cases e:atP r.L id with
 |none=>show 0<_;omega
 |some k=>
  dsimp only
  split
  .show 0<_;omega
  .split
   .show 0<_;omega
   .obtain⟨hk,_⟩:=Ag e
    rw[show r.L.getD k (0,0)=r.L[k]from by simp[List.getD,hk]];exact h _ (List.getElem_mem hk)
theorem Inv.write(H:Inv n f D)(id:Nat){v:Nat}(hv:v<18446744073709551616):Inv n f (D.write id v).2:=by
 obtain⟨s,hs⟩:=H.dr;exact H.disk (λi hi q=>by rw[RS.write_has];exact H.has i hi q) ⟨_,(hs.write id v).2⟩ (RS.write_vd H.vd hv)
theorem Inv.read(H:Inv n f D)(id:Nat):Inv n f (D.read id).2:=by
 obtain⟨s,hs⟩:=H.dr;exact H.disk (λi hi q=>by rw[RS.read_has];exact H.has i hi q) ⟨_,(hs.read id).2⟩ (by rw[(D.read_L id).1];exact H.vd)
theorem Inv.ins(H:Inv n f D)(hl:D.L.length<D.room):Inv n f (D.ins (ag D.L)):=by
 obtain⟨s,hs⟩:=H.dr;refine H.disk (λi hi q=>by rw[RS.ins_has,H.has i hi q];simp) ⟨_,hs.put (cC D.L) hl⟩ (λx hx=>?_);rcases List.mem_append.1 hx with q|q
 .rcases List.mem_append.1 q with q|q
  .exact H.vd x (List.mem_of_mem_take q)
  .simp at q;rw[q];show 0<_;omega
 .exact H.vd x (List.mem_of_mem_drop q)
theorem RS.free_vd{r:RS}{id:Nat}(h:∀x∈r.L,x.2<18446744073709551616):∀x∈(r.free id).2.L,x.2<18446744073709551616:=by
 unfold RS.free
 cases atP r.L id with
 |none=>exact h
 |some k=>
  intro x hx;rcases List.mem_append.1 hx with q|q
  .exact h x (List.mem_of_mem_take q)
  .exact h x (List.mem_of_mem_drop q)
theorem Inv.free(H:Inv n f D)(hno:∀i,i<n->¬(f i).id=id):Inv n f (D.free id).2:=by
 obtain⟨s,hs⟩:=H.dr;by_cases hh:D.has id=true
 .refine H.disk (λi hi q=>?_) ⟨_,(hs.free_yes (by rw[<-hs.hasE];exact hh)).2⟩ (RS.free_vd H.vd)
  rw[hs.free_has hh,H.has i hi q];simp[hno i hi]
 .have:s.has id=false:=by rw[<-hs.hasE];simpa using hh
  rw[hs.free_no this];exact H
theorem Inv.gap(H:Inv n f D):D.has (ag D.L+1)=false:=by
 obtain⟨s,hs⟩:=H.dr;have hg:=cC D.L;rw[hs.hasE];have hg2:Gap (plL s.pg s.np) (ag D.L):=by rw[hs.L]at hg⊢;exact hg
 obtain⟨q1,q2,q3,q4⟩:=ki hg2;unfold DS.has;rcases Nat.lt_or_ge (ag D.L) s.np with q|q
 .rw[show ag D.L+1-1=ag D.L from by omega,q3 q];simp
 .have:¬(1<=ag D.L+1/\ag D.L+1<=s.np):=by omega
  simp only[this,decide_false,Bool.false_and]
end
end
section
open Go.Maps Go.Proofs.Tryz Go.RowKit
section
variable{τ:Type}(P:Adv τ)(n:Nat)
def PS.vic(S:PS τ)(id:Nat):Nat×τ×Nat:=gR P n (P.miss S.A id) (idB n S.f) id
def PS.room(S:PS τ)(id:Nat):(Option Nat×Nat)×PS τ:=
 match fstB n (emB n S.f)with
 |some x=>((some x,0),{S with A:=P.miss S.A id})
 |none=>
  if(S.f (S.vic P n id).1).dirty=true then
   if(S.D.write (S.f (S.vic P n id).1).id (S.f (S.vic P n id).1).val).1=0 then
    ((some (S.vic P n id).1,0),⟨upd S.f (S.vic P n id).1 zF,(S.D.write (S.f (S.vic P n id).1).id (S.f (S.vic P n id).1).val).2,(S.vic P n id).2.1,S.sc+(S.vic P n id).2.2⟩)
   else
    ((none,(S.D.write (S.f (S.vic P n id).1).id (S.f (S.vic P n id).1).val).1),⟨S.f,(S.D.write (S.f (S.vic P n id).1).id (S.f (S.vic P n id).1).val).2,P.set (P.access (S.vic P n id).2.1 (S.vic P n id).1 (S.f (S.vic P n id).1).id) (S.vic P n id).1 true,S.sc+(S.vic P n id).2.2⟩)
  else((some (S.vic P n id).1,0),⟨upd S.f (S.vic P n id).1 zF,S.D,(S.vic P n id).2.1,S.sc+(S.vic P n id).2.2⟩)
def PS.roomPl(S:PS τ)(id:Nat)(pl:Nat->Option Int):Nat->Option Int:=
 match fstB n (emB n S.f)with
 |some x=>pl
 |none=>
  if(S.f (S.vic P n id).1).dirty=true then
   if(S.D.write (S.f (S.vic P n id).1).id (S.f (S.vic P n id).1).val).1=0 then bN pl (S.f (S.vic P n id).1).id (some (-1))else pl
  else bN pl (S.f (S.vic P n id).1).id (some (-1))
def PS.all(S:PS τ):Bool:=(fstB n (emB n S.f)).isNone&&(fstB n (idB n S.f)).isNone
noncomputable def PS.newPage(S:PS τ):(Nat×Nat)×PS τ:=
 if S.all n=true then((0,6),S)
 else if S.D.room<=S.D.L.length then((0,2),S)
 else match(PS.room P n {S with D:=S.D.ins (ag S.D.L)} (ag S.D.L+1)).1.1 with
  |none=>((0,(PS.room P n {S with D:=S.D.ins (ag S.D.L)} (ag S.D.L+1)).1.2),{(PS.room P n {S with D:=S.D.ins (ag S.D.L)} (ag S.D.L+1)).2 with D:=((PS.room P n {S with D:=S.D.ins (ag S.D.L)} (ag S.D.L+1)).2.D.free (ag S.D.L+1)).2})
  |some k=>((ag S.D.L+1,0),{(PS.room P n {S with D:=S.D.ins (ag S.D.L)} (ag S.D.L+1)).2 with f:=upd (PS.room P n {S with D:=S.D.ins (ag S.D.L)} (ag S.D.L+1)).2.f k ⟨ag S.D.L+1,0,1,false⟩,A:=P.access (PS.room P n {S with D:=S.D.ins (ag S.D.L)} (ag S.D.L+1)).2.A k (ag S.D.L+1)})
def PS.touch(S:PS τ)(k:Nat):PS τ:={S with f:=upd S.f k {S.f k with pins:=(S.f k).pins+1},A:=if(S.f k).pins=0 then P.set (P.access S.A k (S.f k).id) k false else P.access S.A k (S.f k).id}
def PS.fetch(S:PS τ)(id:Nat):Nat×PS τ:=
 if S.D.has id=true then
  match frm n S.f id with
  |some k=>(0,S.touch P k)
  |none=>
   if S.all n=true then(6,S)
   else match(S.room P n id).1.1 with
    |none=>((S.room P n id).1.2,(S.room P n id).2)
    |some k=>
     if((S.room P n id).2.D.read id).1.2=0 then(0,{(S.room P n id).2 with f:=upd (S.room P n id).2.f k ⟨id,((S.room P n id).2.D.read id).1.1,1,false⟩,D:=((S.room P n id).2.D.read id).2,A:=P.access (S.room P n id).2.A k id})
     else(((S.room P n id).2.D.read id).1.2,{(S.room P n id).2 with D:=((S.room P n id).2.D.read id).2,A:=P.remove (P.access (S.room P n id).2.A k id) k})
 else(3,S)
def PS.held(S:PS τ)(id:Nat):Nat×Nat:=
 if S.D.has id=true then
  match frm n S.f id with
  |some k=>if(S.f k).pins=0 then(0,5)else(k,0)
  |none=>(0,5)
 else(0,3)
def PS.unpin(S:PS τ)(id:Nat):Nat×PS τ:=
 if(S.held n id).2=0 then(0,{S with f:=upd S.f (S.held n id).1 {S.f (S.held n id).1 with pins:=(S.f (S.held n id).1).pins-1},A:=if(S.f (S.held n id).1).pins=1 then P.set S.A (S.held n id).1 true else S.A})
 else((S.held n id).2,S)
def PS.read(S:PS τ)(id:Nat):Nat×Nat:=if(S.held n id).2=0 then((S.f (S.held n id).1).val,0)else(0,(S.held n id).2)
def PS.write(S:PS τ)(id v:Nat):Nat×PS τ:=
 if(S.held n id).2=0 then(0,{S with f:=upd S.f (S.held n id).1 {S.f (S.held n id).1 with val:=v,dirty:=true}})
 else((S.held n id).2,S)
def PS.clean(S:PS τ)(k:Nat):Nat×PS τ:=
 if(S.f k).dirty=true then
  if(S.D.write (S.f k).id (S.f k).val).1=0 then(0,{S with f:=upd S.f k {S.f k with dirty:=false},D:=(S.D.write (S.f k).id (S.f k).val).2})
  else((S.D.write (S.f k).id (S.f k).val).1,{S with D:=(S.D.write (S.f k).id (S.f k).val).2})
 else(0,S)
def PS.flush(S:PS τ)(id:Nat):Nat×PS τ:=
 if S.D.has id=true then
  match frm n S.f id with
  |some k=>S.clean k
  |none=>(0,S)
 else(3,S)
def PS.delete(S:PS τ)(id:Nat):Nat×PS τ:=
 if S.D.has id=true then
  match frm n S.f id with
  |some k=>if(S.f k).pins=0 then(0,{S with f:=upd S.f k zF,D:=(S.D.free id).2,A:=P.remove S.A k})else(4,S)
  |none=>(0,{S with D:=(S.D.free id).2})
 else(3,S)
end
def pgO(f:Nat->FrS):Nat->Nat:=λi=>(f i).id
def evO(f:Nat->FrS):Nat->Bool:=λi=>decide ((f i).pins=0)
section
variable{τ:Type}{P:Adv τ}{RR:World->τ->(Nat->Prop)->Prop}{ok:Nat->τ->(Nat->Nat)->(Nat->Bool)->Prop}{p:PP}(S:aJ P RR p.pb p.rv p.n ok){w w':World}{m:Nat}{F:Nat->Prop}{X:PS τ}
theorem cN(f:Nat->FrS)(k:Nat)(x:FrS):pgO (upd f k x)=upd (pgO f) k x.id:=by
 funext i;unfold pgO
 by_cases e:i=k
 .rw[e,upd_same,upd_same]
 .rw[aa _ _ e,aa _ _ e]
theorem cR(f:Nat->FrS)(k:Nat)(x:FrS):evO (upd f k x)=upd (evO f) k (decide (x.pins=0)):=by
 funext i;unfold evO
 by_cases e:i=k
 .rw[e,upd_same,upd_same]
 .rw[aa _ _ e,aa _ _ e]
theorem iZ(n:Nat)(f:Nat->FrS)(x:Nat):idB n f x=true↔bk n (pgO f) (evO f) x:=by
 unfold idB bk pgO evO;simp
def PW(RR:World->τ->(Nat->Prop)->Prop)(ok:Nat->τ->(Nat->Nat)->(Nat->Bool)->Prop)(p:PP)(X:PS τ)(m:Nat)(w:World)(F:Nat->Prop):Prop:=PI RR p (CT p.n X) m w F/\Inv p.n X.f X.D/\ok m X.A (pgO X.f) (evO X.f)
include S
theorem PW.more(H:PW RR ok p X m w F){k:Nat}(hk:m<=k):PW RR ok p X k w F:=⟨H.1.more hk,H.2.1,S.more H.2.2 hk⟩
theorem PW.fr0(H:PW RR ok p X m w F)(g:Fr NoF w w'):PW RR ok p X m w' F:=⟨H.1.fr0 S g,H.2⟩
theorem lG{D0:RS}(hI:Inv p.n X.f X.D)(hm:m<70000)(ho:ok m X.A (pgO X.f) (evO X.f)){id:Nat}(h1:1<=id)(hno:∀i,i<p.n->¬(X.f i).id=id)(hall:¬X.all p.n=true)(hb:∀i,i<p.n->(X.f i).id<4294967296):
  Inv p.n (X.room P p.n id).2.f (X.room P p.n id).2.D/\ok (m+6) (X.room P p.n id).2.A (pgO (X.room P p.n id).2.f) (evO (X.room P p.n id).2.f)/\
  (∀i,i<p.n->¬((X.room P p.n id).2.f i).id=id)/\(∀x,(X.room P p.n id).2.D.has x=X.D.has x)/\(X.room P p.n id).2.D.room=X.D.room/\
  (∀D0,Inv p.n X.f D0->X.roomPl P p.n id (plO p.n X.f D0)=plO p.n (X.room P p.n id).2.f D0)/\
  (∀k,(X.room P p.n id).1.1=some k->(X.room P p.n id).1.2=0/\k<p.n/\(X.room P p.n id).2.f k=zF)/\((X.room P p.n id).1.1=none->¬(X.room P p.n id).1.2=0/\(X.room P p.n id).2.f=X.f):=by
 have hno':∀i,i<p.n->¬pgO X.f i=id:=hno;unfold PS.room PS.roomPl
 cases he:fstB p.n (emB p.n X.f)with
 |some x=>
  dsimp only
  obtain⟨x1,x2⟩:=aS he;have x3:(X.f x).id=0:=by have:=x2.1;rw[dC x1]at this;simpa using this
  refine⟨hI,S.more (S.okMiss ho (by omega) h1 hno') (by omega),hno,λx=>rfl,rfl,λD0 _=>rfl,λk hk=>?_,λh=>(by cases h)⟩
  cases hk
  exact⟨rfl,x1,hI.em x x1 x3⟩
 |none=>
  dsimp only
  obtain⟨x0,hx0⟩:∃x0,fstB p.n (idB p.n X.f)=some x0:=by
   cases hq:fstB p.n (idB p.n X.f)with
   |some x0=>exact⟨x0,rfl⟩
   |none=>exact absurd (by unfold PS.all;rw[he,hq];rfl) hall
  have okM:=S.okMiss ho (by omega) h1 hno';have hg:=iZ p.n X.f;have hgo:bk p.n (pgO X.f) (evO X.f) (X.vic P p.n id).1:=eY S (P:=P) (A:=P.miss X.A id) (id:=id) hg hx0;have okV:ok (m+1+2) (X.vic P p.n id).2.1 (upd (pgO X.f) (X.vic P p.n id).1 0) (upd (evO X.f) (X.vic P p.n id).1 false):=Bt S (by omega) h1 okM hno' hg hx0;generalize X.vic P p.n id=V at*;obtain⟨v1,v2,v3⟩:=V
  dsimp only at*
  obtain⟨hv1,hv2,hv3⟩:=hgo;have hv2':¬(X.f v1).id=0:=hv2
  have okZ:ok (m+6) v2 (pgO (upd X.f v1 zF)) (evO (upd X.f v1 zF)):=by
   rw[cN,cR];refine S.same (S.more okV (by omega)) (λi hi=>rfl) (λi hi q=>?_);by_cases e:i=v1
   .rw[e,upd_same]at q;exact absurd rfl q
   .rw[aa _ _ e,aa _ _ e]
  have noZ:∀i,i<p.n->¬(upd X.f v1 zF i).id=id:=λi hi q=>by
   by_cases e:i=v1
   .rw[e,upd_same]at q;exact absurd q (by show¬0=id;omega)
   .rw[aa _ _ e]at q;exact hno i hi q
  by_cases hd:(X.f v1).dirty=true
  .rw[if_pos hd]
   by_cases hw:(X.D.write (X.f v1).id (X.f v1).val).1=0
   .simp only[if_pos hw,if_pos hd]
    refine⟨(hI.vac hv1).write _ (hI.vf v1 hv1),okZ,noZ,λx=>RS.write_has _ _ _ _,(RS.write_ids _ _ _).2,λD0 h0=>(od h0 hv1 hv2').symm,λk hk=>?_,λh=>(by cases h)⟩
    cases hk
    exact⟨by first|rfl|trivial,hv1,upd_same _ _ _⟩
   .simp only[if_neg hw,if_pos hd]
    refine⟨hI.write _ (hI.vf v1 hv1),?_,hno,λx=>RS.write_has _ _ _ _,(RS.write_ids _ _ _).2,λD0 h0=>by first|rfl|trivial,λk hk=>(by cases hk),λ_=>⟨hw,by first|rfl|trivial⟩⟩
    have hnv:∀i,i<p.n->¬upd (pgO X.f) v1 0 i=(X.f v1).id:=λi hi e=>by
     by_cases q:i=v1
     .rw[q,upd_same]at e;exact hv2' e.symm
     .rw[aa _ _ q]at e
      exact q (hI.inj i v1 hi hv1 (λz=>hv2' (by rw[<-e];exact z)) e)
    have o1:=S.okNew okV (by omega) (by omega) (hb v1 hv1) hv1 (upd_same _ _ _) hnv;have o2:=S.okSet true o1 (by omega) hv1 (by rw[upd_same];exact hv2');refine S.same (S.more o2 (by omega)) (λi hi=>?_) (λi hi q=>?_)
    .by_cases e:i=v1
     .rw[e,upd_same];rfl
     .rw[aa _ _ e,aa _ _ e]
    .by_cases e:i=v1
     .rw[e,upd_same];exact hv3.symm
     .rw[aa _ _ e,aa _ _ e,aa _ _ e]
  .simp only[if_neg hd]
   refine⟨hI.vac hv1,okZ,noZ,λx=>by first|rfl|trivial,by first|rfl|trivial,λD0 h0=>(od h0 hv1 hv2').symm,λk hk=>?_,λh=>(by cases h)⟩
   cases hk
   exact⟨by first|rfl|trivial,hv1,upd_same _ _ _⟩
theorem kp{pl:Nat->Option Int}(H:PI RR p ⟨X.f,pl,emB p.n X.f,idB p.n X.f,X.sc,X.D,X.A⟩ m w F)(hI:∀i j,i<p.n->j<p.n->¬(X.f i).id=0->(X.f i).id=(X.f j).id->i=j)(hm:m<70000)(ho:ok m X.A (pgO X.f) (evO X.f)){id:Nat}(h1:1<=id)(hu:id<4294967296)(hno:∀i,i<p.n->¬(X.f i).id=id)(hall:¬X.all p.n=true):
  Calls prog 62 #[p.ptr,.int .u32 id] w λe w'=>e=.returned (.tuple #[.int .i64 (plZ (X.room P p.n id).1.1),.int .i64 (X.room P p.n id).1.2])/\
   Led (PI RR p ⟨(X.room P p.n id).2.f,X.roomPl P p.n id pl,emB p.n (X.room P p.n id).2.f,idB p.n (X.room P p.n id).2.f,(X.room P p.n id).2.sc,(X.room P p.n id).2.D,(X.room P p.n id).2.A⟩ (m+6)) F w w':=by
 have hno':∀i,i<p.n->¬pgO X.f i=id:=hno;unfold PS.room PS.roomPl
 cases he:fstB p.n (emB p.n X.f)with
 |some x=>
  dsimp only
  exact rF S H hm h1 hu ho hno' he
 |none=>
  dsimp only
  obtain⟨x0,hx0⟩:∃x0,fstB p.n (idB p.n X.f)=some x0:=by
   cases hq:fstB p.n (idB p.n X.f)with
   |some x0=>exact⟨x0,rfl⟩
   |none=>exact absurd (by unfold PS.all;rw[he,hq];rfl) hall
  have hg:=iZ p.n X.f;have hE:∀x,x<p.n->emB p.n X.f x=false:=bL he;have hgo:bk p.n (pgO X.f) (evO X.f) (X.vic P p.n id).1:=eY S (P:=P) (A:=P.miss X.A id) (id:=id) hg hx0;obtain⟨hv1,hv2,hv3⟩:=hgo;have hv2':¬(X.f (X.vic P p.n id).1).id=0:=hv2;have e1:emB p.n (upd X.f (X.vic P p.n id).1 zF)=ap (emB p.n X.f) (X.vic P p.n id).1 true:=dw hv1 zF;have e2:idB p.n (upd X.f (X.vic P p.n id).1 zF)=ap (idB p.n X.f) (X.vic P p.n id).1 false:=cO hv1 zF;by_cases hd:(X.f (X.vic P p.n id).1).dirty=true
  .by_cases hw:(X.D.write (X.f (X.vic P p.n id).1).id (X.f (X.vic P p.n id).1).val).1=0
   .simp only[if_pos hw,if_pos hd]
    rw[e1,e2];exact pw S H hm h1 hu ho hno' hE hg (λx _=>rfl) hx0 hd hw
   .simp only[if_neg hw,if_pos hd]
    exact tm S H hm h1 hu ho hno' hE hg (λx _=>rfl) hI hx0 hd hw
  .simp only[if_neg hd]
   rw[e1,e2];exact sd S H hm h1 hu ho hno' hE hg (λx _=>rfl) hx0 (Bool.eq_false_iff.2 hd)
end
theorem pU(n:Nat)(I:Nat->Bool):cntB I n=0↔fstB n I=none:=by
 constructor
 .intro h
  cases e:fstB n I with
  |none=>rfl
  |some x=>obtain⟨h1,h2⟩:=aS e;have:=gy h x h1;rw[h2.1]at this;cases this
 .intro h
  rcases Nat.eq_zero_or_pos (cntB I n)with q|q
  .exact q
  .obtain⟨x,h1,h2⟩:=nN (S:=I) (n:=n) (by omega)
   rw[bL h x h1]at h2;cases h2
theorem PS.all_eq{τ:Type}(X:PS τ)(n:Nat):decide (cntB (emB n X.f) n=0/\cntB (idB n X.f) n=0)=X.all n:=by
 unfold PS.all;rw[Bool.eq_iff_iff];simp[pU]
section
variable{τ:Type}{P:Adv τ}{RR:World->τ->(Nat->Prop)->Prop}{ok:Nat->τ->(Nat->Nat)->(Nat->Bool)->Prop}{p:PP}(S:aJ P RR p.pb p.rv p.n ok){w w':World}{m:Nat}{F:Nat->Prop}{X:PS τ}{T:PT τ}
theorem PI.c0(H:PI RR p T m w F):w.cell? ⟨p.pb,0,none⟩=some (.pointer (some ⟨p.db,0,none⟩))/\p.pb<w.heap.size:=⟨H.me.ce 0 (by omega),H.me.hd.lt⟩
theorem PI.cdE(H:PI RR p T m w F):∃FD,CD p.db T.D m w FD:=by obtain⟨FD,FR,h,_⟩:=H;exact⟨FD,h.cd⟩
include S
theorem PI.free(H:PI RR p T m w F){id:Nat}(hu:id<4294967296):Calls prog 63 #[.pointer (some ⟨p.db,0,none⟩),.int .u32 id] w λe w'=>e=.returned (.int .i64 (T.D.free id).1)/\Led (PI RR p {T with D:=(T.D.free id).2} m) F w w':=
 H.disk S (Q:=λe _=>e=.returned (.int .i64 (T.D.free id).1)) (Nat.le_refl m) (λFD hd=>Cz hd (by unfold aN;omega))
theorem PI.alloc(H:PI RR p T m w F)(hf:T.D.L.length<T.D.room):Calls prog 61 #[.pointer (some ⟨p.db,0,none⟩)] w λe w'=>e=.returned (.tuple #[.int .u32 (ag T.D.L+1:Nat),.int .i64 0])/\Led (PI RR p {T with D:=T.D.ins (ag T.D.L)} m) F w w':=
 H.disk S (Q:=λe _=>e=.returned (.tuple #[.int .u32 (ag T.D.L+1:Nat),.int .i64 0])) (Nat.le_refl m) (λFD hd=>Bk hd hf)
theorem PI.full(H:PI RR p T m w F)(hf:T.D.room<=T.D.L.length):Calls prog 61 #[.pointer (some ⟨p.db,0,none⟩)] w λe w'=>e=.returned (.tuple #[.int .u32 0,.int .i64 2])/\Led (PI RR p T m) F w w':=
 H.disk S (Q:=λe _=>e=.returned (.tuple #[.int .u32 0,.int .i64 2])) (Nat.le_refl m) (λFD hd=>C3 hd hf)
theorem PI.read(H:PI RR p T m w F)(hm:m<80000){id:Nat}(hu:id<4294967296):Calls prog 13 #[.pointer (some ⟨p.db,0,none⟩),.int .u32 id] w λe w'=>e=.returned (.tuple #[.int .u64 (T.D.read id).1.1,.int .i64 (T.D.read id).1.2])/\Led (PI RR p {T with D:=(T.D.read id).2} (m+1)) F w w':=
 H.disk S (Q:=λe _=>e=.returned (.tuple #[.int .u64 (T.D.read id).1.1,.int .i64 (T.D.read id).1.2])) (Nat.le_succ m) (λFD hd=>tW hd (by omega) (by unfold aN;omega))
theorem Eu(H:PW RR ok p X m w F)(ha:X.all p.n=true):Calls prog 37 #[p.ptr] w λe w'=>e=.returned (.tuple #[.int .u32 0,.int .i64 6])/\w=w':=by
 have HA:=bp H.1.me;rw[show(CT p.n X).E=emB p.n X.f from rfl,show(CT p.n X).I=idB p.n X.f from rfl,X.all_eq,ha]at HA;have HA1:=Hd HA;unfold PP.ptr at*;clear H S HA;go_enter func37,ntmps37
 go_wp2_with fail
 refine HA1.out.mono ?_;rintro e w1⟨rfl,rfl⟩;go_wp2;go_returns;exact⟨rfl,rfl⟩
theorem B8(H:PW RR ok p X m w F)(ha:¬X.all p.n=true)(hf:X.D.room<=X.D.L.length):Calls prog 37 #[p.ptr] w λe w'=>e=.returned (.tuple #[.int .u32 0,.int .i64 2])/\Led (PW RR ok p X m) F w w':=by
 have HA:=bp H.1.me;rw[show(CT p.n X).E=emB p.n X.f from rfl,show(CT p.n X).I=idB p.n X.f from rfl,X.all_eq,Bool.eq_false_iff.2 ha]at HA;have HA1:=Hd HA;obtain⟨c0,lb⟩:=H.1.c0;have HL:=Hd ((H.1.full S hf).mono (λe w' ⟨he,hl⟩=>(⟨he,hl.mono (λF' h=>(⟨h,H.2⟩:PW RR ok p X m w' F'))⟩:e=Ending.returned (.tuple #[.int .u32 0,.int .i64 2])/\Led (PW RR ok p X m) F w w')));unfold PP.ptr at*;clear H S HA ha hf;go_enter func37,ntmps37
 go_wp2_with fail
 refine HA1.out.mono ?_;rintro e w1⟨rfl,rfl⟩
 go_wp2_with fail
 refine HL.out.mono ?_;rintro e w1⟨rfl,h1⟩;have H1:=Hd h1;clear h1;go_wp2;go_returns;exact⟨rfl,H1.out⟩
noncomputable def PS.alc(X:PS τ):PS τ:={X with D:=X.D.ins (ag X.D.L)}
theorem jn(H:PW RR ok p X m w F)(hf:X.D.L.length<X.D.room):ag X.D.L+1<4294967296/\(∀i,i<p.n->¬(X.f i).id=ag X.D.L+1)/\Inv p.n X.alc.f X.alc.D:=by
 obtain⟨FD,hcd⟩:=H.1.cdE;have hrm:X.D.room<=65535:=hcd.room.2;have hle:=(cC X.D.L).le;refine⟨by omega,λi hi q=>?_,H.2.1.ins hf⟩;have h1:=H.2.1.has i hi (by omega);rw[q,H.2.1.gap]at h1;cases h1
theorem tY(H:PW RR ok p X m w F)(hm:m<60000)(ha:¬X.all p.n=true)(hf:X.D.L.length<X.D.room):
  (∀w1 F1,PI RR p {CT p.n X with D:=X.D.ins (ag X.D.L)} m w1 F1->Calls prog 62 #[p.ptr,.int .u32 (ag X.D.L+1:Nat)] w1 λe w'=>e=.returned (.tuple #[.int .i64 (plZ (X.alc.room P p.n (ag X.D.L+1)).1.1),.int .i64 (X.alc.room P p.n (ag X.D.L+1)).1.2])/\
   Led (PI RR p ⟨(X.alc.room P p.n (ag X.D.L+1)).2.f,plO p.n (X.alc.room P p.n (ag X.D.L+1)).2.f X.D,emB p.n (X.alc.room P p.n (ag X.D.L+1)).2.f,idB p.n (X.alc.room P p.n (ag X.D.L+1)).2.f,(X.alc.room P p.n (ag X.D.L+1)).2.sc,(X.alc.room P p.n (ag X.D.L+1)).2.D,(X.alc.room P p.n (ag X.D.L+1)).2.A⟩ (m+6)) F1 w1 w')/\
  Inv p.n (X.alc.room P p.n (ag X.D.L+1)).2.f (X.alc.room P p.n (ag X.D.L+1)).2.D/\ok (m+6) (X.alc.room P p.n (ag X.D.L+1)).2.A (pgO (X.alc.room P p.n (ag X.D.L+1)).2.f) (evO (X.alc.room P p.n (ag X.D.L+1)).2.f)/\
  (∀i,i<p.n->¬((X.alc.room P p.n (ag X.D.L+1)).2.f i).id=ag X.D.L+1)/\(X.alc.room P p.n (ag X.D.L+1)).2.D.has (ag X.D.L+1)=true/\(∀x,(X.alc.room P p.n (ag X.D.L+1)).2.D.has x=(decide (x=ag X.D.L+1)||X.D.has x))/\
  (∀x,((X.alc.room P p.n (ag X.D.L+1)).2.D.free (ag X.D.L+1)).2.has x=X.D.has x)/\
  (∀k,(X.alc.room P p.n (ag X.D.L+1)).1.1=some k->(X.alc.room P p.n (ag X.D.L+1)).1.2=0/\k<p.n/\(X.alc.room P p.n (ag X.D.L+1)).2.f k=zF)/\((X.alc.room P p.n (ag X.D.L+1)).1.1=none->¬(X.alc.room P p.n (ag X.D.L+1)).1.2=0):=by
 obtain⟨hu,hno,hIa⟩:=jn S H hf;obtain⟨r1,r2,r3,r4,r5,r6,r7,r8⟩:=lG S (X:=X.alc) (D0:=X.D) hIa (by omega) H.2.2 (id:=ag X.D.L+1) (by omega) hno ha (λi _=>(H.1.me.bd.2 i).1);have e6:=r6 X.D H.2.1
 have h4:∀x,(X.alc.room P p.n (ag X.D.L+1)).2.D.has x=(decide (x=ag X.D.L+1)||X.D.has x):=λx=>by
  rw[r4]
  show(X.D.ins _).has _=_
  rw[RS.ins_has]
 have hhas:(X.alc.room P p.n (ag X.D.L+1)).2.D.has (ag X.D.L+1)=true:=by rw[h4];simp
 refine⟨λw1 F1 h=>?_,r1,r2,r3,hhas,h4,λx=>?_,r7,λq=>(r8 q).1⟩
 .have:=kp S (X:=X.alc) (pl:=plO p.n X.f X.D) h H.2.1.inj (by omega) H.2.2 (by omega) hu hno ha
  rw[show plO p.n X.alc.f X.D=plO p.n X.f X.D from rfl]at e6;rw[e6]at this;exact this
 .obtain⟨s,hs⟩:=r1.dr
  rw[hs.free_has hhas,h4];by_cases q:x=ag X.D.L+1
  .rw[q,H.2.1.gap];simp
  .simp[q]
theorem CZ(H:PW RR ok p X m w F)(hm:m<60000)(ha:¬X.all p.n=true)(hf:X.D.L.length<X.D.room)(hr:(X.alc.room P p.n (ag X.D.L+1)).1.1=none):Calls prog 37 #[p.ptr] w λe w'=>e=.returned (.tuple #[.int .u32 0,.int .i64 (X.alc.room P p.n (ag X.D.L+1)).1.2])/\
  Led (PW RR ok p {(X.alc.room P p.n (ag X.D.L+1)).2 with D:=((X.alc.room P p.n (ag X.D.L+1)).2.D.free (ag X.D.L+1)).2} (m+10)) F w w':=by
 have HA:=bp H.1.me;rw[show(CT p.n X).E=emB p.n X.f from rfl,show(CT p.n X).I=idB p.n X.f from rfl,X.all_eq,Bool.eq_false_iff.2 ha]at HA;have HA1:=Hd HA;obtain⟨c0,lb⟩:=H.1.c0;obtain⟨hu,_,_⟩:=jn S H hf;have hl0:=H.1.alloc S hf;rw[show(CT p.n X).D=X.D from rfl]at hl0;have HL:=Hd hl0;clear hl0;obtain⟨hroom,r1,r2,r3,r4,r5,r6,r7,r8⟩:=tY S H hm ha hf;have HRoom:=Hd hroom;have r9:=r8 hr;clear hroom r7 r8 r5;generalize X.alc.room P p.n (ag X.D.L+1)=R at*;obtain⟨⟨q1,q2⟩,R2⟩:=R
 dsimp only at*
 subst hr
 have HFin:Hid (∀w2 F2,PI RR p ⟨R2.f,plO p.n R2.f X.D,emB p.n R2.f,idB p.n R2.f,R2.sc,R2.D,R2.A⟩ (m+6) w2 F2->Calls prog 63 #[.pointer (some ⟨p.db,0,none⟩),.int .u32 (ag X.D.L+1:Nat)] w2 λe w'=>(∃x,e=.returned x)/\Led (PW RR ok p {R2 with D:=(R2.D.free (ag X.D.L+1)).2} (m+10)) F2 w2 w'):=λw2 F2 h=>by
  refine(h.free S hu).mono ?_;rintro e w'⟨he,hl⟩;refine⟨⟨_,he⟩,hl.mono (λF' h'=>?_)⟩
  dsimp only at h'
  have hw:PW RR ok p {R2 with D:=(R2.D.free (ag X.D.L+1)).2} (m+6) w' F':=⟨by
   unfold CT
   dsimp only
   rw[qW r6];exact h',r1.free r3,r2⟩
  exact hw.more S (by omega)
 have hne:(((q2:Nat):Int)==0)=false:=by simp<;>exact r9
 unfold PP.ptr at*;clear H S HA ha hf r1 r2 r3 r4 r6 r9;generalize hgi:ag X.D.L+1=id at*;clear hgi hu;go_enter func37,ntmps37
 go_wp2_with fail
 refine HA1.out.mono ?_;rintro e w1⟨rfl,rfl⟩
 go_wp2_with fail
 refine HL.out.mono ?_;rintro e w1⟨rfl,F1,h1,g1,k1⟩;have HR1:=Hd (HRoom.out w1 F1 h1);obtain⟨_,lb1⟩:=h1.c0;have G1:=Hd g1;have K1:=Hd k1;clear h1 g1 k1 HRoom
 go_wp2_with fail
 refine HR1.out.mono ?_;rintro e w2⟨rfl,F2,h2,g2,k2⟩;have HF2:=Hd (HFin.out w2 F2 h2);obtain⟨c2,lb2⟩:=h2.c0;have G2:=Hd g2;have K2:=Hd k2;clear h2 g2 k2 HFin HR1
 go_wp2_with fail
 refine HF2.out.mono ?_;rintro e w3⟨⟨x,rfl⟩,h3⟩;have H3:=Hd h3;clear h3;go_wp2;go_returns;exact⟨rfl,Led.trans G1.out K1.out (Led.trans G2.out K2.out H3.out)⟩
theorem Gb(H:PW RR ok p X m w F)(hm:m<60000)(ha:¬X.all p.n=true)(hf:X.D.L.length<X.D.room){k:Nat}(hr:(X.alc.room P p.n (ag X.D.L+1)).1.1=some k):Calls prog 37 #[p.ptr] w λe w'=>e=.returned (.tuple #[.int .u32 (ag X.D.L+1:Nat),.int .i64 0])/\
  Led (PW RR ok p {(X.alc.room P p.n (ag X.D.L+1)).2 with f:=upd (X.alc.room P p.n (ag X.D.L+1)).2.f k ⟨ag X.D.L+1,0,1,false⟩,A:=P.access (X.alc.room P p.n (ag X.D.L+1)).2.A k (ag X.D.L+1)} (m+10)) F w w':=by
 have HA:=bp H.1.me;rw[show(CT p.n X).E=emB p.n X.f from rfl,show(CT p.n X).I=idB p.n X.f from rfl,X.all_eq,Bool.eq_false_iff.2 ha]at HA;have HA1:=Hd HA;obtain⟨c0,lb⟩:=H.1.c0;obtain⟨hu,_,_⟩:=jn S H hf;have hl0:=H.1.alloc S hf;rw[show(CT p.n X).D=X.D from rfl]at hl0;have HL:=Hd hl0;clear hl0;obtain⟨hroom,r1,r2,r3,r4,r5,r6,r7,r8⟩:=tY S H hm ha hf;obtain⟨r9,r10,r11⟩:=r7 k hr;have HRoom:=Hd hroom;have hI0:=H.2.1;clear hroom r7 r8 r6;generalize X.alc.room P p.n (ag X.D.L+1)=R at*;obtain⟨⟨q1,q2⟩,R2⟩:=R
 dsimp only at*
 subst hr;subst r9;have hk0:(R2.f k).id=0:=by rw[r11];rfl
 have hkp:(R2.f k).pins=0:=by rw[r11];rfl
 have hno':∀i,i<p.n->¬pgO R2.f i=ag X.D.L+1:=r3
 have HFin:Hid (∀w2 F2,PI RR p ⟨R2.f,plO p.n R2.f X.D,emB p.n R2.f,idB p.n R2.f,R2.sc,R2.D,R2.A⟩ (m+6) w2 F2->Calls prog 64 #[p.ptr,.int .i64 k,.int .u32 (ag X.D.L+1:Nat)] w2 λe w'=>e=.returned (.tuple #[])/\Led (PW RR ok p {R2 with f:=upd R2.f k ⟨ag X.D.L+1,0,1,false⟩,A:=P.access R2.A k (ag X.D.L+1)} (m+10)) F2 w2 w'):=λw2 F2 h=>by
  refine(jF S h (by omega) r10 (by omega) hu r2 hk0 hno' (by omega)).mono ?_;rintro e w'⟨he,hl⟩;refine⟨he,hl.mono (λF' h'=>?_)⟩
  dsimp only at h'
  have hw:PW RR ok p {R2 with f:=upd R2.f k ⟨ag X.D.L+1,0,1,false⟩,A:=P.access R2.A k (ag X.D.L+1)} (m+6+1) w' F':=⟨by
   unfold CT
   dsimp only
   have e1:plO p.n (upd R2.f k ⟨ag X.D.L+1,0,1,false⟩) R2.D=bN (plO p.n R2.f X.D) (ag X.D.L+1) (some (k:Int)):=by
    rw[mV (x:=⟨ag X.D.L+1,0,1,false⟩) r1 r10 hk0 r4 r3]
    funext y
    by_cases q:y=ag X.D.L+1
    .subst q;rw[cq,cq]
    .rw[bI _ _ q,bI _ _ q]
     unfold plO;rw[r5 y];simp[q]
   rw[e1,dw r10,cO r10]
   have e2:ap (idB p.n R2.f) k (decide (¬(FrS.id ⟨ag X.D.L+1,0,1,false⟩)=0)&&decide ((FrS.pins ⟨ag X.D.L+1,0,1,false⟩)=0))=idB p.n R2.f:=by
    have e3:idB p.n R2.f k=false:=by rw[dm r10,hk0];simp
    rw[show(decide (¬(FrS.id ⟨ag X.D.L+1,0,1,false⟩)=0)&&decide ((FrS.pins ⟨ag X.D.L+1,0,1,false⟩)=0))=false from by simp];exact bD e3
   rw[e2,show decide ((FrS.id ⟨ag X.D.L+1,0,1,false⟩)=0)=false from by simp];exact h',r1.enter r10 hk0 r4 r3 (by show 0<_;omega),by
   show ok (m+6+1) (P.access R2.A k (ag X.D.L+1)) (pgO (upd R2.f k ⟨ag X.D.L+1,0,1,false⟩)) (evO (upd R2.f k ⟨ag X.D.L+1,0,1,false⟩))
   rw[cN,cR];exact S.okNew r2 (by omega) (by omega) hu r10 hk0 hno'⟩
  exact hw.more S (by omega)
 unfold PP.ptr at*;clear H S HA ha hf r1 r2 r3 r4 r5 r10 r11 hk0 hkp hno' hI0;generalize hgi:ag X.D.L+1=id at*;clear hgi hu;have hpz:plZ (some k)=(k:Int):=rfl;rw[hpz]at HRoom;go_enter func37,ntmps37
 go_wp2_with fail
 refine HA1.out.mono ?_;rintro e w1⟨rfl,rfl⟩
 go_wp2_with fail
 refine HL.out.mono ?_;rintro e w1⟨rfl,F1,h1,g1,k1⟩;have HR1:=Hd (HRoom.out w1 F1 h1);obtain⟨_,lb1⟩:=h1.c0;have G1:=Hd g1;have K1:=Hd k1;clear h1 g1 k1 HRoom
 go_wp2_with fail
 refine HR1.out.mono ?_;rintro e w2⟨rfl,F2,h2,g2,k2⟩;have HF2:=Hd (HFin.out w2 F2 h2);obtain⟨c2,lb2⟩:=h2.c0;have G2:=Hd g2;have K2:=Hd k2;clear h2 g2 k2 HFin HR1
 go_wp2_with fail
 refine HF2.out.mono ?_;rintro e w3⟨rfl,h3⟩;have H3:=Hd h3;clear h3;go_wp2;go_returns;exact⟨rfl,Led.trans G1.out K1.out (Led.trans G2.out K2.out H3.out)⟩
theorem Bf(H:PW RR ok p X m w F)(hm:m<60000):Calls prog 37 #[p.ptr] w λe w'=>e=.returned (.tuple #[.int .u32 (X.newPage P p.n).1.1,.int .i64 (X.newPage P p.n).1.2])/\Led (PW RR ok p (X.newPage P p.n).2 (m+10)) F w w':=by
 unfold PS.newPage;by_cases ha:X.all p.n=true
 .rw[if_pos ha]
  refine(Eu S H ha).mono ?_;rintro e w'⟨he,rfl⟩;exact⟨he,Led.refl (H.more S (by omega))⟩
 .rw[if_neg ha]
  by_cases hf:X.D.room<=X.D.L.length
  .rw[if_pos hf]
   refine(B8 S H ha hf).mono ?_;rintro e w'⟨he,hl⟩;exact⟨he,hl.mono (λF' h=>h.more S (by omega))⟩
  .rw[if_neg hf]
   have hf':X.D.L.length<X.D.room:=by omega
   cases hr:(X.alc.room P p.n (ag X.D.L+1)).1.1 with
   |none=>
    have:=CZ S H hm ha hf' hr;unfold PS.alc at hr this;rw[hr];exact this
   |some k=>
    have:=Gb S H hm ha hf' hr;unfold PS.alc at hr this;rw[hr];exact this
end
end
end Go.Proofs.YtoenclhimbpfeaaGreatDoor
