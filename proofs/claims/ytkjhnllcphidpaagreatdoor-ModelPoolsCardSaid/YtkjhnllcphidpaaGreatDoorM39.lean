/- Part 39. -/
import Derived.Test.YtkjhnllcphidpaaGreatDoorM38
namespace Go.Proofs.YtkjhnllcphidpaaGreatDoor
set_option linter.all false
set_option maxHeartbeats 16000000
set_option maxRecDepth 100000
section
open Go.Maps Go.Proofs.Tryz Go.RowKit
section
variable{τ:Type}(P:Adv τ)(n:Nat)
def PS.vic(S:PS τ)(id:Nat):Nat×τ×Nat:=gS P n (P.miss S.A id) (idB n S.f) id
def PS.room(S:PS τ)(id:Nat):(Option Nat×Nat)×PS τ:=
 match fstB n (emB n S.f)with
 |some x=>((some x,0),{S with A:=P.miss S.A id})
 |none=>
  if(S.f (S.vic P n id).1).dirty=true then
   if(S.D.write (S.f (S.vic P n id).1).id (S.f (S.vic P n id).1).val).1=0 then
    ((some (S.vic P n id).1,0),⟨upd S.f (S.vic P n id).1 zF,(S.D.write (S.f (S.vic P n id).1).id (S.f (S.vic P n id).1).val).2,(S.vic P n id).2.1,S.sc+(S.vic P n id).2.2⟩)
   else
    ((none,(S.D.write (S.f (S.vic P n id).1).id (S.f (S.vic P n id).1).val).1),⟨S.f,(S.D.write (S.f (S.vic P n id).1).id (S.f (S.vic P n id).1).val).2,P.set (P.access (S.vic P n id).2.1 (S.vic P n id).1 (S.f (S.vic P n id).1).id) (S.vic P n id).1 true,S.sc+(S.vic P n id).2.2⟩)
  else((some (S.vic P n id).1,0),⟨upd S.f (S.vic P n id).1 zF,S.D,(S.vic P n id).2.1,S.sc+(S.vic P n id).2.2⟩)
def PS.roomPl(S:PS τ)(id:Nat)(pl:Nat->Option Int):Nat->Option Int:=
 match fstB n (emB n S.f)with
 |some x=>pl
 |none=>
  if(S.f (S.vic P n id).1).dirty=true then
   if(S.D.write (S.f (S.vic P n id).1).id (S.f (S.vic P n id).1).val).1=0 then bQ pl (S.f (S.vic P n id).1).id (some (-1))else pl
  else bQ pl (S.f (S.vic P n id).1).id (some (-1))
def PS.all(S:PS τ):Bool:=(fstB n (emB n S.f)).isNone&&(fstB n (idB n S.f)).isNone
noncomputable def PS.newPage(S:PS τ):(Nat×Nat)×PS τ:=
 if S.all n=true then((0,6),S)
 else if S.D.room<=S.D.L.length then((0,2),S)
 else match(PS.room P n {S with D:=S.D.ins (ag S.D.L)} (ag S.D.L+1)).1.1 with
  |none=>((0,(PS.room P n {S with D:=S.D.ins (ag S.D.L)} (ag S.D.L+1)).1.2),{(PS.room P n {S with D:=S.D.ins (ag S.D.L)} (ag S.D.L+1)).2 with D:=((PS.room P n {S with D:=S.D.ins (ag S.D.L)} (ag S.D.L+1)).2.D.free (ag S.D.L+1)).2})
  |some k=>((ag S.D.L+1,0),{(PS.room P n {S with D:=S.D.ins (ag S.D.L)} (ag S.D.L+1)).2 with f:=upd (PS.room P n {S with D:=S.D.ins (ag S.D.L)} (ag S.D.L+1)).2.f k ⟨ag S.D.L+1,0,1,false⟩,A:=P.access (PS.room P n {S with D:=S.D.ins (ag S.D.L)} (ag S.D.L+1)).2.A k (ag S.D.L+1)})
def PS.touch(S:PS τ)(k:Nat):PS τ:={S with f:=upd S.f k {S.f k with pins:=(S.f k).pins+1},A:=if(S.f k).pins=0 then P.set (P.access S.A k (S.f k).id) k false else P.access S.A k (S.f k).id}
def PS.fetch(S:PS τ)(id:Nat):Nat×PS τ:=
 if S.D.has id=true then
  match frm n S.f id with
  |some k=>(0,S.touch P k)
  |none=>
   if S.all n=true then(6,S)
   else match(S.room P n id).1.1 with
    |none=>((S.room P n id).1.2,(S.room P n id).2)
    |some k=>
     if((S.room P n id).2.D.read id).1.2=0 then(0,{(S.room P n id).2 with f:=upd (S.room P n id).2.f k ⟨id,((S.room P n id).2.D.read id).1.1,1,false⟩,D:=((S.room P n id).2.D.read id).2,A:=P.access (S.room P n id).2.A k id})
     else(((S.room P n id).2.D.read id).1.2,{(S.room P n id).2 with D:=((S.room P n id).2.D.read id).2,A:=P.remove (P.access (S.room P n id).2.A k id) k})
 else(3,S)
def PS.held(S:PS τ)(id:Nat):Nat×Nat:=
 if S.D.has id=true then
  match frm n S.f id with
  |some k=>if(S.f k).pins=0 then(0,5)else(k,0)
  |none=>(0,5)
 else(0,3)
def PS.unpin(S:PS τ)(id:Nat):Nat×PS τ:=
 if(S.held n id).2=0 then(0,{S with f:=upd S.f (S.held n id).1 {S.f (S.held n id).1 with pins:=(S.f (S.held n id).1).pins-1},A:=if(S.f (S.held n id).1).pins=1 then P.set S.A (S.held n id).1 true else S.A})
 else((S.held n id).2,S)
def PS.read(S:PS τ)(id:Nat):Nat×Nat:=if(S.held n id).2=0 then((S.f (S.held n id).1).val,0)else(0,(S.held n id).2)
def PS.write(S:PS τ)(id v:Nat):Nat×PS τ:=
 if(S.held n id).2=0 then(0,{S with f:=upd S.f (S.held n id).1 {S.f (S.held n id).1 with val:=v,dirty:=true}})
 else((S.held n id).2,S)
def PS.clean(S:PS τ)(k:Nat):Nat×PS τ:=
 if(S.f k).dirty=true then
  if(S.D.write (S.f k).id (S.f k).val).1=0 then(0,{S with f:=upd S.f k {S.f k with dirty:=false},D:=(S.D.write (S.f k).id (S.f k).val).2})
  else((S.D.write (S.f k).id (S.f k).val).1,{S with D:=(S.D.write (S.f k).id (S.f k).val).2})
 else(0,S)
def PS.flush(S:PS τ)(id:Nat):Nat×PS τ:=
 if S.D.has id=true then
  match frm n S.f id with
  |some k=>S.clean k
  |none=>(0,S)
 else(3,S)
def PS.delete(S:PS τ)(id:Nat):Nat×PS τ:=
 if S.D.has id=true then
  match frm n S.f id with
  |some k=>if(S.f k).pins=0 then(0,{S with f:=upd S.f k zF,D:=(S.D.free id).2,A:=P.remove S.A k})else(4,S)
  |none=>(0,{S with D:=(S.D.free id).2})
 else(3,S)
def PS.pins(S:PS τ)(id:Nat):Nat:=if(S.held n id).2=0 then(S.f (S.held n id).1).pins else 0
end
def pgO(f:Nat->FrS):Nat->Nat:=λi=>(f i).id
def evO(f:Nat->FrS):Nat->Bool:=λi=>decide ((f i).pins=0)
section
variable{τ:Type}{P:Adv τ}{RR:World->τ->(Nat->Prop)->Prop}{ok:Nat->τ->(Nat->Nat)->(Nat->Bool)->Prop}{p:PP}(S:aG P RR p.pb p.rv p.n ok){w w':World}{m:Nat}{F:Nat->Prop}{X:PS τ}
theorem cX(f:Nat->FrS)(k:Nat)(x:FrS):pgO (upd f k x)=upd (pgO f) k x.id:=by
 funext i;unfold pgO
 by_cases e:i=k
 .rw[e,upd_same,upd_same]
 .rw[ab _ _ e,ab _ _ e]
theorem cT(f:Nat->FrS)(k:Nat)(x:FrS):evO (upd f k x)=upd (evO f) k (decide (x.pins=0)):=by
 funext i;unfold evO
 by_cases e:i=k
 .rw[e,upd_same,upd_same]
 .rw[ab _ _ e,ab _ _ e]
theorem iO(n:Nat)(f:Nat->FrS)(x:Nat):idB n f x=true↔bi n (pgO f) (evO f) x:=by
 unfold idB bi pgO evO;simp
def PW(RR:World->τ->(Nat->Prop)->Prop)(ok:Nat->τ->(Nat->Nat)->(Nat->Bool)->Prop)(p:PP)(X:PS τ)(m:Nat)(w:World)(F:Nat->Prop):Prop:=PI RR p (CT p.n X) m w F/\Inv p.n X.f X.D/\ok m X.A (pgO X.f) (evO X.f)
include S
theorem PW.more(H:PW RR ok p X m w F){k:Nat}(hk:m<=k):PW RR ok p X k w F:=⟨H.1.more hk,H.2.1,S.more H.2.2 hk⟩
theorem PW.fr0(H:PW RR ok p X m w F)(g:Fr NoF w w'):PW RR ok p X m w' F:=⟨H.1.fr0 S g,H.2⟩
theorem kK{D0:RS}(hI:Inv p.n X.f X.D)(hm:m<70000)(ho:ok m X.A (pgO X.f) (evO X.f)){id:Nat}(h1:1<=id)(hno:∀i,i<p.n->¬(X.f i).id=id)(hall:¬X.all p.n=true)(hb:∀i,i<p.n->(X.f i).id<4294967296):
  Inv p.n (X.room P p.n id).2.f (X.room P p.n id).2.D/\ok (m+6) (X.room P p.n id).2.A (pgO (X.room P p.n id).2.f) (evO (X.room P p.n id).2.f)/\
  (∀i,i<p.n->¬((X.room P p.n id).2.f i).id=id)/\(∀x,(X.room P p.n id).2.D.has x=X.D.has x)/\(X.room P p.n id).2.D.room=X.D.room/\
  (∀D0,Inv p.n X.f D0->X.roomPl P p.n id (plO p.n X.f D0)=plO p.n (X.room P p.n id).2.f D0)/\
  (∀k,(X.room P p.n id).1.1=some k->(X.room P p.n id).1.2=0/\k<p.n/\(X.room P p.n id).2.f k=zF)/\((X.room P p.n id).1.1=none->¬(X.room P p.n id).1.2=0/\(X.room P p.n id).2.f=X.f):=by
 have hno':∀i,i<p.n->¬pgO X.f i=id:=hno;unfold PS.room PS.roomPl
 cases he:fstB p.n (emB p.n X.f)with
 |some x=>
  dsimp only
  obtain⟨x1,x2⟩:=aP he;have x3:(X.f x).id=0:=by have:=x2.1;rw[dN x1]at this;simpa using this
  refine⟨hI,S.more (S.okMiss ho (by omega) h1 hno') (by omega),hno,λx=>rfl,rfl,λD0 _=>rfl,λk hk=>?_,λh=>(by cases h)⟩
  cases hk
  exact⟨rfl,x1,hI.em x x1 x3⟩
 |none=>
  dsimp only
  obtain⟨x0,hx0⟩:∃x0,fstB p.n (idB p.n X.f)=some x0:=by
   cases hq:fstB p.n (idB p.n X.f)with
   |some x0=>exact⟨x0,rfl⟩
   |none=>exact absurd (by unfold PS.all;rw[he,hq];rfl) hall
  have okM:=S.okMiss ho (by omega) h1 hno';have hg:=iO p.n X.f;have hgo:bi p.n (pgO X.f) (evO X.f) (X.vic P p.n id).1:=gi S (P:=P) (A:=P.miss X.A id) (id:=id) hg hx0;have okV:ok (m+1+2) (X.vic P p.n id).2.1 (upd (pgO X.f) (X.vic P p.n id).1 0) (upd (evO X.f) (X.vic P p.n id).1 false):=zn S (by omega) h1 okM hno' hg hx0;generalize X.vic P p.n id=V at*;obtain⟨v1,v2,v3⟩:=V
  dsimp only at*
  obtain⟨hv1,hv2,hv3⟩:=hgo;have hv2':¬(X.f v1).id=0:=hv2
  have okZ:ok (m+6) v2 (pgO (upd X.f v1 zF)) (evO (upd X.f v1 zF)):=by
   rw[cX,cT];refine S.same (S.more okV (by omega)) (λi hi=>rfl) (λi hi q=>?_);by_cases e:i=v1
   .rw[e,upd_same]at q;exact absurd rfl q
   .rw[ab _ _ e,ab _ _ e]
  have noZ:∀i,i<p.n->¬(upd X.f v1 zF i).id=id:=λi hi q=>by
   by_cases e:i=v1
   .rw[e,upd_same]at q;exact absurd q (by show¬0=id;omega)
   .rw[ab _ _ e]at q;exact hno i hi q
  by_cases hd:(X.f v1).dirty=true
  .rw[if_pos hd]
   by_cases hw:(X.D.write (X.f v1).id (X.f v1).val).1=0
   .simp only[if_pos hw,if_pos hd]
    refine⟨(hI.vac hv1).write _ (hI.vf v1 hv1),okZ,noZ,λx=>RS.write_has _ _ _ _,(RS.write_ids _ _ _).2,λD0 h0=>(oq h0 hv1 hv2').symm,λk hk=>?_,λh=>(by cases h)⟩
    cases hk
    exact⟨by first|rfl|trivial,hv1,upd_same _ _ _⟩
   .simp only[if_neg hw,if_pos hd]
    refine⟨hI.write _ (hI.vf v1 hv1),?_,hno,λx=>RS.write_has _ _ _ _,(RS.write_ids _ _ _).2,λD0 h0=>by first|rfl|trivial,λk hk=>(by cases hk),λ_=>⟨hw,by first|rfl|trivial⟩⟩
    have hnv:∀i,i<p.n->¬upd (pgO X.f) v1 0 i=(X.f v1).id:=λi hi e=>by
     by_cases q:i=v1
     .rw[q,upd_same]at e;exact hv2' e.symm
     .rw[ab _ _ q]at e
      exact q (hI.inj i v1 hi hv1 (λz=>hv2' (by rw[<-e];exact z)) e)
    have o1:=S.okNew okV (by omega) (by omega) (hb v1 hv1) hv1 (upd_same _ _ _) hnv;have o2:=S.okSet true o1 (by omega) hv1 (by rw[upd_same];exact hv2');refine S.same (S.more o2 (by omega)) (λi hi=>?_) (λi hi q=>?_)
    .by_cases e:i=v1
     .rw[e,upd_same];rfl
     .rw[ab _ _ e,ab _ _ e]
    .by_cases e:i=v1
     .rw[e,upd_same];exact hv3.symm
     .rw[ab _ _ e,ab _ _ e,ab _ _ e]
  .simp only[if_neg hd]
   refine⟨hI.vac hv1,okZ,noZ,λx=>by first|rfl|trivial,by first|rfl|trivial,λD0 h0=>(oq h0 hv1 hv2').symm,λk hk=>?_,λh=>(by cases h)⟩
   cases hk
   exact⟨by first|rfl|trivial,hv1,upd_same _ _ _⟩
theorem kz{pl:Nat->Option Int}(H:PI RR p ⟨X.f,pl,emB p.n X.f,idB p.n X.f,X.sc,X.D,X.A⟩ m w F)(hI:∀i j,i<p.n->j<p.n->¬(X.f i).id=0->(X.f i).id=(X.f j).id->i=j)(hm:m<70000)(ho:ok m X.A (pgO X.f) (evO X.f)){id:Nat}(h1:1<=id)(hu:id<4294967296)(hno:∀i,i<p.n->¬(X.f i).id=id)(hall:¬X.all p.n=true):
  Calls prog 77 #[p.ptr,.int .u32 id] w λe w'=>e=.returned (.tuple #[.int .i64 (plZ (X.room P p.n id).1.1),.int .i64 (X.room P p.n id).1.2])/\
   Led (PI RR p ⟨(X.room P p.n id).2.f,X.roomPl P p.n id pl,emB p.n (X.room P p.n id).2.f,idB p.n (X.room P p.n id).2.f,(X.room P p.n id).2.sc,(X.room P p.n id).2.D,(X.room P p.n id).2.A⟩ (m+6)) F w w':=by
 have hno':∀i,i<p.n->¬pgO X.f i=id:=hno;unfold PS.room PS.roomPl
 cases he:fstB p.n (emB p.n X.f)with
 |some x=>
  dsimp only
  exact pI S H hm h1 hu ho hno' he
 |none=>
  dsimp only
  obtain⟨x0,hx0⟩:∃x0,fstB p.n (idB p.n X.f)=some x0:=by
   cases hq:fstB p.n (idB p.n X.f)with
   |some x0=>exact⟨x0,rfl⟩
   |none=>exact absurd (by unfold PS.all;rw[he,hq];rfl) hall
  have hg:=iO p.n X.f;have hE:∀x,x<p.n->emB p.n X.f x=false:=bP he;have hgo:bi p.n (pgO X.f) (evO X.f) (X.vic P p.n id).1:=gi S (P:=P) (A:=P.miss X.A id) (id:=id) hg hx0;obtain⟨hv1,hv2,hv3⟩:=hgo;have hv2':¬(X.f (X.vic P p.n id).1).id=0:=hv2;have e1:emB p.n (upd X.f (X.vic P p.n id).1 zF)=ai (emB p.n X.f) (X.vic P p.n id).1 true:=dC hv1 zF;have e2:idB p.n (upd X.f (X.vic P p.n id).1 zF)=ai (idB p.n X.f) (X.vic P p.n id).1 false:=cZ hv1 zF;by_cases hd:(X.f (X.vic P p.n id).1).dirty=true
  .by_cases hw:(X.D.write (X.f (X.vic P p.n id).1).id (X.f (X.vic P p.n id).1).val).1=0
   .simp only[if_pos hw,if_pos hd]
    rw[e1,e2];exact pE S H hm h1 hu ho hno' hE hg (λx _=>rfl) hx0 hd hw
   .simp only[if_neg hw,if_pos hd]
    exact sZ S H hm h1 hu ho hno' hE hg (λx _=>rfl) hI hx0 hd hw
  .simp only[if_neg hd]
   rw[e1,e2];exact sD S H hm h1 hu ho hno' hE hg (λx _=>rfl) hx0 (Bool.eq_false_iff.2 hd)
end
theorem qZ(n:Nat)(I:Nat->Bool):cntB I n=0↔fstB n I=none:=by
 constructor
 .intro h
  cases e:fstB n I with
  |none=>rfl
  |some x=>obtain⟨h1,h2⟩:=aP e;have:=gI h x h1;rw[h2.1]at this;cases this
 .intro h
  rcases Nat.eq_zero_or_pos (cntB I n)with q|q
  .exact q
  .obtain⟨x,h1,h2⟩:=nB (S:=I) (n:=n) (by omega)
   rw[bP h x h1]at h2;cases h2
theorem PS.all_eq{τ:Type}(X:PS τ)(n:Nat):decide (cntB (emB n X.f) n=0/\cntB (idB n X.f) n=0)=X.all n:=by
 unfold PS.all;rw[Bool.eq_iff_iff];simp[qZ]
section
variable{τ:Type}{P:Adv τ}{RR:World->τ->(Nat->Prop)->Prop}{ok:Nat->τ->(Nat->Nat)->(Nat->Bool)->Prop}{p:PP}(S:aG P RR p.pb p.rv p.n ok){w w':World}{m:Nat}{F:Nat->Prop}{X:PS τ}{T:PT τ}
theorem PI.c0(H:PI RR p T m w F):w.cell? ⟨p.pb,0,none⟩=some (.pointer (some ⟨p.db,0,none⟩))/\p.pb<w.heap.size:=⟨H.me.ce 0 (by omega),H.me.hd.lt⟩
theorem PI.cdE(H:PI RR p T m w F):∃FD,CD p.db T.D m w FD:=by obtain⟨FD,FR,h,_⟩:=H;exact⟨FD,h.cd⟩
include S
theorem PI.free(H:PI RR p T m w F){id:Nat}(hu:id<4294967296):Calls prog 78 #[.pointer (some ⟨p.db,0,none⟩),.int .u32 id] w λe w'=>e=.returned (.int .i64 (T.D.free id).1)/\Led (PI RR p {T with D:=(T.D.free id).2} m) F w w':=
 H.disk S (Q:=λe _=>e=.returned (.int .i64 (T.D.free id).1)) (Nat.le_refl m) (λFD hd=>A9 hd (by unfold aO;omega))
theorem PI.alloc(H:PI RR p T m w F)(hf:T.D.L.length<T.D.room):Calls prog 76 #[.pointer (some ⟨p.db,0,none⟩)] w λe w'=>e=.returned (.tuple #[.int .u32 (ag T.D.L+1:Nat),.int .i64 0])/\Led (PI RR p {T with D:=T.D.ins (ag T.D.L)} m) F w w':=
 H.disk S (Q:=λe _=>e=.returned (.tuple #[.int .u32 (ag T.D.L+1:Nat),.int .i64 0])) (Nat.le_refl m) (λFD hd=>xU hd hf)
theorem PI.full(H:PI RR p T m w F)(hf:T.D.room<=T.D.L.length):Calls prog 76 #[.pointer (some ⟨p.db,0,none⟩)] w λe w'=>e=.returned (.tuple #[.int .u32 0,.int .i64 2])/\Led (PI RR p T m) F w w':=
 H.disk S (Q:=λe _=>e=.returned (.tuple #[.int .u32 0,.int .i64 2])) (Nat.le_refl m) (λFD hd=>Bj hd hf)
theorem PI.read(H:PI RR p T m w F)(hm:m<80000){id:Nat}(hu:id<4294967296):Calls prog 82 #[.pointer (some ⟨p.db,0,none⟩),.int .u32 id] w λe w'=>e=.returned (.tuple #[.int .u64 (T.D.read id).1.1,.int .i64 (T.D.read id).1.2])/\Led (PI RR p {T with D:=(T.D.read id).2} (m+1)) F w w':=
 H.disk S (Q:=λe _=>e=.returned (.tuple #[.int .u64 (T.D.read id).1.1,.int .i64 (T.D.read id).1.2])) (Nat.le_succ m) (λFD hd=>By hd (by omega) (by unfold aO;omega))
theorem Ek(H:PW RR ok p X m w F)(ha:X.all p.n=true):Calls prog 42 #[p.ptr] w λe w'=>e=.returned (.tuple #[.int .u32 0,.int .i64 6])/\w=w':=by
 have HA:=bq H.1.me;rw[show(CT p.n X).E=emB p.n X.f from rfl,show(CT p.n X).I=idB p.n X.f from rfl,X.all_eq,ha]at HA;have HA1:=Hd HA;unfold PP.ptr at*;clear H S HA;go_enter func42,ntmps42
 go_wp2_with fail
 refine HA1.out.mono ?_;rintro e w1⟨rfl,rfl⟩;go_wp2;go_returns;exact⟨rfl,rfl⟩
theorem Bu(H:PW RR ok p X m w F)(ha:¬X.all p.n=true)(hf:X.D.room<=X.D.L.length):Calls prog 42 #[p.ptr] w λe w'=>e=.returned (.tuple #[.int .u32 0,.int .i64 2])/\Led (PW RR ok p X m) F w w':=by
 have HA:=bq H.1.me;rw[show(CT p.n X).E=emB p.n X.f from rfl,show(CT p.n X).I=idB p.n X.f from rfl,X.all_eq,Bool.eq_false_iff.2 ha]at HA;have HA1:=Hd HA;obtain⟨c0,lb⟩:=H.1.c0;have HL:=Hd ((H.1.full S hf).mono (λe w' ⟨he,hl⟩=>(⟨he,hl.mono (λF' h=>(⟨h,H.2⟩:PW RR ok p X m w' F'))⟩:e=Ending.returned (.tuple #[.int .u32 0,.int .i64 2])/\Led (PW RR ok p X m) F w w')));unfold PP.ptr at*;clear H S HA ha hf;go_enter func42,ntmps42
 go_wp2_with fail
 refine HA1.out.mono ?_;rintro e w1⟨rfl,rfl⟩
 go_wp2_with fail
 refine HL.out.mono ?_;rintro e w1⟨rfl,h1⟩;have H1:=Hd h1;clear h1;go_wp2;go_returns;exact⟨rfl,H1.out⟩
noncomputable def PS.alc(X:PS τ):PS τ:={X with D:=X.D.ins (ag X.D.L)}
theorem ji(H:PW RR ok p X m w F)(hf:X.D.L.length<X.D.room):ag X.D.L+1<4294967296/\(∀i,i<p.n->¬(X.f i).id=ag X.D.L+1)/\Inv p.n X.alc.f X.alc.D:=by
 obtain⟨FD,hcd⟩:=H.1.cdE;have hrm:X.D.room<=65535:=hcd.room.2;have hle:=(cF X.D.L).le;refine⟨by omega,λi hi q=>?_,H.2.1.ins hf⟩;have h1:=H.2.1.has i hi (by omega);rw[q,H.2.1.gap]at h1;cases h1
theorem uQ(H:PW RR ok p X m w F)(hm:m<60000)(ha:¬X.all p.n=true)(hf:X.D.L.length<X.D.room):
  (∀w1 F1,PI RR p {CT p.n X with D:=X.D.ins (ag X.D.L)} m w1 F1->Calls prog 77 #[p.ptr,.int .u32 (ag X.D.L+1:Nat)] w1 λe w'=>e=.returned (.tuple #[.int .i64 (plZ (X.alc.room P p.n (ag X.D.L+1)).1.1),.int .i64 (X.alc.room P p.n (ag X.D.L+1)).1.2])/\
   Led (PI RR p ⟨(X.alc.room P p.n (ag X.D.L+1)).2.f,plO p.n (X.alc.room P p.n (ag X.D.L+1)).2.f X.D,emB p.n (X.alc.room P p.n (ag X.D.L+1)).2.f,idB p.n (X.alc.room P p.n (ag X.D.L+1)).2.f,(X.alc.room P p.n (ag X.D.L+1)).2.sc,(X.alc.room P p.n (ag X.D.L+1)).2.D,(X.alc.room P p.n (ag X.D.L+1)).2.A⟩ (m+6)) F1 w1 w')/\
  Inv p.n (X.alc.room P p.n (ag X.D.L+1)).2.f (X.alc.room P p.n (ag X.D.L+1)).2.D/\ok (m+6) (X.alc.room P p.n (ag X.D.L+1)).2.A (pgO (X.alc.room P p.n (ag X.D.L+1)).2.f) (evO (X.alc.room P p.n (ag X.D.L+1)).2.f)/\
  (∀i,i<p.n->¬((X.alc.room P p.n (ag X.D.L+1)).2.f i).id=ag X.D.L+1)/\(X.alc.room P p.n (ag X.D.L+1)).2.D.has (ag X.D.L+1)=true/\(∀x,(X.alc.room P p.n (ag X.D.L+1)).2.D.has x=(decide (x=ag X.D.L+1)||X.D.has x))/\
  (∀x,((X.alc.room P p.n (ag X.D.L+1)).2.D.free (ag X.D.L+1)).2.has x=X.D.has x)/\
  (∀k,(X.alc.room P p.n (ag X.D.L+1)).1.1=some k->(X.alc.room P p.n (ag X.D.L+1)).1.2=0/\k<p.n/\(X.alc.room P p.n (ag X.D.L+1)).2.f k=zF)/\((X.alc.room P p.n (ag X.D.L+1)).1.1=none->¬(X.alc.room P p.n (ag X.D.L+1)).1.2=0):=by
 obtain⟨hu,hno,hIa⟩:=ji S H hf;obtain⟨r1,r2,r3,r4,r5,r6,r7,r8⟩:=kK S (X:=X.alc) (D0:=X.D) hIa (by omega) H.2.2 (id:=ag X.D.L+1) (by omega) hno ha (λi _=>(H.1.me.bd.2 i).1);have e6:=r6 X.D H.2.1
 have h4:∀x,(X.alc.room P p.n (ag X.D.L+1)).2.D.has x=(decide (x=ag X.D.L+1)||X.D.has x):=λx=>by
  rw[r4]
  show(X.D.ins _).has _=_
  rw[RS.ins_has]
 have hhas:(X.alc.room P p.n (ag X.D.L+1)).2.D.has (ag X.D.L+1)=true:=by rw[h4];simp
 refine⟨λw1 F1 h=>?_,r1,r2,r3,hhas,h4,λx=>?_,r7,λq=>(r8 q).1⟩
 .have:=kz S (X:=X.alc) (pl:=plO p.n X.f X.D) h H.2.1.inj (by omega) H.2.2 (by omega) hu hno ha
  rw[show plO p.n X.alc.f X.D=plO p.n X.f X.D from rfl]at e6;rw[e6]at this;exact this
 .obtain⟨s,hs⟩:=r1.dr
  rw[hs.free_has hhas,h4];by_cases q:x=ag X.D.L+1
  .rw[q,H.2.1.gap];simp
  .simp[q]
theorem B7(H:PW RR ok p X m w F)(hm:m<60000)(ha:¬X.all p.n=true)(hf:X.D.L.length<X.D.room)(hr:(X.alc.room P p.n (ag X.D.L+1)).1.1=none):Calls prog 42 #[p.ptr] w λe w'=>e=.returned (.tuple #[.int .u32 0,.int .i64 (X.alc.room P p.n (ag X.D.L+1)).1.2])/\
  Led (PW RR ok p {(X.alc.room P p.n (ag X.D.L+1)).2 with D:=((X.alc.room P p.n (ag X.D.L+1)).2.D.free (ag X.D.L+1)).2} (m+10)) F w w':=by
 have HA:=bq H.1.me;rw[show(CT p.n X).E=emB p.n X.f from rfl,show(CT p.n X).I=idB p.n X.f from rfl,X.all_eq,Bool.eq_false_iff.2 ha]at HA;have HA1:=Hd HA;obtain⟨c0,lb⟩:=H.1.c0;obtain⟨hu,_,_⟩:=ji S H hf;have hl0:=H.1.alloc S hf;rw[show(CT p.n X).D=X.D from rfl]at hl0;have HL:=Hd hl0;clear hl0;obtain⟨hroom,r1,r2,r3,r4,r5,r6,r7,r8⟩:=uQ S H hm ha hf;have HRoom:=Hd hroom;have r9:=r8 hr;clear hroom r7 r8 r5;generalize X.alc.room P p.n (ag X.D.L+1)=R at*;obtain⟨⟨q1,q2⟩,R2⟩:=R
 dsimp only at*
 subst hr
 have HFin:Hid (∀w2 F2,PI RR p ⟨R2.f,plO p.n R2.f X.D,emB p.n R2.f,idB p.n R2.f,R2.sc,R2.D,R2.A⟩ (m+6) w2 F2->Calls prog 78 #[.pointer (some ⟨p.db,0,none⟩),.int .u32 (ag X.D.L+1:Nat)] w2 λe w'=>(∃x,e=.returned x)/\Led (PW RR ok p {R2 with D:=(R2.D.free (ag X.D.L+1)).2} (m+10)) F2 w2 w'):=λw2 F2 h=>by
  refine(h.free S hu).mono ?_;rintro e w'⟨he,hl⟩;refine⟨⟨_,he⟩,hl.mono (λF' h'=>?_)⟩
  dsimp only at h'
  have hw:PW RR ok p {R2 with D:=(R2.D.free (ag X.D.L+1)).2} (m+6) w' F':=⟨by
   unfold CT
   dsimp only
   rw[qR r6];exact h',r1.free r3,r2⟩
  exact hw.more S (by omega)
 have hne:(((q2:Nat):Int)==0)=false:=by simp<;>exact r9
 unfold PP.ptr at*;clear H S HA ha hf r1 r2 r3 r4 r6 r9;generalize hgi:ag X.D.L+1=id at*;clear hgi hu;go_enter func42,ntmps42
 go_wp2_with fail
 refine HA1.out.mono ?_;rintro e w1⟨rfl,rfl⟩
 go_wp2_with fail
 refine HL.out.mono ?_;rintro e w1⟨rfl,F1,h1,g1,k1⟩;have HR1:=Hd (HRoom.out w1 F1 h1);obtain⟨_,lb1⟩:=h1.c0;have G1:=Hd g1;have K1:=Hd k1;clear h1 g1 k1 HRoom
 go_wp2_with fail
 refine HR1.out.mono ?_;rintro e w2⟨rfl,F2,h2,g2,k2⟩;have HF2:=Hd (HFin.out w2 F2 h2);obtain⟨c2,lb2⟩:=h2.c0;have G2:=Hd g2;have K2:=Hd k2;clear h2 g2 k2 HFin HR1
 go_wp2_with fail
 refine HF2.out.mono ?_;rintro e w3⟨⟨x,rfl⟩,h3⟩;have H3:=Hd h3;clear h3;go_wp2;go_returns;exact⟨rfl,Led.trans G1.out K1.out (Led.trans G2.out K2.out H3.out)⟩
theorem EB(H:PW RR ok p X m w F)(hm:m<60000)(ha:¬X.all p.n=true)(hf:X.D.L.length<X.D.room){k:Nat}(hr:(X.alc.room P p.n (ag X.D.L+1)).1.1=some k):Calls prog 42 #[p.ptr] w λe w'=>e=.returned (.tuple #[.int .u32 (ag X.D.L+1:Nat),.int .i64 0])/\
  Led (PW RR ok p {(X.alc.room P p.n (ag X.D.L+1)).2 with f:=upd (X.alc.room P p.n (ag X.D.L+1)).2.f k ⟨ag X.D.L+1,0,1,false⟩,A:=P.access (X.alc.room P p.n (ag X.D.L+1)).2.A k (ag X.D.L+1)} (m+10)) F w w':=by
 have HA:=bq H.1.me;rw[show(CT p.n X).E=emB p.n X.f from rfl,show(CT p.n X).I=idB p.n X.f from rfl,X.all_eq,Bool.eq_false_iff.2 ha]at HA;have HA1:=Hd HA;obtain⟨c0,lb⟩:=H.1.c0;obtain⟨hu,_,_⟩:=ji S H hf;have hl0:=H.1.alloc S hf;rw[show(CT p.n X).D=X.D from rfl]at hl0;have HL:=Hd hl0;clear hl0;obtain⟨hroom,r1,r2,r3,r4,r5,r6,r7,r8⟩:=uQ S H hm ha hf;obtain⟨r9,r10,r11⟩:=r7 k hr;have HRoom:=Hd hroom;have hI0:=H.2.1;clear hroom r7 r8 r6;generalize X.alc.room P p.n (ag X.D.L+1)=R at*;obtain⟨⟨q1,q2⟩,R2⟩:=R
 dsimp only at*
 subst hr;subst r9;have hk0:(R2.f k).id=0:=by rw[r11];rfl
 have hkp:(R2.f k).pins=0:=by rw[r11];rfl
 have hno':∀i,i<p.n->¬pgO R2.f i=ag X.D.L+1:=r3
 have HFin:Hid (∀w2 F2,PI RR p ⟨R2.f,plO p.n R2.f X.D,emB p.n R2.f,idB p.n R2.f,R2.sc,R2.D,R2.A⟩ (m+6) w2 F2->Calls prog 79 #[p.ptr,.int .i64 k,.int .u32 (ag X.D.L+1:Nat)] w2 λe w'=>e=.returned (.tuple #[])/\Led (PW RR ok p {R2 with f:=upd R2.f k ⟨ag X.D.L+1,0,1,false⟩,A:=P.access R2.A k (ag X.D.L+1)} (m+10)) F2 w2 w'):=λw2 F2 h=>by
  refine(jF S h (by omega) r10 (by omega) hu r2 hk0 hno' (by omega)).mono ?_;rintro e w'⟨he,hl⟩;refine⟨he,hl.mono (λF' h'=>?_)⟩
  dsimp only at h'
  have hw:PW RR ok p {R2 with f:=upd R2.f k ⟨ag X.D.L+1,0,1,false⟩,A:=P.access R2.A k (ag X.D.L+1)} (m+6+1) w' F':=⟨by
   unfold CT
   dsimp only
   have e1:plO p.n (upd R2.f k ⟨ag X.D.L+1,0,1,false⟩) R2.D=bQ (plO p.n R2.f X.D) (ag X.D.L+1) (some (k:Int)):=by
    rw[mT (x:=⟨ag X.D.L+1,0,1,false⟩) r1 r10 hk0 r4 r3]
    funext y
    by_cases q:y=ag X.D.L+1
    .subst q;rw[cm,cm]
    .rw[bI _ _ q,bI _ _ q]
     unfold plO;rw[r5 y];simp[q]
   rw[e1,dC r10,cZ r10]
   have e2:ai (idB p.n R2.f) k (decide (¬(FrS.id ⟨ag X.D.L+1,0,1,false⟩)=0)&&decide ((FrS.pins ⟨ag X.D.L+1,0,1,false⟩)=0))=idB p.n R2.f:=by
    have e3:idB p.n R2.f k=false:=by rw[dw r10,hk0];simp
    rw[show(decide (¬(FrS.id ⟨ag X.D.L+1,0,1,false⟩)=0)&&decide ((FrS.pins ⟨ag X.D.L+1,0,1,false⟩)=0))=false from by simp];exact bC e3
   rw[e2,show decide ((FrS.id ⟨ag X.D.L+1,0,1,false⟩)=0)=false from by simp];exact h',r1.enter r10 hk0 r4 r3 (by show 0<_;omega),by
   show ok (m+6+1) (P.access R2.A k (ag X.D.L+1)) (pgO (upd R2.f k ⟨ag X.D.L+1,0,1,false⟩)) (evO (upd R2.f k ⟨ag X.D.L+1,0,1,false⟩))
   rw[cX,cT];exact S.okNew r2 (by omega) (by omega) hu r10 hk0 hno'⟩
  exact hw.more S (by omega)
 unfold PP.ptr at*;clear H S HA ha hf r1 r2 r3 r4 r5 r10 r11 hk0 hkp hno' hI0;generalize hgi:ag X.D.L+1=id at*;clear hgi hu;have hpz:plZ (some k)=(k:Int):=rfl;rw[hpz]at HRoom;go_enter func42,ntmps42
 go_wp2_with fail
 refine HA1.out.mono ?_;rintro e w1⟨rfl,rfl⟩
 go_wp2_with fail
 refine HL.out.mono ?_;rintro e w1⟨rfl,F1,h1,g1,k1⟩;have HR1:=Hd (HRoom.out w1 F1 h1);obtain⟨_,lb1⟩:=h1.c0;have G1:=Hd g1;have K1:=Hd k1;clear h1 g1 k1 HRoom
 go_wp2_with fail
 refine HR1.out.mono ?_;rintro e w2⟨rfl,F2,h2,g2,k2⟩;have HF2:=Hd (HFin.out w2 F2 h2);obtain⟨c2,lb2⟩:=h2.c0;have G2:=Hd g2;have K2:=Hd k2;clear h2 g2 k2 HFin HR1
 go_wp2_with fail
 refine HF2.out.mono ?_;rintro e w3⟨rfl,h3⟩;have H3:=Hd h3;clear h3;go_wp2;go_returns;exact⟨rfl,Led.trans G1.out K1.out (Led.trans G2.out K2.out H3.out)⟩
theorem zY(H:PW RR ok p X m w F)(hm:m<60000):Calls prog 42 #[p.ptr] w λe w'=>e=.returned (.tuple #[.int .u32 (X.newPage P p.n).1.1,.int .i64 (X.newPage P p.n).1.2])/\Led (PW RR ok p (X.newPage P p.n).2 (m+10)) F w w':=by
 unfold PS.newPage;by_cases ha:X.all p.n=true
 .rw[if_pos ha]
  refine(Ek S H ha).mono ?_;rintro e w'⟨he,rfl⟩;exact⟨he,Led.refl (H.more S (by omega))⟩
 .rw[if_neg ha]
  by_cases hf:X.D.room<=X.D.L.length
  .rw[if_pos hf]
   refine(Bu S H ha hf).mono ?_;rintro e w'⟨he,hl⟩;exact⟨he,hl.mono (λF' h=>h.more S (by omega))⟩
  .rw[if_neg hf]
   have hf':X.D.L.length<X.D.room:=by omega
   cases hr:(X.alc.room P p.n (ag X.D.L+1)).1.1 with
   |none=>
    have:=B7 S H hm ha hf' hr;unfold PS.alc at hr this;rw[hr];exact this
   |some k=>
    have:=EB S H hm ha hf' hr;unfold PS.alc at hr this;rw[hr];exact this
end
section
variable{τ:Type}{P:Adv τ}{RR:World->τ->(Nat->Prop)->Prop}{ok:Nat->τ->(Nat->Nat)->(Nat->Bool)->Prop}{p:PP}(S:aG P RR p.pb p.rv p.n ok){w w':World}{m:Nat}{F:Nat->Prop}{X:PS τ}{T:PT τ}
theorem dY{n:Nat}{f:Nat->FrS}{D:RS}{id:Nat}(h:D.has id=false):plO n f D id=none:=by unfold plO;rw[h];rfl
theorem ec{n:Nat}{f:Nat->FrS}{D:RS}{id k:Nat}(h:D.has id=true)(hk:frm n f id=some k):plO n f D id=some (k:Int):=by unfold plO;rw[h,hk];rfl
theorem eK{n:Nat}{f:Nat->FrS}{D:RS}{id:Nat}(h:D.has id=true)(hk:frm n f id=none):plO n f D id=some (-1):=by unfold plO;rw[h,hk];rfl
theorem Inv.fpos{n:Nat}{f:Nat->FrS}{D:RS}(H:Inv n f D){id k:Nat}(h:D.has id=true)(hk:frm n f id=some k):k<n/\(f k).id=id/\1<=id:=⟨(cG hk).1,(cG hk).2,H.pos h⟩
include S
theorem zK(H:PW RR ok p X m w F)(hm:m<60000){k:Nat}(hk:k<p.n)(h0:¬(X.f k).id=0):Calls prog 81 #[p.ptr,.int .i64 k] w λe w'=>e=.returned (.tuple #[])/\Led (PW RR ok p (X.touch P k) (m+3)) F w w':=by
 have h1:1<=((CT p.n X).f k).id:=by show 1<=(X.f k).id;omega
 have e1:plO p.n (upd X.f k {X.f k with pins:=(X.f k).pins+1}) X.D=plO p.n X.f X.D:=iS hk rfl
 have e2:emB p.n (upd X.f k {X.f k with pins:=(X.f k).pins+1})=emB p.n X.f:=by
  rw[dC hk];exact bC (dN hk)
 have e3:idB p.n (upd X.f k {X.f k with pins:=(X.f k).pins+1})=ai (idB p.n X.f) k false:=by
  rw[cZ hk]
  congr 1
  simp
 have hI:Inv p.n (upd X.f k {X.f k with pins:=(X.f k).pins+1}) X.D:=H.2.1.keep hk rfl h0 (H.2.1.vf k hk)
 have hE:∀{A:τ} {ev:Nat->Bool},ok (m+3) A (pgO X.f) ev->(∀i,i<p.n->ev i=upd (evO X.f) k false i)->ok (m+3) A (pgO (upd X.f k {X.f k with pins:=(X.f k).pins+1})) (evO (upd X.f k {X.f k with pins:=(X.f k).pins+1})):=λ{A ev} h he=>by
  refine S.same h (λi hi=>?_) (λi hi _=>?_)
  .rw[cX]
   by_cases e:i=k
   .rw[e,upd_same];rfl
   .rw[ab _ _ e]
  .rw[he i hi,cT]
   by_cases e:i=k
   .rw[e,upd_same,upd_same];simp
   .rw[ab _ _ e,ab _ _ e]
 by_cases hp:(X.f k).pins=0
 .refine(tz S (H.1.more (Nat.le_succ m)) (by omega) hk h1 (S.more H.2.2 (Nat.le_succ m)) rfl hp).mono ?_
  rintro e w'⟨he,hl⟩;refine⟨he,hl.mono (λF' h'=>?_)⟩
  dsimp only[CT]at h'
  have hw:PW RR ok p (X.touch P k) (m+3) w' F':=⟨by
   unfold CT PS.touch
   dsimp only
   rw[e1,e2,e3,if_pos hp];exact h',hI,by
   unfold PS.touch
   dsimp only
   rw[if_pos hp];refine hE (ev:=upd (evO X.f) k false) (S.more (S.okSet false (S.okOld H.2.2 (by omega) h1 hk rfl) (by omega) hk (by show¬(X.f k).id=0;exact h0)) (by omega)) (λi hi=>rfl)⟩
  exact hw
 .have hI0:idB p.n X.f k=false:=by rw[dw hk];simp[hp]
  refine(rI S (H.1.more (Nat.le_succ m)) (by omega) hk h1 (S.more H.2.2 (Nat.le_succ m)) rfl hp (by have:=(H.1.me.bd.2 k).2.2;show(X.f k).pins<m+1;exact Nat.lt_succ_of_le this)).mono ?_;rintro e w'⟨he,hl⟩;refine⟨he,hl.mono (λF' h'=>?_)⟩
  dsimp only[CT]at h'
  have hw:PW RR ok p (X.touch P k) (m+3) w' F':=⟨by
   unfold CT PS.touch
   dsimp only
   rw[e1,e2,e3,if_neg hp,bC hI0];exact h',hI,by
   unfold PS.touch
   dsimp only
   rw[if_neg hp];refine hE (ev:=evO X.f) (S.more (S.okOld H.2.2 (by omega) h1 hk rfl) (by omega)) (λi hi=>?_);by_cases e:i=k
   .rw[e,upd_same];unfold evO;simp[hp]
   .rw[ab _ _ e]⟩
  exact hw
theorem E7(H:PW RR ok p X m w F){id:Nat}(hu:id<4294967296)(hh:X.D.has id=false):Calls prog 43 #[p.ptr,.int .u32 id] w λe w'=>e=.returned (.int .i64 3)/\w=w':=by
 have HA:=Hd (dV H.1.me hu (dY hh));unfold PP.ptr at*;clear H S hh hu;go_enter func43,ntmps43
 go_wp2_with fail
 refine HA.out.mono ?_;rintro e w1⟨rfl,rfl⟩;go_wp2;go_returns;exact⟨rfl,rfl⟩
theorem EE(H:PW RR ok p X m w F)(hm:m<60000){id k:Nat}(hu:id<4294967296)(hh:X.D.has id=true)(hk:frm p.n X.f id=some k):Calls prog 43 #[p.ptr,.int .u32 id] w λe w'=>e=.returned (.int .i64 0)/\Led (PW RR ok p (X.touch P k) (m+3)) F w w':=by
 obtain⟨h1,h2,h3⟩:=H.2.1.fpos hh hk;have HA:=Hd (aH H.1.me hu (ec hh hk));have HT:=Hd (zK S H hm h1 (by omega));unfold PP.ptr at*;clear H S hh hu hk h2;go_enter func43,ntmps43
 go_wp2_with fail
 refine HA.out.mono ?_;rintro e w1⟨rfl,rfl⟩;have hne:((k:Int)==(-1))=false:=by simp<;>omega
 go_wp2_with fail
 refine HT.out.mono ?_;rintro e w1⟨rfl,hl⟩;have HL:=Hd hl;clear hl;go_wp2;go_returns;exact⟨rfl,HL.out⟩
theorem Dr(H:PW RR ok p X m w F){id:Nat}(hu:id<4294967296)(hh:X.D.has id=true)(hk:frm p.n X.f id=none)(ha:X.all p.n=true):Calls prog 43 #[p.ptr,.int .u32 id] w λe w'=>e=.returned (.int .i64 6)/\w=w':=by
 have HA:=Hd (aH H.1.me hu (eK hh hk));have hall:=bq H.1.me;rw[show(CT p.n X).E=emB p.n X.f from rfl,show(CT p.n X).I=idB p.n X.f from rfl,X.all_eq,ha]at hall;have HB:=Hd hall;unfold PP.ptr at*;clear H S hh hu hk hall;go_enter func43,ntmps43
 go_wp2_with fail
 refine HA.out.mono ?_;rintro e w1⟨rfl,rfl⟩
 go_wp2_with fail
 refine HB.out.mono ?_;rintro e w1⟨rfl,rfl⟩;go_wp2;go_returns;exact⟨rfl,rfl⟩
theorem pq(H:PW RR ok p X m w F)(hm:m<60000){id:Nat}(hu:id<4294967296)(hh:X.D.has id=true)(hk:frm p.n X.f id=none)(ha:¬X.all p.n=true):
  Calls prog 77 #[p.ptr,.int .u32 id] w (λe w'=>e=.returned (.tuple #[.int .i64 (plZ (X.room P p.n id).1.1),.int .i64 (X.room P p.n id).1.2])/\Led (PW RR ok p (X.room P p.n id).2 (m+6)) F w w')/\
  (∀i,i<p.n->¬((X.room P p.n id).2.f i).id=id)/\(X.room P p.n id).2.D.has id=true/\
  (∀k,(X.room P p.n id).1.1=some k->(X.room P p.n id).1.2=0/\k<p.n/\(X.room P p.n id).2.f k=zF)/\((X.room P p.n id).1.1=none->¬(X.room P p.n id).1.2=0):=by
 have h1:=H.2.1.pos hh;have hno:=eo hk;obtain⟨r1,r2,r3,r4,r5,r6,r7,r8⟩:=kK S (D0:=X.D) H.2.1 (by omega) H.2.2 h1 hno ha (λi _=>(H.1.me.bd.2 i).1);refine⟨(kz S (pl:=plO p.n X.f X.D) H.1 H.2.1.inj (by omega) H.2.2 h1 hu hno ha).mono ?_,r3,by rw[r4];exact hh,r7,λq=>(r8 q).1⟩;rintro e w'⟨he,hl⟩;refine⟨he,hl.mono (λF' h'=>⟨?_,r1,r2⟩)⟩;have e6:=r6 X.D H.2.1;rw[e6,<-qR r4]at h';exact h'
theorem Cv(H:PW RR ok p X m w F)(hm:m<60000){id:Nat}(hu:id<4294967296)(hh:X.D.has id=true)(hk:frm p.n X.f id=none)(ha:¬X.all p.n=true)(hr:(X.room P p.n id).1.1=none):Calls prog 43 #[p.ptr,.int .u32 id] w λe w'=>e=.returned (.int .i64 (X.room P p.n id).1.2)/\Led (PW RR ok p (X.room P p.n id).2 (m+6)) F w w':=by
 have HA:=Hd (aH H.1.me hu (eK hh hk));have hall:=bq H.1.me;rw[show(CT p.n X).E=emB p.n X.f from rfl,show(CT p.n X).I=idB p.n X.f from rfl,X.all_eq,Bool.eq_false_iff.2 ha]at hall;have HB:=Hd hall;obtain⟨hc,_,_,_,r8⟩:=pq S H hm hu hh hk ha;have HC:=Hd hc;have r9:=r8 hr;have hne:((((X.room P p.n id).1.2:Nat):Int)==0)=false:=by simp<;>exact r9
 rw[hr,show plZ none= -1 from rfl]at HC;generalize(X.room P p.n id).1.2=er at*;generalize(X.room P p.n id).2=R at*;unfold PP.ptr at*;clear H S hh hu hk hall hc r8 r9 hr ha;go_enter func43,ntmps43
 go_wp2_with fail
 refine HA.out.mono ?_;rintro e w1⟨rfl,rfl⟩
 go_wp2_with fail
 refine HB.out.mono ?_;rintro e w1⟨rfl,rfl⟩
 go_wp2_with fail
 refine HC.out.mono ?_;rintro e w1⟨rfl,hl⟩;have HL:=Hd hl;clear hl;go_wp2;go_returns;exact⟨rfl,HL.out⟩
end
end
end Go.Proofs.YtkjhnllcphidpaaGreatDoor
