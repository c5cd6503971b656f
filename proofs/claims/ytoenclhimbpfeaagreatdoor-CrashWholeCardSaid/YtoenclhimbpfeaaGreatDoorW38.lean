/- Part 38. -/
import Derived.Test.YtoenclhimbpfeaaGreatDoorW37
import Derived.Laws.EntriesVeiled
import Derived.Deep.Cut
namespace Go.Proofs.YtoenclhimbpfeaaGreatDoor
set_option linter.all false
set_option maxHeartbeats 16000000
set_option maxRecDepth 100000
section
open Go.Maps Go.RowKit
theorem iw{n id:Nat}{f:Nat->FrS}{L L':List (Nat×Nat)}(h:aw L id=aw L' id):seenF n f L id=seenF n f L' id:=by
 unfold seenF
 cases frm n f id with
 |none=>exact h
 |some k=>rfl
theorem vE{n k:Nat}{f:Nat->FrS}{D:RS}(H:Inv n f D)(hk:k<n)(h0:¬(f k).id=0):cP n f (f k).id=(f k).pins:=by
 unfold cP;rw[H.atf hk rfl h0]
theorem qF{n k:Nat}{f:Nat->FrS}{D:RS}{L:List (Nat×Nat)}(H:Inv n f D)(hk:k<n)(h0:¬(f k).id=0):seenF n f L (f k).id=(f k).val:=by
 unfold seenF;rw[H.atf hk rfl h0]
theorem Dx{n id:Nat}{f:Nat->FrS}(h:∀i,i<n->¬(f i).id=id):cP n f id=0:=by
 unfold cP;rw[cA h]
theorem ks{n id:Nat}{f:Nat->FrS}{L:List (Nat×Nat)}(h:∀i,i<n->¬(f i).id=id):seenF n f L id=aw L id:=by
 unfold seenF;rw[cA h]
theorem E8{τ:Type}(P:Adv τ){n id x0:Nat}(A:τ){I:Nat->Bool}(hx0:fstB n I=some x0):I (gR P n A I id).1=true:=by
 obtain⟨h2,h3⟩:=aS hx0;unfold gR;rw[hx0]
 cases P.victim A id with
 |none=>exact h3.1
 |some a=>
  dsimp only
  by_cases c:I a=true
  .rw[if_pos c];exact c
  .rw[if_neg c];exact h3.1
section
variable{τ:Type}{P:Adv τ}{n k id v:Nat}{X:PS τ}{M:AM}
theorem Abs.keep(A:Abs n X M)(hk:k<n)(h0:¬(X.f k).id=0){x:FrS}(hx:x.id=(X.f k).id)(hv:x.val<18446744073709551616)(hc:x.dirty=false->aw X.D.L x.id=x.val)(a:τ)(sc:Nat):
  Abs n ⟨upd X.f k x,X.D,a,sc⟩ {M with pin:=upd M.pin (X.f k).id x.pins,val:=upd M.val (X.f k).id x.val}:=by
 refine⟨A.inv.keep hk hx h0 hv,A.ids,A.room,λid h1=>?_,λid h1 hm=>?_,λi hi q1 q2=>?_,A.fine⟩
 .show upd M.pin (X.f k).id x.pins id=cP n (upd X.f k x) id
  rw[ny A.inv hk h0 hx];by_cases c:id=(X.f k).id
  .rw[if_pos c,c,upd_same]
  .rw[if_neg c,aa _ _ c];exact A.pin id h1
 .show upd M.val (X.f k).id x.val id=seenF n (upd X.f k x) X.D.L id
  rw[kx A.inv hk h0 hx];by_cases c:id=(X.f k).id
  .rw[if_pos c,c,upd_same]
  .rw[if_neg c,aa _ _ c];exact A.val id h1 hm
 .by_cases c:i=k
  .subst c
   simp only[upd_same]at q1 q2⊢;exact hc q2
  .simp only[aa _ _ c]at q1 q2⊢
   exact A.cl i hi q1 q2
theorem Abs.enter(A:Abs n X M)(hk:k<n)(hz:X.f k=zF)(hm:id∈M.ids)(hno:∀i,i<n->¬(X.f i).id=id){p:Nat}(a:τ)(sc:Nat):
  Abs n ⟨upd X.f k ⟨id,aw X.D.L id,p,false⟩,X.D,a,sc⟩ {M with pin:=upd M.pin id p}:=by
 have h0:(X.f k).id=0:=by rw[hz];rfl
 have hp:=A.pos hm;have hv:M.val id=aw X.D.L id:=by rw[A.val id hp hm,ks hno]
 have hvb:aw X.D.L id<18446744073709551616:=by
  rcases atP_of (l:=X.D.L) (id:=id)with⟨h1,h2⟩|⟨B,u,C,e1,_,_,e4⟩
  .have:aw X.D.L id=0:=by unfold aw;rw[h1]
   rw[this];omega
  .rw[e4];exact A.inv.vd (id,u) (by rw[e1];simp)
 refine⟨A.inv.enter hk h0 (by rw[dn,A.ids];exact hm) hno hvb,A.ids,A.room,λid' h1=>?_,λid' h1 hm'=>?_,λi hi q1 q2=>?_,A.fine⟩
 .show upd M.pin id p id'=cP n (upd X.f k _) id'
  rw[wU A.inv hk h0 hp hno h1];by_cases c:id'=id
  .rw[if_pos c,c,upd_same]
  .rw[if_neg c,aa _ _ c];exact A.pin id' h1
 .show M.val id'=seenF n (upd X.f k _) X.D.L id'
  rw[rI A.inv hk h0 hp hno h1];by_cases c:id'=id
  .rw[if_pos c,c];exact hv
  .rw[if_neg c];exact A.val id' h1 hm'
 .by_cases c:i=k
  .subst c
   simp only[upd_same]
  .simp only[aa _ _ c]at q1 q2⊢
   exact A.cl i hi q1 q2
theorem Abs.leave(A:Abs n X M)(hk:k<n)(h0:¬(X.f k).id=0)(hp:(X.f k).pins=0){D':RS}(hF:rZ D')(hi:Inv n (upd X.f k zF) D')(e1:D'.ids=X.D.ids)(e2:D'.room=X.D.room)(e3:∀x,aw D'.L x=if x=(X.f k).id then(X.f k).val else aw X.D.L x)(a:τ)(sc:Nat):
  Abs n ⟨upd X.f k zF,D',a,sc⟩ M:=by
 refine⟨hi,by rw[e1];exact A.ids,by rw[e2];exact A.room,λid h1=>?_,λid h1 hm=>?_,λi hi q1 q2=>?_,hF⟩
 .show M.pin id=cP n (upd X.f k zF) id
  rw[nG A.inv hk h0 h1];by_cases c:id=(X.f k).id
  .rw[if_pos c,A.pin id h1,c,vE A.inv hk h0];exact hp
  .rw[if_neg c];exact A.pin id h1
 .show M.val id=seenF n (upd X.f k zF) D'.L id
  rw[lB A.inv hk h0 h1];by_cases c:id=(X.f k).id
  .rw[if_pos c,e3,if_pos c,A.val id h1 hm,c,qF A.inv hk h0]
  .rw[if_neg c,A.val id h1 hm]
   exact iw (by rw[e3,if_neg c])
 .by_cases c:i=k
  .subst c
   simp only[upd_same]at q1;exact(q1 rfl).elim
  .simp only[aa _ _ c]at q1 q2⊢
   have hne:¬(X.f i).id=(X.f k).id:=λe=>c (A.inv.inj i k hi hk q1 e)
   show aw D'.L (X.f i).id=_
   rw[e3,if_neg hne];exact A.cl i hi q1 q2
theorem Abs.roomE(A:Abs n X M)(h1:1<=id)(hno:∀i,i<n->¬(X.f i).id=id)(hall:¬X.all n=true):
  ∃k,(X.room P n id).1=(some k,0)/\k<n/\(X.room P n id).2.f k=zF/\Abs n (X.room P n id).2 M/\∀i,i<n->¬((X.room P n id).2.f i).id=id:=by
 unfold PS.room
 cases he:fstB n (emB n X.f)with
 |some x=>
  obtain⟨x1,x2⟩:=aS he;have x3:(X.f x).id=0:=by have:=x2.1;rw[dC x1]at this;simpa using this
  exact⟨x,rfl,x1,A.inv.em x x1 x3,A.sub rfl rfl,hno⟩
 |none=>
  have hid:∃x0,fstB n (idB n X.f)=some x0:=by
   cases e:fstB n (idB n X.f)with
   |some x0=>exact⟨x0,rfl⟩
   |none=>exact(hall (by unfold PS.all;rw[he,e];rfl)).elim
  obtain⟨x0,hx0⟩:=hid;have hI:idB n X.f (X.vic P n id).1=true:=E8 P _ hx0
  dsimp only
  generalize hV:X.vic P n id=V at*;obtain⟨vk,va,vs⟩:=V;simp only at hI⊢;have hvk:vk<n:=by unfold idB at hI;simp at hI;exact hI.1
  have hv2:¬(X.f vk).id=0/\(X.f vk).pins=0:=by rw[dm hvk]at hI;simpa using hI
  have hmem:(X.f vk).id∈X.D.ids:=(dn _ _).1 (A.inv.has vk hvk hv2.1)
  have hno2:∀i,i<n->¬(upd X.f vk zF i).id=id:=λi hi e=>by
   by_cases c:i=vk
   .rw[c,upd_same]at e
    have e:0=id:=e;omega
   .rw[aa _ _ c]at e;exact hno i hi e
  obtain⟨w1,w2,w3,w4,w5⟩:=lq A.fine hmem (X.f vk).val;by_cases hd:(X.f vk).dirty=true
  .rw[if_pos hd,if_pos w1]
   exact⟨vk,rfl,hvk,upd_same _ _ _,A.leave hvk hv2.1 hv2.2 w2 ((A.inv.vac hvk).write _ (A.inv.vf vk hvk)) w3 w4 w5 _ _,hno2⟩
  .rw[if_neg hd]
   have hcl:=A.cl vk hvk hv2.1 (by simpa using hd)
   exact⟨vk,rfl,hvk,upd_same _ _ _,A.leave hvk hv2.1 hv2.2 A.fine (A.inv.vac hvk) rfl rfl (λx=>by
    by_cases c:x=(X.f vk).id
    .rw[if_pos c,c];exact hcl
    .rw[if_neg c]) _ _,hno2⟩
theorem Ei(c:Nat->Nat){i v:Nat}(h:c i=v):upd c i v=c:=by
 funext j
 by_cases e:j=i
 .rw[e,upd_same,h]
 .rw[aa _ _ e]
theorem AM.mk'{M:AM}{v p:Nat->Nat}(hv:v=M.val):({M with pin:=p,val:=v}:AM)={M with pin:=p}:=by rw[hv]
theorem AM.mk2{M:AM}{v p:Nat->Nat}(hp:p=M.pin):({M with pin:=p,val:=v}:AM)={M with val:=v}:=by rw[hp]
theorem Abs.at(A:Abs n X M)(hm:id∈M.ids)(h:frm n X.f id=some k):k<n/\(X.f k).id=id/\(¬(X.f k).id=0)/\M.pin id=(X.f k).pins/\M.val id=(X.f k).val:=by
 obtain⟨h1,h2⟩:=bQ h;have hp:=A.pos hm;refine⟨h1,h2,by omega,?_,?_⟩
 .rw[A.pin id hp];unfold cP;rw[h]
 .rw[A.val id hp hm];unfold seenF;rw[h]
theorem Abs.away(A:Abs n X M)(hm:id∈M.ids)(h:frm n X.f id=none):(∀i,i<n->¬(X.f i).id=id)/\M.pin id=0:=by
 refine⟨dK h,?_⟩;rw[A.pin id (A.pos hm)];unfold cP;rw[h]
theorem Abs.notFull(A:Abs n X M)(hk:k<n)(hp:(X.f k).pins=0):¬X.all n=true:=by
 intro h;unfold PS.all at h;simp only[Bool.and_eq_true,Option.isNone_iff_eq_none]at h;have q1:=bL h.1 k hk;have q2:=bL h.2 k hk;rw[dC hk]at q1;rw[dm hk]at q2;simp at q1 q2;exact q2 q1 hp
theorem Abs.gapE(A:Abs n X M):ag X.D.L=M.gap:=by
 unfold AM.gap;refine DM ?_;rw[List.map_map];have:M.ids.map ((λp:Nat×Nat=>p.1)∘λx=>(x,0))=M.ids:=List.map_id' _;rw[this];exact A.ids
theorem Abs.newPageE(A:Abs n X M):(X.newPage P n).1=(M.newPage n).1/\Abs n (X.newPage P n).2 (M.newPage n).2:=by
 have hlen:X.D.L.length=M.ids.length:=by rw[<-A.ids];unfold RS.ids;rw[List.length_map]
 unfold PS.newPage AM.newPage;by_cases c1:X.all n=true
 .rw[if_pos c1,if_pos (show M.full n=true from by rw[<-A.fullE];exact c1)];exact⟨rfl,A⟩
 .rw[if_neg c1,if_neg (show¬M.full n=true from by rw[<-A.fullE];exact c1)]
  by_cases c2:X.D.room<=X.D.L.length
  .rw[if_pos c2,if_pos (show M.room<=M.ids.length from by rw[<-A.room,<-hlen];exact c2)];exact⟨rfl,A⟩
  .rw[if_neg c2,if_neg (show¬M.room<=M.ids.length from by rw[<-A.room,<-hlen];exact c2)]
   have hg:=A.gapE;have hgap:=A.inv.gap;have hins:=A.inv.ins (show X.D.L.length<X.D.room by omega);obtain⟨i1,i2⟩:=Al X.D (ag X.D.L);rw[hg]at hgap hins i1 i2⊢;generalize M.gap=g at*
   have hno:∀i,i<n->¬(X.f i).id=g+1:=λi hi e=>by
    have:=A.inv.has i hi (by rw[e];omega);rw[e,hgap]at this;cases this
   have hni:¬g+1∈M.ids:=λq=>by
    rw[(dn X.D _).2 (by rw[A.ids];exact q)]at hgap;cases hgap
   have hv0:aw (X.D.ins g).L (g+1)=0:=by
    unfold RS.ins
    dsimp only
    rw[List.append_assoc,List.singleton_append];refine cb (λp hp e=>hni ?_);rw[<-A.ids,<-e];exact List.mem_map.2 ⟨p,List.mem_of_mem_take hp,rfl⟩
   have hmem:∀x,x∈M.ids.take g++[g+1]++M.ids.drop g↔x=g+1\/x∈M.ids:=λx=>by
    have e:M.ids=M.ids.take g++M.ids.drop g:=(List.take_append_drop g M.ids).symm
    conv=>rhs;rw[e]
    simp only[List.mem_append,List.mem_singleton];constructor
    .rintro((h|h)|h)
     .exact .inr (.inl h)
     .exact .inl h
     .exact .inr (.inr h)
    .rintro(h|h|h)
     .exact .inl (.inr h)
     .exact .inl (.inl h)
     .exact .inr h
   have A1:Abs n ({X with D:=X.D.ins g}:PS τ) {M with ids:=M.ids.take g++[g+1]++M.ids.drop g,val:=upd M.val (g+1) 0}:=by
    refine⟨hins,by show(X.D.ins g).ids=_;rw[i1,A.ids],A.room,A.pin,λid h1 hm=>?_,λi hi q1 q2=>?_,⟨A.fine.st,A.fine.nr,A.fine.ns⟩⟩
    .show upd M.val (g+1) 0 id=seenF n X.f (X.D.ins g).L id
     by_cases c:id=g+1
     .rw[c,upd_same,ks hno,hv0]
     .rw[aa _ _ c,iw (i2 id c)]
      exact A.val id h1 (((hmem id).1 hm).resolve_left c)
    .show aw (X.D.ins g).L (X.f i).id=_
     rw[i2 _ (hno i hi)];exact A.cl i hi q1 q2
   obtain⟨k,r1,r2,r3,r4,r5⟩:=A1.roomE (P:=P) (id:=g+1) (by omega) hno (by exact c1)
   have hv2:aw (PS.room P n {X with D:=X.D.ins g} (g+1)).2.D.L (g+1)=0:=by
    have:=r4.val (g+1) (by omega) ((hmem _).2 (.inl rfl));rw[ks r5]at this;rw[<-this];exact upd_same _ _ _
   have A2:=r4.enter r2 r3 ((hmem _).2 (.inl rfl)) r5 (p:=1) (P.access (PS.room P n {X with D:=X.D.ins g} (g+1)).2.A k (g+1)) (PS.room P n {X with D:=X.D.ins g} (g+1)).2.sc;rw[hv2]at A2;rw[r1];exact⟨rfl,A2⟩
theorem Abs.fetchE(A:Abs n X M)(id:Nat):(X.fetch P n id).1=(M.fetch n id).1/\Abs n (X.fetch P n id).2 (M.fetch n id).2:=by
 unfold PS.fetch AM.fetch;rw[A.has];by_cases hm:id∈M.ids
 .rw[if_pos (by simpa using hm),if_pos hm]
  cases hf:frm n X.f id with
  |some k=>
   obtain⟨k1,k2,k3,k4,k5⟩:=A.at hm hf;have hnf:¬(M.pin id=0/\M.full n=true):=λq=>A.notFull k1 (by rw[<-k4];exact q.1) (by rw[A.fullE];exact q.2)
   rw[if_neg hnf];refine⟨rfl,?_⟩;have h:Abs n (X.touch P k) {M with pin:=upd M.pin (X.f k).id ((X.f k).pins+1),val:=upd M.val (X.f k).id (X.f k).val}:=A.keep k1 k3 (x:={X.f k with pins:=(X.f k).pins+1}) rfl (A.inv.vf k k1) (λq=>A.cl k k1 k3 q) (if(X.f k).pins=0 then P.set (P.access X.A k (X.f k).id) k false else P.access X.A k (X.f k).id) X.sc;rw[AM.mk' (Ei _ (by rw[k2];exact k5)),k2,<-k4]at h;exact h
  |none=>
   obtain⟨h1,h2⟩:=A.away hm hf
   dsimp only
   by_cases c:X.all n=true
   .rw[if_pos c,if_pos ⟨h2,by rw[<-A.fullE];exact c⟩];exact⟨rfl,A⟩
   .rw[if_neg c,if_neg (λq=>c (by rw[A.fullE];exact q.2))]
    obtain⟨k,r1,r2,r3,r4,r5⟩:=A.roomE (P:=P) (A.pos hm) h1 c;rw[r1]
    dsimp only
    obtain⟨g1,g2,g3,g4,g5⟩:=nC r4.fine (id:=id) (by rw[r4.ids];exact hm);rw[g1,if_pos rfl];refine⟨rfl,?_⟩;have A2:=r4.enter r2 r3 hm r5 (p:=1) (P.access (X.room P n id).2.A k id) (X.room P n id).2.sc;rw[show M.pin id+1=1 from by rw[h2]]
    exact⟨by exact A2.inv.read id,by show((X.room P n id).2.D.read id).2.ids=_;rw[g3];exact r4.ids,by show((X.room P n id).2.D.read id).2.room=_;rw[g4];exact r4.room,A2.pin,λid' q1 q2=>by
     have:=A2.val id' q1 q2
     show M.val id'=seenF n _ ((X.room P n id).2.D.read id).2.L id'
     rw[g5];exact this,λi hi q1 q2=>by
     have:=A2.cl i hi q1 q2
     show aw ((X.room P n id).2.D.read id).2.L _=_
     rw[g5];exact this,g2⟩
 .rw[if_neg (by simpa using hm),if_neg hm];exact⟨rfl,A⟩
theorem Abs.heldE(A:Abs n X M)(id:Nat):(X.held n id).2=M.held id/\(M.held id=0->id∈M.ids/\frm n X.f id=some (X.held n id).1):=by
 unfold PS.held AM.held;rw[A.has];by_cases hm:id∈M.ids
 .rw[if_pos (by simpa using hm),if_pos hm]
  cases hf:frm n X.f id with
  |some k=>
   obtain⟨k1,k2,k3,k4,k5⟩:=A.at hm hf;rw[k4]
   dsimp only
   by_cases c:(X.f k).pins=0
   .rw[if_pos c,if_pos c];exact⟨rfl,λq=>(by cases q)⟩
   .rw[if_neg c,if_neg c];exact⟨rfl,λ_=>⟨hm,rfl⟩⟩
  |none=>
   obtain⟨h1,h2⟩:=A.away hm hf;rw[if_pos h2];exact⟨rfl,λq=>(by cases q)⟩
 .rw[if_neg (by simpa using hm),if_neg hm];exact⟨rfl,λq=>(by cases q)⟩
theorem Abs.unpinE(A:Abs n X M)(id:Nat):(X.unpin P n id).1=(M.unpin id).1/\Abs n (X.unpin P n id).2 (M.unpin id).2:=by
 obtain⟨h1,h2⟩:=A.heldE id;unfold PS.unpin AM.unpin;rw[h1];by_cases c:M.held id=0
 .rw[if_pos c,if_pos c]
  obtain⟨hm,hf⟩:=h2 c;obtain⟨k1,k2,k3,k4,k5⟩:=A.at hm hf;generalize(X.held n id).1=k at*;refine⟨rfl,?_⟩;have e:({M with pin:=upd M.pin (X.f k).id ((X.f k).pins-1),val:=upd M.val (X.f k).id (X.f k).val}:AM)={M with pin:=upd M.pin id (M.pin id-1)}:=by rw[AM.mk' (Ei _ (by rw[k2];exact k5)),k2,<-k4]
  rw[<-e];exact A.keep k1 k3 (x:={X.f k with pins:=(X.f k).pins-1}) rfl (A.inv.vf k k1) (λq=>A.cl k k1 k3 q) (if(X.f k).pins=1 then P.set X.A k true else X.A) X.sc
 .rw[if_neg c,if_neg c];exact⟨rfl,A⟩
theorem Abs.readE(A:Abs n X M)(id:Nat):X.read n id=M.read id:=by
 obtain⟨h1,h2⟩:=A.heldE id;unfold PS.read AM.read;rw[h1];by_cases c:M.held id=0
 .rw[if_pos c,if_pos c]
  obtain⟨hm,hf⟩:=h2 c;obtain⟨k1,k2,k3,k4,k5⟩:=A.at hm hf;rw[k5]
 .rw[if_neg c,if_neg c]
theorem Abs.writeE(A:Abs n X M)(id:Nat){v:Nat}(hv:v<18446744073709551616):(X.write n id v).1=(M.write id v).1/\Abs n (X.write n id v).2 (M.write id v).2:=by
 obtain⟨h1,h2⟩:=A.heldE id;unfold PS.write AM.write;rw[h1];by_cases c:M.held id=0
 .rw[if_pos c,if_pos c]
  obtain⟨hm,hf⟩:=h2 c;obtain⟨k1,k2,k3,k4,k5⟩:=A.at hm hf;generalize(X.held n id).1=k at*;refine⟨rfl,?_⟩;have e:({M with pin:=upd M.pin (X.f k).id (X.f k).pins,val:=upd M.val (X.f k).id v}:AM)={M with val:=upd M.val id v}:=by rw[AM.mk2 (Ei _ (by rw[k2];exact k4)),k2]
  rw[<-e];exact A.keep k1 k3 (x:={X.f k with val:=v,dirty:=true}) rfl hv (λq=>(by cases q)) X.A X.sc
 .rw[if_neg c,if_neg c];exact⟨rfl,A⟩
theorem Abs.cleanE(A:Abs n X M)(hk:k<n)(h0:¬(X.f k).id=0):(X.clean k).1=0/\Abs n (X.clean k).2 M/\(∀i,((X.clean k).2.f i).id=(X.f i).id)/\(∀i,((X.clean k).2.f i).dirty=true->(X.f i).dirty=true/\¬i=k):=by
 unfold PS.clean;by_cases hd:(X.f k).dirty=true
 .have hmem:(X.f k).id∈X.D.ids:=(dn _ _).1 (A.inv.has k hk h0)
  obtain⟨w1,w2,w3,w4,w5⟩:=lq A.fine hmem (X.f k).val;rw[if_pos hd,if_pos w1];refine⟨rfl,?_,λi=>?_,λi q=>?_⟩
  .have hi:=(A.inv.keep hk (x:={X.f k with dirty:=false}) rfl h0 (A.inv.vf k hk)).write (X.f k).id (A.inv.vf k hk)
   refine⟨hi,by show(X.D.write _ _).2.ids=_;rw[w3];exact A.ids,by show(X.D.write _ _).2.room=_;rw[w4];exact A.room,λid h1=>?_,λid h1 hm=>?_,λi hi q1 q2=>?_,w2⟩
   .show M.pin id=cP n (upd X.f k _) id
    rw[ny A.inv hk h0 (by rfl)];by_cases c:id=(X.f k).id
    .rw[if_pos c,A.pin id h1,c,vE A.inv hk h0]
    .rw[if_neg c];exact A.pin id h1
   .show M.val id=seenF n (upd X.f k _) (X.D.write _ _).2.L id
    rw[kx A.inv hk h0 (by rfl)];by_cases c:id=(X.f k).id
    .rw[if_pos c,A.val id h1 hm,c,qF A.inv hk h0]
    .rw[if_neg c,A.val id h1 hm]
     exact iw (by rw[w5,if_neg c])
   .by_cases c:i=k
    .subst c
     simp only[upd_same]
     show aw (X.D.write _ _).2.L _=_
     rw[w5,if_pos rfl]
    .simp only[aa _ _ c]at q1 q2⊢
     have hne:¬(X.f i).id=(X.f k).id:=λe=>c (A.inv.inj i k hi hk q1 e)
     show aw (X.D.write _ _).2.L _=_
     rw[w5,if_neg hne];exact A.cl i hi q1 q2
  .by_cases c:i=k
   .subst c;simp only[upd_same]
   .simp only[aa _ _ c]
  .by_cases c:i=k
   .subst c;simp only[upd_same]at q;cases q
   .simp only[aa _ _ c]at q;exact⟨q,c⟩
 .rw[if_neg hd]
  exact⟨rfl,A,λ_=>rfl,λi q=>⟨q,λe=>hd (e▸q)⟩⟩
theorem Abs.flushE(A:Abs n X M)(id:Nat):(X.flush n id).1=M.flush id/\Abs n (X.flush n id).2 M:=by
 unfold PS.flush AM.flush;rw[A.has];by_cases hm:id∈M.ids
 .rw[if_pos (by simpa using hm),if_pos hm]
  cases hf:frm n X.f id with
  |some k=>
   obtain⟨k1,k2,k3,k4,k5⟩:=A.at hm hf;obtain⟨c1,c2,_⟩:=A.cleanE k1 k3;exact⟨c1,c2⟩
  |none=>exact⟨rfl,A⟩
 .rw[if_neg (by simpa using hm),if_neg hm];exact⟨rfl,A⟩
theorem Abs.deleteE(A:Abs n X M)(id:Nat):(X.delete P n id).1=(M.delete id).1/\Abs n (X.delete P n id).2 (M.delete id).2:=by
 unfold PS.delete AM.delete;rw[A.has];by_cases hm:id∈M.ids
 .rw[if_pos (by simpa using hm),if_pos hm]
  have hnd:M.ids.Nodup:=by rw[<-A.ids];exact mC A.inv.dr
  obtain⟨f1,f2,f3,f4,f5,f6,f7⟩:=xV (D:=X.D) (id:=id) (by rw[A.ids];exact hm)
  have hout:∀x,x∈outI M.ids id->x∈M.ids/\¬x=id:=λx hx=>by
   rw[<-A.ids]at hx hnd⊢;obtain⟨B,u,C,e1,e2,e3,e4⟩:=gj (D:=X.D) (id:=id) (by rw[A.ids];exact hm);have hids:X.D.ids=B.map (·.1)++id::C.map (·.1):=by unfold RS.ids;rw[e1];simp
   have ho:outI X.D.ids id=B.map (·.1)++C.map (·.1):=by
    rw[<-f2,RS.ids]
    have:(X.D.free id).2.L=B++C:=by
     unfold RS.free;rw[e3]
     show X.D.L.take B.length++X.D.L.drop (B.length+1)=_
     rw[e1];simp
    rw[this,List.map_append]
   rw[ho]at hx;rw[hids]at hnd⊢;obtain⟨_,n2,n3⟩:=List.nodup_append.1 hnd;rcases List.mem_append.1 hx with q|q
   .exact⟨List.mem_append.2 (.inl q),n3 x q id (List.mem_cons_self ..)⟩
   .exact⟨List.mem_append.2 (.inr (List.mem_cons_of_mem _ q)),λe=>(List.nodup_cons.1 n2).1 (e▸q)⟩
  cases hf:frm n X.f id with
  |some k=>
   obtain⟨k1,k2,k3,k4,k5⟩:=A.at hm hf;rw[k4]
   dsimp only
   by_cases c:(X.f k).pins=0
   .rw[if_pos c,if_pos c]
    have hno:∀i,i<n->¬(upd X.f k zF i).id=id:=λi hi e=>by
     by_cases d:i=k
     .rw[d,upd_same]at e
      have e:0=id:=e;omega
     .rw[aa _ _ d]at e
      exact d (A.inv.inj i k hi k1 (by omega) (by omega))
    have hfree:=(A.inv.vac k1).free (id:=id) hno;refine⟨rfl,hfree,by show(X.D.free id).2.ids=_;rw[f2,A.ids],by show(X.D.free id).2.room=_;rw[f3];exact A.room,λid' h1=>?_,λid' h1 hm'=>?_,λi hi q1 q2=>?_,⟨by show(X.D.free id).2.stops=_;rw[f4];exact A.fine.st,by show(X.D.free id).2.nr=_;rw[f5];exact A.fine.nr,by show(X.D.free id).2.ns=_;rw[f6];exact A.fine.ns⟩⟩
    .show M.pin id'=cP n (upd X.f k zF) id'
     rw[nG A.inv k1 k3 h1];by_cases d:id'=(X.f k).id
     .rw[if_pos d,d,k2,k4];exact c
     .rw[if_neg d];exact A.pin id' h1
    .show M.val id'=seenF n (upd X.f k zF) (X.D.free id).2.L id'
     obtain⟨o1,o2⟩:=hout id' hm';rw[lB A.inv k1 k3 h1,if_neg (by rw[k2];exact o2),A.val id' h1 o1];exact iw (f7 id' o2).symm
    .by_cases d:i=k
     .subst d;simp only[upd_same]at q1;exact(q1 rfl).elim
     .simp only[aa _ _ d]at q1 q2⊢
      have hne:¬(X.f i).id=id:=λe=>d (A.inv.inj i k hi k1 q1 (by omega))
      show aw (X.D.free id).2.L _=_
      rw[f7 _ hne];exact A.cl i hi q1 q2
   .rw[if_neg c,if_neg c];exact⟨rfl,A⟩
  |none=>
   obtain⟨h1,h2⟩:=A.away hm hf;rw[if_pos h2];refine⟨rfl,A.inv.free h1,by show(X.D.free id).2.ids=_;rw[f2,A.ids],by show(X.D.free id).2.room=_;rw[f3];exact A.room,A.pin,λid' h1' hm'=>?_,λi hi q1 q2=>?_,⟨by show(X.D.free id).2.stops=_;rw[f4];exact A.fine.st,by show(X.D.free id).2.nr=_;rw[f5];exact A.fine.nr,by show(X.D.free id).2.ns=_;rw[f6];exact A.fine.ns⟩⟩
   .obtain⟨o1,o2⟩:=hout id' hm'
    show M.val id'=seenF n X.f (X.D.free id).2.L id'
    rw[A.val id' h1' o1];exact iw (f7 id' o2).symm
   .show aw (X.D.free id).2.L _=_
    rw[f7 _ (h1 i hi)];exact A.cl i hi q1 q2
 .rw[if_neg (by simpa using hm),if_neg hm];exact⟨rfl,A⟩
theorem Abs.flushLE(A:Abs n X M):∀l:List Nat,(∀k∈l,k<n/\¬(X.f k).id=0)->(X.flushL l).1=0/\Abs n (X.flushL l).2 M/\(∀i,((X.flushL l).2.f i).id=(X.f i).id)/\∀i,((X.flushL l).2.f i).dirty=true->(X.f i).dirty=true/\¬i∈l:=by
 intro l
 induction l generalizing X with
 |nil=>exact λ_=>⟨rfl,A,λ_=>rfl,λi q=>⟨q,λh=>(by cases h)⟩⟩
 |cons k l ih=>
  intro hl;obtain⟨k1,k2⟩:=hl k (List.mem_cons_self ..);obtain⟨c1,c2,c3,c4⟩:=A.cleanE k1 k2
  obtain⟨r1,r2,r3,r4⟩:=ih c2 (λj hj=>by
   obtain⟨q1,q2⟩:=hl j (List.mem_cons_of_mem _ hj);exact⟨q1,by rw[c3];exact q2⟩)
  have e:X.flushL (k::l)=(X.clean k).2.flushL l:=by
   unfold PS.flushL;rw[List.foldl_cons];have:flF (0,X) k=(0,(X.clean k).2):=by unfold flF;rw[if_pos c1]
   rw[this]
  rw[e];refine⟨r1,r2,λi=>(r3 i).trans (c3 i),λi q=>?_⟩;obtain⟨q1,q2⟩:=r4 i q;obtain⟨q3,q4⟩:=c4 i q1;exact⟨q3,λh=>(List.mem_cons.1 h).elim q4 q2⟩
end
def b01(b:Bool):Nat:=if b=true then 1 else 0
end
section
open Go.Maps Go.Proofs.Tryz Go.RowKit
def kO{τ:Type}(P:Adv τ)(n:Nat)(ok:Nat->τ->(Nat->Nat)->(Nat->Bool)->Prop):Prop:=
 ∀(m:Nat) (s:τ) (pg:Nat->Nat) (ev:Nat->Bool) (id:Nat),ok m s pg ev->(∃x,bk n pg ev x)->∃a,P.victim s id=some a/\bk n pg ev a
section
variable{τ:Type}{P:Adv τ}{RR:World->τ->(Nat->Prop)->Prop}{ok:Nat->τ->(Nat->Nat)->(Nat->Bool)->Prop}{p:PP}(S:aJ P RR p.pb p.rv p.n ok){m:Nat}{X:PS τ}{id:Nat}
include S
theorem uv(G:kO P p.n ok)(hm:m<90000)(ho:ok m X.A (pgO X.f) (evO X.f))(h1:1<=id)(hno:∀i,i<p.n->¬(X.f i).id=id)(hall:¬X.all p.n=true):(X.room P p.n id).2.sc=X.sc:=by
 unfold PS.room
 cases he:fstB p.n (emB p.n X.f)with
 |some x=>rfl
 |none=>
  have hid:∃x0,fstB p.n (idB p.n X.f)=some x0:=by
   cases e:fstB p.n (idB p.n X.f)with
   |some x0=>exact⟨x0,rfl⟩
   |none=>exact(hall (by unfold PS.all;rw[he,e];rfl)).elim
  obtain⟨x0,hx0⟩:=hid
  have hs0:(X.vic P p.n id).2.2=0:=by
   have okM:=S.okMiss ho hm h1 hno;obtain⟨a,ha,hg⟩:=G _ _ _ _ id okM ⟨x0,(iZ _ _ _).1 (aS hx0).2.1⟩;unfold PS.vic;rw[iS ha ((iZ _ _ _).2 hg)]
  dsimp only
  rw[hs0]
  repeat' split
  all_goals rfl
theorem tM(G:kO P p.n ok)(hI:Inv p.n X.f X.D)(hm:m<90000)(ho:ok m X.A (pgO X.f) (evO X.f)):(X.newPage P p.n).2.sc=X.sc:=by
 unfold PS.newPage;by_cases c1:X.all p.n=true
 .rw[if_pos c1]
 .rw[if_neg c1]
  by_cases c2:X.D.room<=X.D.L.length
  .rw[if_pos c2]
  .rw[if_neg c2]
   have hgap:=hI.gap
   have hno:∀i,i<p.n->¬(X.f i).id=ag X.D.L+1:=λi hi e=>by
    have:=hI.has i hi (by rw[e];omega);rw[e,hgap]at this;cases this
   have h:=uv S G (X:=({X with D:=X.D.ins (ag X.D.L)}:PS τ)) hm ho (id:=ag X.D.L+1) (by omega) hno c1
   cases(PS.room P p.n {X with D:=X.D.ins (ag X.D.L)} (ag X.D.L+1)).1.1 with
   |none=>exact h
   |some k=>exact h
theorem zg(G:kO P p.n ok)(hI:Inv p.n X.f X.D)(hm:m<90000)(ho:ok m X.A (pgO X.f) (evO X.f))(id:Nat):(X.fetch P p.n id).2.sc=X.sc:=by
 unfold PS.fetch;by_cases hh:X.D.has id=true
 .rw[if_pos hh]
  cases hf:frm p.n X.f id with
  |some k=>rfl
  |none=>
   dsimp only
   by_cases c:X.all p.n=true
   .rw[if_pos c]
   .rw[if_neg c]
    have h:=uv S G hm ho (id:=id) (hI.pos hh) (dK hf) c
    cases(X.room P p.n id).1.1 with
    |none=>exact h
    |some k=>
     dsimp only
     split<;>exact h
 .rw[if_neg hh]
end
theorem qC{τ:Type}(X:PS τ)(k:Nat):(X.clean k).2.sc=X.sc:=by
 unfold PS.clean
 split
 .split<;>rfl
 .rfl
theorem xZ{τ:Type}(X:PS τ)(l:List Nat):(X.flushL l).2.sc=X.sc:=by
 have key:∀(l:List Nat) (a:Nat×PS τ),(l.foldl flF a).2.sc=a.2.sc:=λl=>by
  induction l with
  |nil=>exact λ_=>rfl
  |cons k l ih=>intro a;rw[List.foldl_cons,ih];exact qC _ _
 exact key l _
def AM.okA(M:AM):Prop:=∀x,¬x∈M.ids->M.pin x=0
section
variable{M:AM}{n id v:Nat}
theorem AM.okA_np(h:M.okA):(M.newPage n).2.okA:=by
 unfold AM.newPage
 repeat' split
 .exact h
 .exact h
 .intro x hx
  have hx:¬x∈M.ids.take M.gap++[M.gap+1]++M.ids.drop M.gap:=hx;have e:M.ids=M.ids.take M.gap++M.ids.drop M.gap:=(List.take_append_drop M.gap M.ids).symm;simp only[List.mem_append,List.mem_singleton,not_or]at hx
  show upd M.pin (M.gap+1) 1 x=0
  rw[aa _ _ hx.1.2];refine h x (λq=>?_);rw[e,List.mem_append]at q;exact q.elim hx.1.1 hx.2
theorem AM.okA_pin(h:M.okA)(hm:id∈M.ids)(q:Nat):({M with pin:=upd M.pin id q}:AM).okA:=λx hx=>by
 show upd M.pin id q x=0
 rw[aa _ _ (λe=>hx (by rw[e];exact hm))];exact h x hx
theorem AM.okA_fe(h:M.okA):(M.fetch n id).2.okA:=by
 unfold AM.fetch
 split
 .rename_i hm
  split
  .exact h
  .exact AM.okA_pin h hm _
 .exact h
theorem AM.held_mem(h:M.held id=0):id∈M.ids:=by
 unfold AM.held at h;by_cases c:id∈M.ids
 .exact c
 .rw[if_neg c]at h;cases h
theorem AM.okA_un(h:M.okA):(M.unpin id).2.okA:=by
 unfold AM.unpin
 split
 .rename_i hm;exact AM.okA_pin h (AM.held_mem hm) _
 .exact h
theorem AM.okA_wr(h:M.okA):(M.write id v).2.okA:=by
 unfold AM.write
 split
 .exact h
 .exact h
theorem Bh{l:List Nat}{x y:Nat}(h:x∈l):x∈outI l y\/x=y:=by
 unfold outI
 cases e:l.findIdx? (λz=>z==y)with
 |none=>exact .inl h
 |some k=>
  obtain⟨hk,h1,_⟩:=List.findIdx?_eq_some_iff_getElem.1 e;have h1:l[k]=y:=by simpa using h1
  have e2:l=l.take k++l[k]::l.drop (k+1):=by rw[<-List.drop_eq_getElem_cons hk,List.take_append_drop]
  rw[e2,List.mem_append,List.mem_cons]at h;rcases h with h|h|h
  .exact .inl (List.mem_append.2 (.inl h))
  .exact .inr (h.trans h1)
  .exact .inl (List.mem_append.2 (.inr h))
theorem AM.okA_de(h:M.okA):(M.delete id).2.okA:=by
 unfold AM.delete
 split
 .split
  .rename_i h0
   intro x hx;have hx:¬x∈outI M.ids id:=hx
   show M.pin x=0
   by_cases c:x∈M.ids
   .rw[(Bh c).resolve_left hx];exact h0
   .exact h x c
  .exact h
 .exact h
end
def au(p:PP)(q:Bool)(M:AM)(m:Nat)(w:World)(F:Nat->Prop):Prop:=
 ∃(τ:Type) (P:Adv τ) (RR:World->τ->(Nat->Prop)->Prop) (ok:Nat->τ->(Nat->Nat)->(Nat->Bool)->Prop) (X:PS τ),aJ P RR p.pb p.rv p.n ok/\PW RR ok p X m w F/\Abs p.n X M/\M.okA/\(q=true->X.sc=0/\kO P p.n ok)
section
variable{p:PP}{q:Bool}{M:AM}{m id v:Nat}{w w':World}{F:Nat->Prop}
theorem au.fr0(h:au p q M m w F)(f:Fr NoF w w'):au p q M m w' F:=by
 obtain⟨τ,P,RR,ok,X,S,H,A,O,G⟩:=h;exact⟨τ,P,RR,ok,X,S,H.fr0 S f,A,O,G⟩
theorem au.more(h:au p q M m w F){k:Nat}(hk:m<=k):au p q M k w F:=by
 obtain⟨τ,P,RR,ok,X,S,H,A,O,G⟩:=h;exact⟨τ,P,RR,ok,X,S,H.more S hk,A,O,G⟩
theorem au.np(h:au p q M m w F)(hm:m<60000):Calls prog 37 #[p.ptr] w λe w'=>e=.returned (.tuple #[.int .u32 (M.newPage p.n).1.1,.int .i64 (M.newPage p.n).1.2])/\Led (au p q (M.newPage p.n).2 (m+10)) F w w':=by
 obtain⟨τ,P,RR,ok,X,S,H,A,O,G⟩:=h;obtain⟨e1,A2⟩:=A.newPageE (P:=P);refine(Bf S H hm).mono λe w' ⟨he,hl⟩=>⟨by rw[he,e1],hl.mono (λF' h'=>⟨τ,P,RR,ok,_,S,h',A2,AM.okA_np O,λhq=>⟨?_,(G hq).2⟩⟩)⟩
 rw[tM S (G hq).2 H.2.1 (by omega) H.2.2];exact(G hq).1
theorem au.fe(h:au p q M m w F)(hm:m<60000)(hu:id<4294967296):Calls prog 38 #[p.ptr,.int .u32 id] w λe w'=>e=.returned (.int .i64 (M.fetch p.n id).1)/\Led (au p q (M.fetch p.n id).2 (m+10)) F w w':=by
 obtain⟨τ,P,RR,ok,X,S,H,A,O,G⟩:=h;obtain⟨e1,A2⟩:=A.fetchE (P:=P) id;refine(BI S H hm hu).mono λe w' ⟨he,hl⟩=>⟨by rw[he,e1],hl.mono (λF' h'=>⟨τ,P,RR,ok,_,S,h',A2,AM.okA_fe O,λhq=>⟨?_,(G hq).2⟩⟩)⟩
 rw[zg S (G hq).2 H.2.1 (by omega) H.2.2];exact(G hq).1
theorem au.un(h:au p q M m w F)(hm:m<60000)(hu:id<4294967296):Calls prog 39 #[p.ptr,.int .u32 id] w λe w'=>e=.returned (.int .i64 (M.unpin id).1)/\Led (au p q (M.unpin id).2 (m+10)) F w w':=by
 obtain⟨τ,P,RR,ok,X,S,H,A,O,G⟩:=h;obtain⟨e1,A2⟩:=A.unpinE (P:=P) id;refine(AX S H hm hu).mono λe w' ⟨he,hl⟩=>⟨by rw[he,e1],hl.mono (λF' h'=>⟨τ,P,RR,ok,_,S,h',A2,AM.okA_un O,λhq=>⟨?_,(G hq).2⟩⟩)⟩
 unfold PS.unpin
 split
 .exact(G hq).1
 .exact(G hq).1
theorem au.rd(h:au p q M m w F)(hu:id<4294967296):Calls prog 40 #[p.ptr,.int .u32 id] w λe w'=>e=.returned (.tuple #[.int .u64 (M.read id).1,.int .i64 (M.read id).2])/\w=w':=by
 obtain⟨τ,P,RR,ok,X,S,H,A,O,G⟩:=h;exact(yD H hu).mono λe w' ⟨he,hw⟩=>⟨by rw[he,A.readE],hw⟩
theorem au.wr(h:au p q M m w F)(hu:id<4294967296)(hv:v<18446744073709551616):Calls prog 41 #[p.ptr,.int .u32 id,.int .u64 v] w λe w'=>e=.returned (.int .i64 (M.write id v).1)/\Led (au p q (M.write id v).2 (m+10)) F w w':=by
 obtain⟨τ,P,RR,ok,X,S,H,A,O,G⟩:=h;obtain⟨e1,A2⟩:=A.writeE id hv;refine(A7 S H hu hv).mono λe w' ⟨he,hl⟩=>⟨by rw[he,e1],hl.mono (λF' h'=>⟨τ,P,RR,ok,_,S,h',A2,AM.okA_wr O,λhq=>⟨?_,(G hq).2⟩⟩)⟩
 unfold PS.write
 split
 .exact(G hq).1
 .exact(G hq).1
theorem au.fl(h:au p q M m w F)(hm:m<60000)(hu:id<4294967296):Calls prog 42 #[p.ptr,.int .u32 id] w λe w'=>e=.returned (.int .i64 (M.flush id))/\Led (au p q M (m+10)) F w w':=by
 obtain⟨τ,P,RR,ok,X,S,H,A,O,G⟩:=h;obtain⟨e1,A2⟩:=A.flushE id;refine(zt S H hm hu).mono λe w' ⟨he,hl⟩=>⟨by rw[he,e1],hl.mono (λF' h'=>⟨τ,P,RR,ok,_,S,h',A2,O,λhq=>⟨?_,(G hq).2⟩⟩)⟩
 unfold PS.flush
 split
 .cases frm p.n X.f id with
  |none=>exact(G hq).1
  |some k=>show(X.clean k).2.sc=0;rw[qC];exact(G hq).1
 .exact(G hq).1
theorem au.de(h:au p q M m w F)(hm:m<60000)(hu:id<4294967296):Calls prog 44 #[p.ptr,.int .u32 id] w λe w'=>e=.returned (.int .i64 (M.delete id).1)/\Led (au p q (M.delete id).2 (m+10)) F w w':=by
 obtain⟨τ,P,RR,ok,X,S,H,A,O,G⟩:=h;obtain⟨e1,A2⟩:=A.deleteE (P:=P) id;refine(Bc S H hm hu).mono λe w' ⟨he,hl⟩=>⟨by rw[he,e1],hl.mono (λF' h'=>⟨τ,P,RR,ok,_,S,h',A2,AM.okA_de O,λhq=>⟨?_,(G hq).2⟩⟩)⟩
 unfold PS.delete
 split
 .cases frm p.n X.f id with
  |none=>exact(G hq).1
  |some k=>dsimp only;split<;>exact(G hq).1
 .exact(G hq).1
end
end
section
open Go.Maps Go.RowKit
section
variable{p:PP}{q:Bool}{M:AM}{m:Nat}{w w':World}{F:Nat->Prop}
theorem au.fro(h:au p q M m w F){G:Nat->Prop}(g:Fr G w w')(hG:∀i,F i->¬G i)(ht:¬G 0):au p q M m w' F:=by
 obtain⟨τ,P,RR,ok,X,S,H,A,O,K⟩:=h;exact⟨τ,P,RR,ok,X,S,⟨H.1.fro S g hG ht,H.2⟩,A,O,K⟩
theorem au.lt(h:au p q M m w F):∀i,F i->i<w.heap.size:=by
 obtain⟨τ,P,RR,ok,X,S,H,A,O,K⟩:=h;exact H.1.lt S
end
structure OpF where
 k:Int
 id:Nat
 v:Nat
def OpF.ok(o:OpF):Prop:=o.id<4294967296/\o.v<18446744073709551616/\-9223372036854775808<=o.k/\o.k<=9223372036854775807
def OpF.val(o:OpF):Value:=.agg #[.int .i64 o.k,.int .u32 o.id,.int .u64 o.v]
structure AnF where
 e:Nat
 id:Nat
 v:Nat
def AnF.val(a:AnF):Value:=.agg #[.int .i64 (a.e:Nat),.int .u32 (a.id:Nat),.int .u64 (a.v:Nat)]
end
end Go.Proofs.YtoenclhimbpfeaaGreatDoor
