/- Part 6. -/
import Derived.WalkKit
namespace Go.Proofs.YtoenclhimbpfeaaGreatDoor
set_option linter.all false
set_option maxHeartbeats 16000000
set_option maxRecDepth 100000
section
def par(k:Nat):Nat:=(k-1)/2
section
variable{α:Type}(lt:α->α->Bool)
def swp(a:Nat->α)(i j:Nat):Nat->α:=λk=>if k=i then a j else if k=j then a i else a k
theorem vr{a:Nat->α}{i j n:Nat}(hi:i<n)(hj:j<n)(t:α):(∃k,k<n/\swp a i j k=t)↔∃k,k<n/\a k=t:=by
 constructor
 .rintro⟨k,hk,rfl⟩
  unfold swp
  split
  .exact⟨j,hj,rfl⟩
  .split
   .exact⟨i,hi,rfl⟩
   .exact⟨k,hk,rfl⟩
 .rintro⟨k,hk,rfl⟩
  by_cases e1:k=i
  .refine⟨j,hj,?_⟩
   unfold swp;by_cases e2:j=i
   .rw[if_pos e2,e1,e2]
   .rw[if_neg e2,if_pos rfl,e1]
  .by_cases e2:k=j
   .exact⟨i,hi,by unfold swp;rw[if_pos rfl,e2]⟩
   .exact⟨k,hk,by unfold swp;rw[if_neg e1,if_neg e2]⟩
def gN{β:Type}(f:α->β)(a:Nat->α)(n:Nat):Prop:=∀k m,k<n->m<n->f (a k)=f (a m)->k=m
theorem eJ{β:Type}{f:α->β}{a:Nat->α}{i j n:Nat}(hi:i<n)(hj:j<n)(h:gN f a n):gN f (swp a i j) n:=by
 intro k m hk hm e
 have key:∀k,k<n->∃k',k'<n/\swp a i j k=a k'/\k'=(if k=i then j else if k=j then i else k):=by
  intro k hk;unfold swp
  split
  .exact⟨j,hj,rfl,rfl⟩
  .split
   .exact⟨i,hi,rfl,rfl⟩
   .exact⟨k,hk,rfl,rfl⟩
 obtain⟨k',h1,h2,h3⟩:=key k hk;obtain⟨m',h4,h5,h6⟩:=key m hm;rw[h2,h5]at e;have:=h k' m' h1 h4 e;rw[h3,h6]at this
 split at this<;>split at this<;>(try split at this)<;>(try split at this)<;>omega
def upF(a:Nat->α)(j:Nat):Nat->α:=
 if h:j=0 then a else if lt (a j) (a (par j))then upF (swp a (par j) j) (par j)else a
termination_by j
decreasing_by unfold par;omega
def aR(a:Nat->α)(n j1:Nat):Nat:=if j1+1<n/\lt (a (j1+1)) (a j1)=true then j1+1 else j1
theorem da(a:Nat->α)(n j1:Nat):j1<=aR lt a n j1/\aR lt a n j1<=j1+1/\(j1<n->aR lt a n j1<n):=by
 unfold aR;split
 .rename_i h;exact⟨by omega,by omega,λ_=>h.1⟩
 .exact⟨by omega,by omega,λh=>h⟩
def aD(n:Nat)(a:Nat->α)(i:Nat):(Nat->α)×Nat:=
 if h:n<=2*i+1 then(a,i)else if lt (a (aR lt a n (2*i+1))) (a i)then aD n (swp a i (aR lt a n (2*i+1))) (aR lt a n (2*i+1))else(a,i)
termination_by n-i
decreasing_by have:=da lt a n (2*i+1);omega
theorem tf{n:Nat}(t:α):∀(a:Nat->α) (j:Nat),j<n->((∃k,k<n/\upF lt a j k=t)↔∃k,k<n/\a k=t):=by
 intro a j
 induction j using Nat.strongRecOn generalizing a with
 |_ j ih=>
  intro hj;unfold upF
  split
  .rfl
  .split
   .have hp:par j<j:=by unfold par;omega
    rw[ih (par j) hp _ (by omega),vr (by omega) hj]
   .rfl
theorem Et{β:Type}{f:α->β}{n:Nat}:∀(a:Nat->α) (j:Nat),j<n->gN f a n->gN f (upF lt a j) n:=by
 intro a j
 induction j using Nat.strongRecOn generalizing a with
 |_ j ih=>
  intro hj h;unfold upF
  split
  .exact h
  .split
   .have hp:par j<j:=by unfold par;omega
    exact ih (par j) hp _ (by omega) (eJ (by omega) hj h)
   .exact h
theorem E6{n:Nat}:∀(a:Nat->α) (j:Nat),j<n->∀k,n<=k->upF lt a j k=a k:=by
 intro a j
 induction j using Nat.strongRecOn generalizing a with
 |_ j ih=>
  intro hj k hk;unfold upF
  split
  .rfl
  .split
   .have hp:par j<j:=by unfold par;omega
    rw[ih (par j) hp _ (by omega) k hk];unfold swp;rw[if_neg (by omega),if_neg (by omega)]
   .rfl
theorem ly{n:Nat}(t:α):∀(m:Nat) (a:Nat->α) (i:Nat),n-i<=m->i<n->((∃k,k<n/\(aD lt n a i).1 k=t)↔∃k,k<n/\a k=t):=by
 intro m
 induction m with
 |zero=>intro a i h1 h2;omega
 |succ m ih=>
  intro a i h1 h2;unfold aD
  split
  .rfl
  .rename_i hn
   split
   .have:=da lt a n (2*i+1)
    rw[ih _ _ (by omega) (by omega),vr h2 (by omega)]
   .rfl
theorem AT{β:Type}{f:α->β}{n:Nat}:∀(m:Nat) (a:Nat->α) (i:Nat),n-i<=m->i<n->gN f a n->gN f (aD lt n a i).1 n:=by
 intro m
 induction m with
 |zero=>intro a i h1 h2;omega
 |succ m ih=>
  intro a i h1 h2 h;unfold aD
  split
  .exact h
  .rename_i hn
   split
   .have:=da lt a n (2*i+1)
    exact ih _ _ (by omega) (by omega) (eJ h2 (by omega) h)
   .exact h
theorem kM{n:Nat}:∀(m:Nat) (a:Nat->α) (i:Nat),n-i<=m->i<n->∀k,n<=k->(aD lt n a i).1 k=a k:=by
 intro m
 induction m with
 |zero=>intro a i h1 h2;omega
 |succ m ih=>
  intro a i h1 h2 k hk;unfold aD
  split
  .rfl
  .rename_i hn
   split
   .have:=da lt a n (2*i+1)
    rw[ih _ _ (by omega) (by omega) k hk];unfold swp;rw[if_neg (by omega),if_neg (by omega)]
   .rfl
theorem uC{n:Nat}:∀(m:Nat) (a:Nat->α) (i:Nat),n-i<=m->i<n->i<=(aD lt n a i).2/\((aD lt n a i).2=i->(aD lt n a i).1=a)/\(aD lt n a i).2<n:=by
 intro m
 induction m with
 |zero=>intro a i h1 h2;omega
 |succ m ih=>
  intro a i h1 h2;unfold aD
  split
  .exact⟨Nat.le_refl _,λ_=>rfl,h2⟩
  .rename_i hn
   split
   .have hl:=da lt a n (2*i+1)
    have:=ih (swp a i (aR lt a n (2*i+1))) (aR lt a n (2*i+1)) (by omega) (by omega);exact⟨by omega,λe=>by omega,this.2.2⟩
   .exact⟨Nat.le_refl _,λ_=>rfl,h2⟩
structure Ord:Prop where
 ay:∀x y,lt x y=true->lt y x=false
 tr:∀x y z,lt y x=false->lt z y=false->lt z x=false
def bt(a:Nat->α)(n:Nat):Prop:=∀k,0<k->k<n->lt (a k) (a (par k))=false
def dB(a:Nat->α)(n j:Nat):Prop:=(∀k,0<k->k<n->¬k=j->lt (a k) (a (par k))=false)/\∀k,0<k->k<n->par k=j->0<j->lt (a k) (a (par j))=false
def eE(a:Nat->α)(n j:Nat):Prop:=(∀k,0<k->k<n->¬k=j->¬par k=j->lt (a k) (a (par k))=false)/\∀k,0<k->k<n->par k=j->0<j->lt (a k) (a (par j))=false
variable{lt}
theorem Ord.irr(O:Ord lt)(x:α):lt x x=false:=by
 cases e:lt x x with
 |false=>rfl
 |true=>have:=O.ay x x e;rw[e]at this;exact this
theorem bt.root(O:Ord lt){a:Nat->α}{n:Nat}(h:bt lt a n):∀k,k<n->lt (a k) (a 0)=false:=by
 intro k
 induction k using Nat.strongRecOn with
 |_ k ih=>
  intro hk;by_cases e:k=0
  .rw[e];exact O.irr _
  .have hp:par k<k:=by unfold par;omega
   exact O.tr _ _ _ (ih (par k) hp (by omega)) (h k (by omega) hk)
theorem dB.up(O:Ord lt){n:Nat}:∀(a:Nat->α) (j:Nat),j<n->dB lt a n j->bt lt (upF lt a j) n:=by
 intro a j
 induction j using Nat.strongRecOn generalizing a with
 |_ j ih=>
  intro hj h;unfold upF
  split
  .rename_i hj0
   intro k h1 h2;exact h.1 k h1 h2 (by omega)
  .rename_i hj0
   have hp:par j<j:=by unfold par;omega
   split
   .rename_i hlt
    refine ih (par j) hp _ (by omega) ⟨λk h1 h2 h3=>?_,λk h1 h2 h3 h4=>?_⟩
    ·
     by_cases e1:k=j
     .subst e1
      have:swp a (par k) k k=a (par k):=by unfold swp;rw[if_neg (by omega),if_pos rfl]
      have e2:swp a (par k) k (par k)=a k:=by unfold swp;rw[if_pos rfl]
      rw[this,e2];exact O.ay _ _ hlt
     .have ek:swp a (par j) j k=a k:=by unfold swp;rw[if_neg h3,if_neg e1]
      rw[ek];by_cases e2:par k=par j
      .have e3:swp a (par j) j (par k)=a j:=by unfold swp;rw[e2,if_pos rfl]
       rw[e3];have h5:=h.1 k h1 h2 e1;rw[e2]at h5;exact O.tr _ _ _ (O.ay _ _ hlt) h5
      .by_cases e4:par k=j
       .have e3:swp a (par j) j (par k)=a (par j):=by unfold swp;rw[e4,if_neg (by omega),if_pos rfl]
        rw[e3];exact h.2 k h1 h2 e4 (by omega)
       .have e3:swp a (par j) j (par k)=a (par k):=by unfold swp;rw[if_neg e2,if_neg e4]
        rw[e3];exact h.1 k h1 h2 e1
    ·
     have hpp:par (par j)<par j:=by unfold par at*;omega
     have e0:swp a (par j) j (par (par j))=a (par (par j)):=by unfold swp;rw[if_neg (by omega),if_neg (by omega)]
     rw[e0];have hg:=h.1 (par j) h4 (by omega) (by omega);by_cases e1:k=j
     .subst e1
      have:swp a (par k) k k=a (par k):=by unfold swp;rw[if_neg (by omega),if_pos rfl]
      rw[this];exact hg
     .have ek:swp a (par j) j k=a k:=by
       unfold swp;rw[if_neg,if_neg e1];intro e;rw[e]at h3;unfold par at*;omega
      rw[ek];have h5:=h.1 k h1 h2 e1;rw[h3]at h5;exact O.tr _ _ _ hg h5
   .rename_i hlt
    intro k h1 h2;by_cases e:k=j
    .rw[e];simpa using hlt
    .exact h.1 k h1 h2 e
theorem child{k i:Nat}(h:0<k)(e:par k=i):k=2*i+1\/k=2*i+2:=by unfold par at e;omega
theorem xy(i:Nat):par (2*i+1)=i/\par (2*i+2)=i:=by unfold par;omega
theorem sN(O:Ord lt)(a:Nat->α){n j1:Nat}:(lt (a j1) (a (aR lt a n j1))=false)/\(j1+1<n->lt (a (j1+1)) (a (aR lt a n j1))=false):=by
 unfold aR
 split
 .rename_i h
  exact⟨O.ay _ _ h.2,λ_=>O.irr _⟩
 .rename_i h
  refine⟨O.irr _,λhn=>?_⟩
  cases e:lt (a (j1+1)) (a j1)with
  |false=>rfl
  |true=>exact(h ⟨hn,e⟩).elim
theorem eE.down(O:Ord lt){n:Nat}:∀(m:Nat) (a:Nat->α) (i:Nat),n-i<=m->i<n->eE lt a n i->
  ((aD lt n a i).2=i->dB lt a n i)/\(¬(aD lt n a i).2=i->bt lt (aD lt n a i).1 n)/\((i=0\/lt (a i) (a (par i))=false)->bt lt (aD lt n a i).1 n):=by
 intro m
 induction m with
 |zero=>intro a i h1 h2;omega
 |succ m ih=>
  intro a i h1 h2 h
  have noKids:n<=2*i+1->dB lt a n i:=by
   intro hn;refine⟨λk k1 k2 k3=>h.1 k k1 k2 k3 (λe=>?_),h.2⟩;rcases child k1 e with q|q<;>omega
  have fin:dB lt a n i->(i=0\/lt (a i) (a (par i))=false)->bt lt a n:=by
   intro hu hp k k1 k2;by_cases e:k=i
   .subst e;rcases hp with q|q
    .omega
    .exact q
   .exact hu.1 k k1 k2 e
  unfold aD
  split
  .rename_i hn
   exact⟨λ_=>noKids hn,λe=>(e rfl).elim,fin (noKids hn)⟩
  .rename_i hn
   have hl:=da lt a n (2*i+1);have hmin:=sN O a (n:=n) (j1:=2*i+1);have hc:=xy i;generalize hj:aR lt a n (2*i+1)=j at*
   have hpj:par j=i:=by
    have:j=2*i+1\/j=2*i+2:=by omega
    rcases this with q|q<;>rw[q]
    .exact hc.1
    .exact hc.2
   have hkids:∀k,0<k->k<n->par k=i->lt (a k) (a j)=false:=by
    intro k k1 k2 k3;rcases child k1 k3 with q|q
    .rw[q];exact hmin.1
    .rw[q];exact hmin.2 (by omega)
   split
   .rename_i hlt
    have hg:eE lt (swp a i j) n j:=by
     refine⟨λk k1 k2 k3 k4=>?_,λk k1 k2 k3 k4=>?_⟩
     .by_cases e1:k=i
      .subst e1
       have ei:swp a k j k=a j:=by unfold swp;rw[if_pos rfl]
       have ep:swp a k j (par k)=a (par k):=by unfold swp;rw[if_neg (by unfold par;omega),if_neg (by unfold par;omega)]
       rw[ei,ep];exact h.2 j (by omega) (by omega) hpj k1
      .have ek:swp a i j k=a k:=by unfold swp;rw[if_neg e1,if_neg k3]
       rw[ek];by_cases e2:par k=i
       .have ep:swp a i j (par k)=a j:=by unfold swp;rw[if_pos e2]
        rw[ep];exact hkids k k1 k2 e2
       .have ep:swp a i j (par k)=a (par k):=by unfold swp;rw[if_neg e2,if_neg k4]
        rw[ep];exact h.1 k k1 k2 e1 e2
     .have e1:¬k=i:=by unfold par at k3;omega
      have e2:¬k=j:=by unfold par at k3;omega
      have ek:swp a i j k=a k:=by unfold swp;rw[if_neg e1,if_neg e2]
      have ep:swp a i j (par j)=a j:=by unfold swp;rw[hpj,if_pos rfl]
      rw[ek,ep];have:=h.1 k k1 k2 e1 (by rw[k3];omega);rw[k3]at this;exact this
    have hrec:=ih (swp a i j) j (by omega) (by omega) hg;have hdg:=uC lt m (swp a i j) j (n:=n) (by omega) (by omega)
    have hpar:lt (swp a i j j) (swp a i j (par j))=false:=by
     have ej:swp a i j j=a i:=by unfold swp;rw[if_neg (by omega),if_pos rfl]
     have ep:swp a i j (par j)=a j:=by unfold swp;rw[hpj,if_pos rfl]
     rw[ej,ep];exact O.ay _ _ hlt
    exact⟨λe=>by omega,λ_=>hrec.2.2 (.inr hpar),λ_=>hrec.2.2 (.inr hpar)⟩
   .rename_i hlt
    have hlt:lt (a j) (a i)=false:=by simpa using hlt
    have hu:dB lt a n i:=by
     refine⟨λk k1 k2 k3=>?_,h.2⟩;by_cases e:par k=i
     .rw[e];exact O.tr _ _ _ hlt (hkids k k1 k2 e)
     .exact h.1 k k1 k2 k3 e
    exact⟨λ_=>hu,λe=>(e rfl).elim,fin hu⟩
end
end
end Go.Proofs.YtoenclhimbpfeaaGreatDoor
