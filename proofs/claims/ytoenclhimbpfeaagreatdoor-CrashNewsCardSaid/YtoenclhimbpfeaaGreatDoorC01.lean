/- Part 1. -/
import Derived.WalkKit
import Derived.Lib.Hide
import Derived.Deep.QuietTactic
import Derived.Deep.DeepMust
import Derived.Maps.AppendAt
namespace Go.Proofs.YtoenclhimbpfeaaGreatDoor
set_option linter.all false
set_option maxHeartbeats 16000000
set_option maxRecDepth 100000
section
def par(k:Nat):Nat:=(k-1)/2
section
variable{α:Type}(lt:α->α->Bool)
def swp(a:Nat->α)(i j:Nat):Nat->α:=fun k=>if k=i then a j else if k=j then a i else a k
theorem swp_mem{a:Nat->α}{i j n:Nat}(hi:i<n)(hj:j<n)(t:α):(∃k,k<n∧swp a i j k=t)↔∃k,k<n∧a k=t:=by
 constructor
 .rintro⟨k,hk,rfl⟩
  unfold swp
  split
  .exact⟨j,hj,rfl⟩
  .split
   .exact⟨i,hi,rfl⟩
   .exact⟨k,hk,rfl⟩
 .rintro⟨k,hk,rfl⟩
  by_cases e1:k=i
  .refine⟨j,hj,?_⟩
   unfold swp;by_cases e2:j=i
   .rw[if_pos e2,e1,e2]
   .rw[if_neg e2,if_pos rfl,e1]
  .by_cases e2:k=j
   .exact⟨i,hi,by unfold swp;rw[if_pos rfl,e2]⟩
   .exact⟨k,hk,by unfold swp;rw[if_neg e1,if_neg e2]⟩
def InjF{β:Type}(f:α->β)(a:Nat->α)(n:Nat):Prop:=∀k m,k<n->m<n->f (a k)=f (a m)->k=m
theorem swp_inj{β:Type}{f:α->β}{a:Nat->α}{i j n:Nat}(hi:i<n)(hj:j<n)(h:InjF f a n):InjF f (swp a i j) n:=by
 intro k m hk hm e
 have key:∀k,k<n->∃k',k'<n∧swp a i j k=a k'∧k'=(if k=i then j else if k=j then i else k):=by
  intro k hk;unfold swp
  split
  .exact⟨j,hj,rfl,rfl⟩
  .split
   .exact⟨i,hi,rfl,rfl⟩
   .exact⟨k,hk,rfl,rfl⟩
 obtain⟨k',h1,h2,h3⟩:=key k hk;obtain⟨m',h4,h5,h6⟩:=key m hm;rw[h2,h5]at e;have:=h k' m' h1 h4 e;rw[h3,h6]at this
 split at this<;>split at this<;>(try split at this)<;>(try split at this)<;>omega
def upF(a:Nat->α)(j:Nat):Nat->α:=
 if h:j=0 then a else if lt (a j) (a (par j))then upF (swp a (par j) j) (par j)else a
termination_by j
decreasing_by unfold par;omega
def least2(a:Nat->α)(n j1:Nat):Nat:=if j1+1<n∧lt (a (j1+1)) (a j1)=true then j1+1 else j1
theorem least2_le(a:Nat->α)(n j1:Nat):j1<=least2 lt a n j1∧least2 lt a n j1<=j1+1∧(j1<n->least2 lt a n j1<n):=by
 unfold least2;split
 .rename_i h;exact⟨by omega,by omega,fun _=>h.1⟩
 .exact⟨by omega,by omega,fun h=>h⟩
def downF(n:Nat)(a:Nat->α)(i:Nat):(Nat->α)×Nat:=
 if h:n<=2*i+1 then(a,i)else if lt (a (least2 lt a n (2*i+1))) (a i)then downF n (swp a i (least2 lt a n (2*i+1))) (least2 lt a n (2*i+1))else(a,i)
termination_by n-i
decreasing_by have:=least2_le lt a n (2*i+1);omega
theorem up_mem{n:Nat}(t:α):∀(a:Nat->α) (j:Nat),j<n->((∃k,k<n∧upF lt a j k=t)↔∃k,k<n∧a k=t):=by
 intro a j
 induction j using Nat.strongRecOn generalizing a with
 |_ j ih=>
  intro hj;unfold upF
  split
  .rfl
  .split
   .have hp:par j<j:=by unfold par;omega
    rw[ih (par j) hp _ (by omega),swp_mem (by omega) hj]
   .rfl
theorem up_inj{β:Type}{f:α->β}{n:Nat}:∀(a:Nat->α) (j:Nat),j<n->InjF f a n->InjF f (upF lt a j) n:=by
 intro a j
 induction j using Nat.strongRecOn generalizing a with
 |_ j ih=>
  intro hj h;unfold upF
  split
  .exact h
  .split
   .have hp:par j<j:=by unfold par;omega
    exact ih (par j) hp _ (by omega) (swp_inj (by omega) hj h)
   .exact h
theorem up_out{n:Nat}:∀(a:Nat->α) (j:Nat),j<n->∀k,n<=k->upF lt a j k=a k:=by
 intro a j
 induction j using Nat.strongRecOn generalizing a with
 |_ j ih=>
  intro hj k hk;unfold upF
  split
  .rfl
  .split
   .have hp:par j<j:=by unfold par;omega
    rw[ih (par j) hp _ (by omega) k hk];unfold swp;rw[if_neg (by omega),if_neg (by omega)]
   .rfl
theorem down_mem{n:Nat}(t:α):∀(m:Nat) (a:Nat->α) (i:Nat),n-i<=m->i<n->((∃k,k<n∧(downF lt n a i).1 k=t)↔∃k,k<n∧a k=t):=by
 intro m
 induction m with
 |zero=>intro a i h1 h2;omega
 |succ m ih=>
  intro a i h1 h2;unfold downF
  split
  .rfl
  .rename_i hn
   split
   .have:=least2_le lt a n (2*i+1)
    rw[ih _ _ (by omega) (by omega),swp_mem h2 (by omega)]
   .rfl
theorem down_inj{β:Type}{f:α->β}{n:Nat}:∀(m:Nat) (a:Nat->α) (i:Nat),n-i<=m->i<n->InjF f a n->InjF f (downF lt n a i).1 n:=by
 intro m
 induction m with
 |zero=>intro a i h1 h2;omega
 |succ m ih=>
  intro a i h1 h2 h;unfold downF
  split
  .exact h
  .rename_i hn
   split
   .have:=least2_le lt a n (2*i+1)
    exact ih _ _ (by omega) (by omega) (swp_inj h2 (by omega) h)
   .exact h
theorem down_out{n:Nat}:∀(m:Nat) (a:Nat->α) (i:Nat),n-i<=m->i<n->∀k,n<=k->(downF lt n a i).1 k=a k:=by
 intro m
 induction m with
 |zero=>intro a i h1 h2;omega
 |succ m ih=>
  intro a i h1 h2 k hk;unfold downF
  split
  .rfl
  .rename_i hn
   split
   .have:=least2_le lt a n (2*i+1)
    rw[ih _ _ (by omega) (by omega) k hk];unfold swp;rw[if_neg (by omega),if_neg (by omega)]
   .rfl
theorem down_ge{n:Nat}:∀(m:Nat) (a:Nat->α) (i:Nat),n-i<=m->i<n->i<=(downF lt n a i).2∧((downF lt n a i).2=i->(downF lt n a i).1=a)∧(downF lt n a i).2<n:=by
 intro m
 induction m with
 |zero=>intro a i h1 h2;omega
 |succ m ih=>
  intro a i h1 h2;unfold downF
  split
  .exact⟨Nat.le_refl _,fun _=>rfl,h2⟩
  .rename_i hn
   split
   .have hl:=least2_le lt a n (2*i+1)
    have:=ih (swp a i (least2 lt a n (2*i+1))) (least2 lt a n (2*i+1)) (by omega) (by omega);exact⟨by omega,fun e=>by omega,this.2.2⟩
   .exact⟨Nat.le_refl _,fun _=>rfl,h2⟩
structure Ord:Prop where
 ay:∀x y,lt x y=true->lt y x=false
 tr:∀x y z,lt y x=false->lt z y=false->lt z x=false
def IsHeap(a:Nat->α)(n:Nat):Prop:=∀k,0<k->k<n->lt (a k) (a (par k))=false
def UpHeap(a:Nat->α)(n j:Nat):Prop:=(∀k,0<k->k<n->¬k=j->lt (a k) (a (par k))=false)∧∀k,0<k->k<n->par k=j->0<j->lt (a k) (a (par j))=false
def GapHeap(a:Nat->α)(n j:Nat):Prop:=(∀k,0<k->k<n->¬k=j->¬par k=j->lt (a k) (a (par k))=false)∧∀k,0<k->k<n->par k=j->0<j->lt (a k) (a (par j))=false
variable{lt}
theorem Ord.irr(O:Ord lt)(x:α):lt x x=false:=by
 cases e:lt x x with
 |false=>rfl
 |true=>have:=O.ay x x e;rw[e]at this;exact this
theorem IsHeap.root(O:Ord lt){a:Nat->α}{n:Nat}(h:IsHeap lt a n):∀k,k<n->lt (a k) (a 0)=false:=by
 intro k
 induction k using Nat.strongRecOn with
 |_ k ih=>
  intro hk;by_cases e:k=0
  .rw[e];exact O.irr _
  .have hp:par k<k:=by unfold par;omega
   exact O.tr _ _ _ (ih (par k) hp (by omega)) (h k (by omega) hk)
theorem UpHeap.up(O:Ord lt){n:Nat}:∀(a:Nat->α) (j:Nat),j<n->UpHeap lt a n j->IsHeap lt (upF lt a j) n:=by
 intro a j
 induction j using Nat.strongRecOn generalizing a with
 |_ j ih=>
  intro hj h;unfold upF
  split
  .rename_i hj0
   intro k h1 h2;exact h.1 k h1 h2 (by omega)
  .rename_i hj0
   have hp:par j<j:=by unfold par;omega
   split
   .rename_i hlt
    refine ih (par j) hp _ (by omega) ⟨fun k h1 h2 h3=>?_,fun k h1 h2 h3 h4=>?_⟩
    ·
     by_cases e1:k=j
     .subst e1
      have:swp a (par k) k k=a (par k):=by unfold swp;rw[if_neg (by omega),if_pos rfl]
      have e2:swp a (par k) k (par k)=a k:=by unfold swp;rw[if_pos rfl]
      rw[this,e2];exact O.ay _ _ hlt
     .have ek:swp a (par j) j k=a k:=by unfold swp;rw[if_neg h3,if_neg e1]
      rw[ek];by_cases e2:par k=par j
      .have e3:swp a (par j) j (par k)=a j:=by unfold swp;rw[e2,if_pos rfl]
       rw[e3];have h5:=h.1 k h1 h2 e1;rw[e2]at h5;exact O.tr _ _ _ (O.ay _ _ hlt) h5
      .by_cases e4:par k=j
       .have e3:swp a (par j) j (par k)=a (par j):=by unfold swp;rw[e4,if_neg (by omega),if_pos rfl]
        rw[e3];exact h.2 k h1 h2 e4 (by omega)
       .have e3:swp a (par j) j (par k)=a (par k):=by unfold swp;rw[if_neg e2,if_neg e4]
        rw[e3];exact h.1 k h1 h2 e1
    ·
     have hpp:par (par j)<par j:=by unfold par at*;omega
     have e0:swp a (par j) j (par (par j))=a (par (par j)):=by unfold swp;rw[if_neg (by omega),if_neg (by omega)]
     rw[e0];have hg:=h.1 (par j) h4 (by omega) (by omega);by_cases e1:k=j
     .subst e1
      have:swp a (par k) k k=a (par k):=by unfold swp;rw[if_neg (by omega),if_pos rfl]
      rw[this];exact hg
     .have ek:swp a (par j) j k=a k:=by
       unfold swp;rw[if_neg,if_neg e1];intro e;rw[e]at h3;unfold par at*;omega
      rw[ek];have h5:=h.1 k h1 h2 e1;rw[h3]at h5;exact O.tr _ _ _ hg h5
   .rename_i hlt
    intro k h1 h2;by_cases e:k=j
    .rw[e];simpa using hlt
    .exact h.1 k h1 h2 e
theorem child{k i:Nat}(h:0<k)(e:par k=i):k=2*i+1∨k=2*i+2:=by unfold par at e;omega
theorem par_child(i:Nat):par (2*i+1)=i∧par (2*i+2)=i:=by unfold par;omega
theorem least2_min(O:Ord lt)(a:Nat->α){n j1:Nat}:(lt (a j1) (a (least2 lt a n j1))=false)∧(j1+1<n->lt (a (j1+1)) (a (least2 lt a n j1))=false):=by
 unfold least2
 split
 .rename_i h
  exact⟨O.ay _ _ h.2,fun _=>O.irr _⟩
 .rename_i h
  refine⟨O.irr _,fun hn=>?_⟩
  cases e:lt (a (j1+1)) (a j1)with
  |false=>rfl
  |true=>exact(h ⟨hn,e⟩).elim
theorem GapHeap.down(O:Ord lt){n:Nat}:∀(m:Nat) (a:Nat->α) (i:Nat),n-i<=m->i<n->GapHeap lt a n i->
  ((downF lt n a i).2=i->UpHeap lt a n i)∧(¬(downF lt n a i).2=i->IsHeap lt (downF lt n a i).1 n)∧((i=0∨lt (a i) (a (par i))=false)->IsHeap lt (downF lt n a i).1 n):=by
 intro m
 induction m with
 |zero=>intro a i h1 h2;omega
 |succ m ih=>
  intro a i h1 h2 h
  have noKids:n<=2*i+1->UpHeap lt a n i:=by
   intro hn;refine⟨fun k k1 k2 k3=>h.1 k k1 k2 k3 (fun e=>?_),h.2⟩;rcases child k1 e with q|q<;>omega
  have fin:UpHeap lt a n i->(i=0∨lt (a i) (a (par i))=false)->IsHeap lt a n:=by
   intro hu hp k k1 k2;by_cases e:k=i
   .subst e;rcases hp with q|q
    .omega
    .exact q
   .exact hu.1 k k1 k2 e
  unfold downF
  split
  .rename_i hn
   exact⟨fun _=>noKids hn,fun e=>(e rfl).elim,fin (noKids hn)⟩
  .rename_i hn
   have hl:=least2_le lt a n (2*i+1);have hmin:=least2_min O a (n:=n) (j1:=2*i+1);have hc:=par_child i;generalize hj:least2 lt a n (2*i+1)=j at*
   have hpj:par j=i:=by
    have:j=2*i+1∨j=2*i+2:=by omega
    rcases this with q|q<;>rw[q]
    .exact hc.1
    .exact hc.2
   have hkids:∀k,0<k->k<n->par k=i->lt (a k) (a j)=false:=by
    intro k k1 k2 k3;rcases child k1 k3 with q|q
    .rw[q];exact hmin.1
    .rw[q];exact hmin.2 (by omega)
   split
   .rename_i hlt
    have hg:GapHeap lt (swp a i j) n j:=by
     refine⟨fun k k1 k2 k3 k4=>?_,fun k k1 k2 k3 k4=>?_⟩
     .by_cases e1:k=i
      .subst e1
       have ei:swp a k j k=a j:=by unfold swp;rw[if_pos rfl]
       have ep:swp a k j (par k)=a (par k):=by unfold swp;rw[if_neg (by unfold par;omega),if_neg (by unfold par;omega)]
       rw[ei,ep];exact h.2 j (by omega) (by omega) hpj k1
      .have ek:swp a i j k=a k:=by unfold swp;rw[if_neg e1,if_neg k3]
       rw[ek];by_cases e2:par k=i
       .have ep:swp a i j (par k)=a j:=by unfold swp;rw[if_pos e2]
        rw[ep];exact hkids k k1 k2 e2
       .have ep:swp a i j (par k)=a (par k):=by unfold swp;rw[if_neg e2,if_neg k4]
        rw[ep];exact h.1 k k1 k2 e1 e2
     .have e1:¬k=i:=by unfold par at k3;omega
      have e2:¬k=j:=by unfold par at k3;omega
      have ek:swp a i j k=a k:=by unfold swp;rw[if_neg e1,if_neg e2]
      have ep:swp a i j (par j)=a j:=by unfold swp;rw[hpj,if_pos rfl]
      rw[ek,ep];have:=h.1 k k1 k2 e1 (by rw[k3];omega);rw[k3]at this;exact this
    have hrec:=ih (swp a i j) j (by omega) (by omega) hg;have hdg:=down_ge lt m (swp a i j) j (n:=n) (by omega) (by omega)
    have hpar:lt (swp a i j j) (swp a i j (par j))=false:=by
     have ej:swp a i j j=a i:=by unfold swp;rw[if_neg (by omega),if_pos rfl]
     have ep:swp a i j (par j)=a j:=by unfold swp;rw[hpj,if_pos rfl]
     rw[ej,ep];exact O.ay _ _ hlt
    exact⟨fun e=>by omega,fun _=>hrec.2.2 (.inr hpar),fun _=>hrec.2.2 (.inr hpar)⟩
   .rename_i hlt
    have hlt:lt (a j) (a i)=false:=by simpa using hlt
    have hu:UpHeap lt a n i:=by
     refine⟨fun k k1 k2 k3=>?_,h.2⟩;by_cases e:par k=i
     .rw[e];exact O.tr _ _ _ hlt (hkids k k1 k2 e)
     .exact h.1 k k1 k2 k3 e
    exact⟨fun _=>hu,fun e=>(e rfl).elim,fin hu⟩
end
end
section
open Go.RowKit
abbrev Hd:=@Lib.hid
def upd{α:Type}(c:Nat->α)(i:Nat)(v:α):Nat->α:=fun j=>if j=i then v else c j
theorem upd_same{α:Type}(c:Nat->α)(i:Nat)(v:α):upd c i v i=v:=by simp[upd]
theorem upd_other{α:Type}(c:Nat->α){i j:Nat}(v:α)(h:¬j=i):upd c i v j=c j:=by simp[upd,h]
def Blk(w:World)(b N:Nat)(c:Nat->Value):Prop:=
 ∃cs t,w.heap[b]?=some (.cells cs t (0,0))∧cs.size=N∧∀i,i<N->cs[i]?=some (c i)
theorem Blk.lt{w:World}{b N:Nat}{c:Nat->Value}(h:Blk w b N c):b<w.heap.size:=by
 obtain⟨cs,t,hh,_⟩:=h;rcases Nat.lt_or_ge b w.heap.size with h'|h'
 .exact h'
 .simp[Array.getElem?_eq_none h']at hh
theorem Blk.cell{w:World}{b N:Nat}{c:Nat->Value}(h:Blk w b N c){i:Nat}(hi:i<N):w.cell? ⟨b,i,none⟩=some (c i):=by
 obtain⟨cs,t,hh,_,hc⟩:=h;simp[World.cell?,hh,hc i hi]
theorem Blk.frozen{w:World}{b N:Nat}{c:Nat->Value}(h:Blk w b N c)(i:Nat):w.frozen? ⟨b,i,none⟩=false:=by
 obtain⟨cs,t,hh,_⟩:=h;simp[World.frozen?,hh]
theorem Blk.ofHeap{w w':World}{b N:Nat}{c:Nat->Value}(h:Blk w b N c)(e:w'.heap[b]?=w.heap[b]?):Blk w' b N c:=by
 obtain⟨cs,t,hh,r⟩:=h;exact⟨cs,t,by rw[e];exact hh,r⟩
theorem Blk.congr{w:World}{b N:Nat}{c c':Nat->Value}(h:Blk w b N c)(e:∀i,i<N->c i=c' i):Blk w b N c':=by
 obtain⟨cs,t,hh,hs,hc⟩:=h;exact⟨cs,t,hh,hs,fun i hi=>by rw[<-e i hi];exact hc i hi⟩
theorem Blk.set{w:World}{b N:Nat}{c:Nat->Value}(h:Blk w b N c)(i:Nat)(v:Value):Blk (w.setCell ⟨b,i,none⟩ v) b N (upd c i v):=by
 obtain⟨cs,t,hh,hs,hc⟩:=h;refine⟨cs.setIfInBounds i v,t,?_,by simp[hs],fun j hj=>?_⟩
 .simp[World.setCell,Array.getElem?_modify,hh]
 .rw[Array.getElem?_setIfInBounds]
  by_cases e:i=j
  .subst e;simp[upd,hs,hj]
  .rw[if_neg e,hc j hj,upd_other _ _ (fun q=>e q.symm)]
theorem Blk.other{w:World}{b N:Nat}{c:Nat->Value}(h:Blk w b N c){a:Addr}(hne:¬b=a.block)(v:Value):Blk (w.setCell a v) b N c:=
 h.ofHeap (Below.heap_setCell w a v b hne)
theorem Blk.alloc{w:World}{b N:Nat}{c:Nat->Value}(h:Blk w b N c)(o:Obj):Blk (w.alloc o) b N c:=
 h.ofHeap (Below.heap_alloc w o b h.lt)
theorem Blk.drew{w:World}{b N:Nat}{c:Nat->Value}(h:Blk w b N c):Blk w.drew b N c:=h.ofHeap rfl
theorem Blk.drewN{w:World}{b N:Nat}{c:Nat->Value}(h:Blk w b N c)(n:Nat):Blk (w.drewN n) b N c:=h.ofHeap rfl
theorem heap_alloc_new(w:World)(o:Obj)(n:Nat)(hn:n=w.heap.size):(w.alloc o).heap[n]?=some o:=by
 subst hn;show(w.heap.push o)[w.heap.size]?=_;simp
theorem Blk.new(w:World)(cs:Array Value)(t:TypeId)(N:Nat)(c:Nat->Value)(n:Nat)(hn:n=w.heap.size)(hs:cs.size=N)(hc:∀i,i<N->cs[i]?=some (c i)):
  Blk (w.alloc (.cells cs t)) n N c:=⟨cs,t,heap_alloc_new w _ n hn,hs,hc⟩
structure Fr(F:Nat->Prop)(w w':World):Prop where
 os:w'.os=w.os
 tape:w'.tape=w.tape
 output:w'.output=w.output
 size:w.heap.size<=w'.heap.size
 block:∀k,k<w.heap.size->¬F k->w'.heap[k]?=w.heap[k]?
theorem Fr.refl(F:Nat->Prop)(w:World):Fr F w w:=⟨rfl,rfl,rfl,Nat.le_refl _,fun _ _ _=>rfl⟩
theorem Fr.trans{F:Nat->Prop}{a b c:World}(h:Fr F a b){G:Nat->Prop}(k:Fr G b c)(hG:∀i,G i->F i∨a.heap.size<=i):Fr F a c:=
 ⟨k.os.trans h.os,k.tape.trans h.tape,k.output.trans h.output,Nat.le_trans h.size k.size,fun i hi hF=>
  (k.block i (Nat.lt_of_lt_of_le hi h.size) (fun g=>(hG i g).elim hF (fun e=>by omega))).trans (h.block i hi hF)⟩
theorem Fr.mono{F G:Nat->Prop}{w w':World}(h:Fr F w w')(hF:∀i,F i->G i):Fr G w w':=
 ⟨h.os,h.tape,h.output,h.size,fun k hk hG=>h.block k hk (fun f=>hG (hF k f))⟩
theorem Fr.alloc{F:Nat->Prop}{a w:World}(h:Fr F a w)(o:Obj):Fr F a (w.alloc o):=
 ⟨h.os,h.tape,h.output,by have:=h.size;simp;omega,fun k hk hF=>by rw[Below.heap_alloc w o k (Nat.lt_of_lt_of_le hk h.size)];exact h.block k hk hF⟩
theorem Fr.setCell{F:Nat->Prop}{a w:World}(h:Fr F a w){p:Addr}(hp:F p.block∨a.heap.size<=p.block)(v:Value):Fr F a (w.setCell p v):=
 ⟨h.os,h.tape,h.output,by have:=h.size;simpa using this,fun k hk hF=>by
  have hne:k≠p.block:=fun e=>hp.elim (fun f=>hF (e▸f)) (fun f=>by omega)
  rw[Below.heap_setCell w p v k hne];exact h.block k hk hF⟩
theorem Fr.drew{F:Nat->Prop}{a w:World}(h:Fr F a w):Fr F a w.drew:=⟨h.os,h.tape,h.output,h.size,h.block⟩
theorem Fr.drewN{F:Nat->Prop}{a w:World}(h:Fr F a w)(n:Nat):Fr F a (w.drewN n):=⟨h.os,h.tape,h.output,h.size,h.block⟩
theorem Fr.grown{F:Nat->Prop}{a w w':World}{row:Option Nat}(h:Fr F a w)(hg:w.grownBy w' row)(hr:∀k,row=some k->F k∨a.heap.size<=k):Fr F a w':=
 ⟨hg.os.trans h.os,hg.tape.trans h.tape,hg.output.trans h.output,Nat.le_trans h.size hg.size,fun k hk hF=>by
  have hs:=h.size;rw[hg.block k (by omega) (fun e=>(hr k e.symm).elim hF (fun q=>by omega))];exact h.block k hk hF⟩
def NoF:Nat->Prop:=fun _=>False
theorem Fr.below{w w':World}(h:Fr NoF w w'):Below w.heap.size w w':=⟨h.os,h.tape,h.output,h.size,fun k hk=>h.block k hk id⟩
theorem Fr.ofBelow{w w':World}(h:Below w.heap.size w w'):Fr NoF w w':=⟨h.os,h.tape,h.output,h.size,fun k hk _=>h.block k hk⟩
theorem Fr.none{F:Nat->Prop}{w w':World}(h:Fr NoF w w'):Fr F w w':=h.mono (fun _ f=>f.elim)
theorem Blk.fr{w w':World}{b N:Nat}{c:Nat->Value}(h:Blk w b N c){F:Nat->Prop}(f:Fr F w w')(hb:¬F b):Blk w' b N c:=
 h.ofHeap (f.block b h.lt hb)
theorem Fr.cell{F:Nat->Prop}{w w':World}(f:Fr F w w'){p:Addr}(hp:p.block<w.heap.size)(hF:¬F p.block):w'.cell? p=w.cell? p:=
 World.cell?_of_block (w:=w) (f.block p.block hp hF)
theorem Fr.frozen{F:Nat->Prop}{w w':World}(f:Fr F w w'){p:Addr}(hp:p.block<w.heap.size)(hF:¬F p.block):w'.frozen? p=w.frozen? p:=
 World.frozen?_of_block (w:=w) (f.block p.block hp hF)
theorem qs{P:Program}{f:FuncId}{args:Array Value}{w:World}{n:Nat}{v:Value}
  (h:Calls P f args (w.drewN n) fun e w'=>e=.returned v∧w.drewN n=w'):Calls P f args (w.drewN n) fun e w''=>e=.returned v∧∃m,w''=w.drewN m:=
 h.mono fun _ _ ⟨he,hm⟩=>⟨he,n,hm.symm⟩
theorem wpw{φ:Act->World->Prop}{a:Act}{w:World}(h:∀w',w'=w->φ a w'):φ a w:=h w rfl
def SlC(w:World)(size:Nat)(v:Value)(m:Nat)(news:List Value):Prop:=
 ∃a c,v=.slice a m c∧news.length=m*size∧(∀u∈news,u.oneCell'=true)∧m<=c∧c<=maxLen∧
  ((a=none∧c=0)∨∃b off,a=some ⟨b,off,none⟩∧b<w.heap.size∧∀(j:Nat) (u:Value),news[j]?=some u->w.cell? ⟨b,off+j,none⟩=some u)
theorem SlC.fr{w w':World}{size m:Nat}{v:Value}{news:List Value}(h:SlC w size v m news){G:Nat->Prop}(f:Fr G w w')(hG:∀b,v.ownBlock=some b->¬G b):SlC w' size v m news:=by
 obtain⟨a,c,rfl,h1,h2,h3,h4,h5⟩:=h;refine⟨a,c,rfl,h1,h2,h3,h4,h5.imp id ?_⟩;rintro⟨b,off,rfl,hb,hc⟩;exact⟨b,off,rfl,Nat.lt_of_lt_of_le hb f.size,fun j u hj=>by rw[f.cell (p:=⟨b,off+j,none⟩) hb (hG b rfl)];exact hc j u hj⟩
theorem SlC.keep{w w':World}{size m:Nat}{v:Value}{news:List Value}(h:SlC w size v m news)(f:Fr NoF w w'):SlC w' size v m news:=h.fr f (fun _ _ q=>q)
theorem SlC.nil(w:World)(size:Nat):SlC w size (.slice none 0 0) 0 []:=⟨none,0,rfl,by simp,by simp,by omega,by unfold maxLen;omega,.inl ⟨rfl,rfl⟩⟩
theorem SlC.ofOwn{w:World}{base e size:Nat}{v:Value}{n:Nat}{xs:List Value}(h:w.ownsRow base e size v n xs)(h1:∀u∈xs,u.oneCell'=true):SlC w size v n xs:=by
 obtain⟨hl,h2⟩:=h;rcases h2 with⟨rfl,h2⟩|⟨g,cap,cur,rfl,hg,hh,h3,h4,h5,h6⟩
 .subst h2
  have:xs=[]:=List.eq_nil_of_length_eq_zero (by simpa using hl);subst this;exact SlC.nil w size
 .refine⟨_,cap,rfl,hl,h1,h3,h4,.inr ⟨g,0,rfl,?_,?_⟩⟩
  .rcases Nat.lt_or_ge g w.heap.size with h'|h'
   .exact h'
   .simp[Array.getElem?_eq_none h']at hh
  .intro j u hj
   have hjl:j<xs.length:=(List.getElem?_eq_some_iff.1 hj).1;rw[<-h6,List.getElem?_take,if_pos (by omega)]at hj;simpa[World.cell?,hh]using hj
theorem ownBlock_own{w:World}{base e size:Nat}{v:Value}{n:Nat}{xs:List Value}(h:w.ownsRow base e size v n xs):∀b,v.ownBlock=some b->base<=b:=by
 obtain⟨_,h2⟩:=h;rcases h2 with⟨rfl,_⟩|⟨g,cap,cur,rfl,hg,_⟩
 .intro b hb;cases hb
 .intro b hb;simp[Value.ownBlock]at hb;omega
theorem SlC.cut{w:World}{size m:Nat}{v:Value}{news:List Value}(h:SlC w size v m news){lo hi:Nat}(h1:lo<=hi)(h2:hi<=m){a:Option Addr}{c:Nat}(hv:v=.slice a m c)(hlc:lo<c):
  ∃b off,a=some ⟨b,off,none⟩∧SlC w size (.slice (some ⟨b,off+lo*size,none⟩) (hi-lo) (c-lo)) (hi-lo) ((news.drop (lo*size)).take ((hi-lo)*size)):=by
 obtain⟨a',c',rfl,l1,l2,l3,l4,l5⟩:=h;simp only[Value.slice.injEq]at hv;obtain⟨rfl,_,rfl⟩:=hv;rcases l5 with⟨rfl,rfl⟩|⟨b,off,rfl,hb,hc⟩
 .omega
 .refine⟨b,off,rfl,_,_,rfl,?_,fun u hu=>l2 u (List.mem_of_mem_drop (List.mem_of_mem_take hu)),by omega,by omega,.inr ⟨b,_,rfl,hb,fun j u hj=>?_⟩⟩
  .have q1:(hi-lo)*size=hi*size-lo*size:=Nat.sub_mul ..
   have q2:lo*size<=hi*size:=Nat.mul_le_mul_right _ h1;have q3:hi*size<=m*size:=Nat.mul_le_mul_right _ h2;rw[List.length_take,List.length_drop,l1];omega
  .rw[List.getElem?_take]at hj
   split at hj
   .rw[List.getElem?_drop]at hj
    rw[Nat.add_assoc];exact hc _ u hj
   .cases hj
structure EI(P:Program)(t e:TypeId)(size bytes:Nat):Prop where
 ex:P.underlying t=some (.slice e)∧∃i z,P.info? e=some i∧i.zero=some z∧i.size=size∧i.bytes=bytes∧z.cells.size=size∧0<size
theorem own_new{w w0:World}(hf:w0.heap.size<=w.heap.size)(cs:Array Value)(e size n g:Nat)(hg:g=w.heap.size)(hs:cs.size=n*size)(hm:n<=maxLen):(w.alloc (.cells cs e)).ownsRow w0.heap.size e size (.slice (some ⟨g,0,none⟩) n n) n cs.toList:=by
 subst hg;exact⟨by simp[hs],.inr ⟨w.heap.size,n,cs,rfl,hf,heap_alloc_new _ _ _ rfl,Nat.le_refl _,hm,hs,by rw[List.take_of_length_le (by simp[hs])]⟩⟩
theorem own_keep{w w':World}{base e size:Nat}{v:Value}{n:Nat}{xs:List Value}(h:w.ownsRow base e size v n xs){G:Nat->Prop}(f:Fr G w w')(hG:∀b,v.ownBlock=some b->¬G b):w'.ownsRow base e size v n xs:=by
 obtain⟨h1,h2⟩:=h;refine⟨h1,h2.imp id ?_⟩;rintro⟨g,cap,cur,rfl,hg,hh,r⟩
 have hl:g<w.heap.size:=by
  rcases Nat.lt_or_ge g w.heap.size with h'|h'
  .exact h'
  .simp[Array.getElem?_eq_none h']at hh
 exact⟨g,cap,cur,rfl,hg,by rw[f.block g hl (hG g rfl)];exact hh,r⟩
theorem heap_drew(w:World):w.drew.heap=w.heap:=rfl
theorem heap_step(w:World)(o o':Obj)(k:Nat)(h:w.heap[k]?=some o'):(w.alloc o).heap[k]?=some o':=by
 rw[Below.heap_alloc w o k ?_];exact h;rcases Nat.lt_or_ge k w.heap.size with h'|h'
 .exact h'
 .simp[Array.getElem?_eq_none h']at h
theorem sl_heap{w:World}{g n e size:Nat}{cs:Array Value}(hh:w.heap[g]?=some (.cells cs e (0,0)))(hs:cs.size=n*size)(hm:n<=maxLen)(h1:∀u∈cs.toList,u.oneCell'=true):
  SlC w size (.slice (some ⟨g,0,none⟩) n n) n cs.toList:=by
 have hl:g<w.heap.size:=by
  rcases Nat.lt_or_ge g w.heap.size with h'|h'
  .exact h'
  .simp[Array.getElem?_eq_none h']at hh
 refine⟨_,n,rfl,by simp[hs],h1,Nat.le_refl _,hm,.inr ⟨g,0,rfl,hl,fun j u hj=>?_⟩⟩;simpa[World.cell?,hh]using hj
theorem run_appB{P:Program}{t e size bytes:Nat}(hE:EI P t e size bytes){base:Nat}{w:World}(hbase:base<=w.heap.size)(ty:TypeId){v:Value}{n:Nat}{xs:List Value}(hown:w.ownsRow base e size v n xs)
  {sv:Value}{m:Nat}{news:List Value}(hsrc:SlC w size sv m news)(h63:n+m<=maxLen)(hb:(n+m)*bytes<=140737488355328):
  ∃v' w',(Builtin.append_ #[t,t] ty #[v,sv]).run P w=.ok v' w'∧w'.ownsRow base e size v' (n+m) (xs++news)∧Fr (fun b=>v.ownBlock=some b) w w'∧∀b,v'.ownBlock=some b->v.ownBlock=some b∨w.heap.size<=b:=by
 obtain⟨ht,i,z,hi,hz,hsize,hby,hzs,hsz⟩:=hE.ex;obtain⟨a,c,rfl,l1,l2,l3,l4,l5⟩:=hsrc;rcases l5 with⟨rfl,rfl⟩|⟨b,off,rfl,hb',hc⟩
 .obtain rfl:m=0:=by omega
  have:news=[]:=List.eq_nil_of_length_eq_zero (by simpa using l1);subst this;exact⟨v,w,run_append_owned_none (P:=P) w base t ty e i size ht hi v n xs hown,by simpa using hown,Fr.refl _ _,fun b hb=>.inl hb⟩
 .obtain⟨v',w',hr,h2,h3,_,h4⟩:=run_append_own_at (P:=P) w base t ty e i z size bytes ht hi hz hsize hby hzs hsz v n xs hown ⟨b,off,none⟩ m c news l1
   (fun j u hj=>by
    have:({block:=b,off:=off,spot:=none}:Addr).add j=⟨b,off+j,none⟩:=by
     cases j with
     |zero=>rfl
     |succ j=>simp[Addr.add]
    rw[this];exact hc j u hj) l2 h63 hb hbase
  refine⟨v',w',hr,h2,(Fr.refl _ w).grown h3 (fun k hk=>.inl hk),fun b hb=>?_⟩;rcases h4 with h4|h4
  .exact .inl (h4▸hb)
  .rw[h4]at hb;right;have:=Option.some.inj hb;omega
section
variable{P:Program}{t e size bytes:Nat}{base:Nat}{w:World}{ops:Array Oper}{o:Oper}{a:Act}{Q:Exit->Act->World->Prop}
theorem wp_appB{K:Act->World->Prop}(hE:EI P t e size bytes)(s x:Operand)(ho:o.op=.call {callee:=.builtin .append,args:=#[s,x],argTypes:=#[t,t]}){v sv:Value}(hs:a.eval s=v)(hx:a.eval x=sv)(hbase:base<=w.heap.size)
  {n:Nat}{xs:List Value}(hown:w.ownsRow base e size v n xs){m:Nat}{news:List Value}(hsrc:SlC w size sv m news)
  (h63:n+m<=maxLen)(hb:(n+m)*bytes<=140737488355328)
  (h:∀v' w',w'.ownsRow base e size v' (n+m) (xs++news)->Fr (fun b=>v.ownBlock=some b) w w'->(∀b,v'.ownBlock=some b->v.ownBlock=some b∨w.heap.size<=b)->K (a.put o.dst v') w'):o.wp P a w K Q:=by
 obtain⟨v',w',hr,h2,h3,h4⟩:=run_appB hE hbase o.type hown hsrc h63 hb;unfold Oper.wp execOp;simp only[ho,resolve,invoke,builtin,Sem.run_bind,Sem.run_pure,Result.andThen_ok,List.map_toArray,List.map_cons,List.map_nil,hs,hx,hr];exact h v' w' h2 h3 h4
theorem appLB{rest:List Oper}(hE:EI P t e size bytes)(hgd:o.guard=none)(s x:Operand)(ho:o.op=.call {callee:=.builtin .append,args:=#[s,x],argTypes:=#[t,t]}){v sv:Value}(hs:a.eval s=v)(hx:a.eval x=sv)(hbase:base<=w.heap.size)
  {n:Nat}{xs:List Value}(hown:w.ownsRow base e size v n xs){m:Nat}{news:List Value}(hsrc:SlC w size sv m news)
  (h63:n+m<=maxLen)(hb:(n+m)*bytes<=140737488355328)
  (h:∀v' w',w'.ownsRow base e size v' (n+m) (xs++news)->Fr (fun b=>v.ownBlock=some b) w w'->(∀b,v'.ownBlock=some b->v.ownBlock=some b∨w.heap.size<=b)->wpList P ops Q rest (a.put o.dst v') w'):wpList P ops Q (o::rest) a w:=
 wpList_plain hgd fun _ hK=>wp_appB hE s x ho hs hx hbase hown hsrc h63 hb fun v' w' h2 h3 h4=>hK _ _ (h v' w' h2 h3 h4)
theorem appSB{K:Act->World->Prop}{E:Prop}(hE:EI P t e size bytes)(hgd:o.guard=none)(s x:Operand)(ho:o.op=.call {callee:=.builtin .append,args:=#[s,x],argTypes:=#[t,t]}){v sv:Value}(hs:a.eval s=v)(hx:a.eval x=sv)(hbase:base<=w.heap.size)
  {n:Nat}{xs:List Value}(hown:w.ownsRow base e size v n xs){m:Nat}{news:List Value}(hsrc:SlC w size sv m news)
  (h63:n+m<=maxLen)(hb:(n+m)*bytes<=140737488355328)
  (h:∀v' w',w'.ownsRow base e size v' (n+m) (xs++news)->Fr (fun b=>v.ownBlock=some b) w w'->(∀b,v'.ownBlock=some b->v.ownBlock=some b∨w.heap.size<=b)->K (a.put o.dst v') w'):
  if Region.wanted o (yielded ops a.tmps)=true then Oper.wp P o a w K Q else E:=by
 have hw:Region.wanted o (yielded ops a.tmps)=true:=by simp[Region.wanted,hgd]
 rw[if_pos hw];exact wp_appB hE s x ho hs hx hbase hown hsrc h63 hb h
end
theorem SlC.at{w:World}{size m:Nat}{v:Value}{news:List Value}(h:SlC w size v m news){k:Nat}(hk:k<m)(hs:0<size):
  ∃b off c,v=.slice (some ⟨b,off,none⟩) m c∧m<=c∧c<=maxLen∧b<w.heap.size∧∀(j:Nat) (u:Value),news[j]?=some u->w.cell? ⟨b,off+j,none⟩=some u:=by
 obtain⟨a,c,rfl,l1,l2,l3,l4,l5⟩:=h;rcases l5 with⟨rfl,rfl⟩|⟨b,off,rfl,hb,hc⟩
 .omega
 .exact⟨b,off,c,rfl,l3,l4,hb,hc⟩
theorem SlC.shape{w:World}{size m:Nat}{v:Value}{news:List Value}(h:SlC w size v m news):∃a c,v=.slice a m c∧m<=c∧c<=maxLen:=by
 obtain⟨a,c,rfl,l1,l2,l3,l4,l5⟩:=h;exact⟨a,c,rfl,l3,l4⟩
def SlK(k:IntKind)(w:World)(v:Value)(l:List Nat):Prop:=SlC w 1 v l.length (l.map fun(x:Nat)=>Value.int k (x:Int))
theorem SlK.fr{k:IntKind}{w w':World}{v:Value}{l:List Nat}(h:SlK k w v l){G:Nat->Prop}(f:Fr G w w')(hG:∀b,v.ownBlock=some b->¬G b):SlK k w' v l:=SlC.fr h f hG
theorem SlK.at{k:IntKind}{w:World}{v:Value}{l:List Nat}(h:SlK k w v l){i:Nat}(hi:i<l.length):
  ∃b off c,v=.slice (some ⟨b,off,none⟩) l.length c∧l.length<=c∧c<=maxLen∧b<w.heap.size∧w.cell? ⟨b,off+i,none⟩=some (.int k (l[i]:Nat)):=by
 obtain⟨b,off,c,e,h1,h2,h3,h4⟩:=SlC.at h hi (by omega);exact⟨b,off,c,e,h1,h2,h3,h4 i _ (by simp[hi])⟩
theorem SlK.shape{k:IntKind}{w:World}{v:Value}{l:List Nat}(h:SlK k w v l):∃a c,v=.slice a l.length c∧l.length<=c∧c<=maxLen:=SlC.shape h
def OwK(k:IntKind)(base:Nat)(e:TypeId)(w:World)(v:Value)(l:List Nat):Prop:=w.ownsRow base e 1 v l.length (l.map fun(x:Nat)=>Value.int k (x:Int))
theorem OwK.sl{k:IntKind}{base:Nat}{e:TypeId}{w:World}{v:Value}{l:List Nat}(h:OwK k base e w v l):SlK k w v l:=
 SlC.ofOwn h (fun u hu=>by obtain⟨z,_,rfl⟩:=List.mem_map.1 hu;rfl)
theorem OwK.base{k:IntKind}{base:Nat}{e:TypeId}{w:World}{v:Value}{l:List Nat}(h:OwK k base e w v l):∀b,v.ownBlock=some b->base<=b:=ownBlock_own h
def bF(ev:Nat->Bool)(i:Nat):Value:=.bool (ev i)
theorem bF_set(ev:Nat->Bool)(i:Nat)(v:Bool):upd (bF ev) i (.bool v)=bF (upd ev i v):=by
 funext j
 by_cases e:j=i
 .subst e;simp[upd_same,bF]
 .rw[upd_other _ _ e];simp[bF,upd_other _ _ e]
theorem made_at{z:Array Value}{N i:Nat}(hi:i<N):(madeCells z N)[i]?=some z[i%z.size]!:=by
 unfold madeCells;rw[Array.getElem?_map,Array.getElem?_range,if_pos hi];rfl
end
end Go.Proofs.YtoenclhimbpfeaaGreatDoor
