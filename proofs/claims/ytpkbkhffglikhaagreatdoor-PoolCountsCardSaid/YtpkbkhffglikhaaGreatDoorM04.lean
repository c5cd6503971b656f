/- Part 4. -/
import Derived.Test.YtpkbkhffglikhaaGreatDoorM02
namespace Go.Proofs.YtpkbkhffglikhaaGreatDoor
set_option linter.all false
set_option maxHeartbeats 16000000
set_option maxRecDepth 100000
section
def par(k:Nat):Nat:=(k-1)/2
section
variable{α:Type}(lt:α->α->Bool)
def swp(a:Nat->α)(i j:Nat):Nat->α:=λk=>if k=i then a j else if k=j then a i else a k
theorem swp_mem{a:Nat->α}{i j n:Nat}(hi:i<n)(hj:j<n)(t:α):(∃k,k<n/\swp a i j k=t)↔∃k,k<n/\a k=t:=by
 constructor
 .rintro⟨k,hk,rfl⟩
  unfold swp
  split
  .exact⟨j,hj,rfl⟩
  .split
   .exact⟨i,hi,rfl⟩
   .exact⟨k,hk,rfl⟩
 .rintro⟨k,hk,rfl⟩
  by_cases e1:k=i
  .refine⟨j,hj,?_⟩
   unfold swp;by_cases e2:j=i
   .rw[if_pos e2,e1,e2]
   .rw[if_neg e2,if_pos rfl,e1]
  .by_cases e2:k=j
   .exact⟨i,hi,by unfold swp;rw[if_pos rfl,e2]⟩
   .exact⟨k,hk,by unfold swp;rw[if_neg e1,if_neg e2]⟩
def InjF{β:Type}(f:α->β)(a:Nat->α)(n:Nat):Prop:=∀k m,k<n->m<n->f (a k)=f (a m)->k=m
theorem swp_inj{β:Type}{f:α->β}{a:Nat->α}{i j n:Nat}(hi:i<n)(hj:j<n)(h:InjF f a n):InjF f (swp a i j) n:=by
 intro k m hk hm e
 have key:∀k,k<n->∃k',k'<n/\swp a i j k=a k'/\k'=(if k=i then j else if k=j then i else k):=by
  intro k hk;unfold swp
  split
  .exact⟨j,hj,rfl,rfl⟩
  .split
   .exact⟨i,hi,rfl,rfl⟩
   .exact⟨k,hk,rfl,rfl⟩
 obtain⟨k',h1,h2,h3⟩:=key k hk;obtain⟨m',h4,h5,h6⟩:=key m hm;rw[h2,h5]at e;have:=h k' m' h1 h4 e;rw[h3,h6]at this
 split at this<;>split at this<;>(try split at this)<;>(try split at this)<;>omega
def upF(a:Nat->α)(j:Nat):Nat->α:=
 if h:j=0 then a else if lt (a j) (a (par j))then upF (swp a (par j) j) (par j)else a
termination_by j
decreasing_by unfold par;omega
def least2(a:Nat->α)(n j1:Nat):Nat:=if j1+1<n/\lt (a (j1+1)) (a j1)=true then j1+1 else j1
theorem least2_le(a:Nat->α)(n j1:Nat):j1<=least2 lt a n j1/\least2 lt a n j1<=j1+1/\(j1<n->least2 lt a n j1<n):=by
 unfold least2;split
 .rename_i h;exact⟨by omega,by omega,λ_=>h.1⟩
 .exact⟨by omega,by omega,λh=>h⟩
def downF(n:Nat)(a:Nat->α)(i:Nat):(Nat->α)×Nat:=
 if h:n<=2*i+1 then(a,i)else if lt (a (least2 lt a n (2*i+1))) (a i)then downF n (swp a i (least2 lt a n (2*i+1))) (least2 lt a n (2*i+1))else(a,i)
termination_by n-i
decreasing_by have:=least2_le lt a n (2*i+1);omega
theorem up_mem{n:Nat}(t:α):∀(a:Nat->α) (j:Nat),j<n->((∃k,k<n/\upF lt a j k=t)↔∃k,k<n/\a k=t):=by
 intro a j
 induction j using Nat.strongRecOn generalizing a with
 |_ j ih=>
  intro hj;unfold upF
  split
  .rfl
  .split
   .have hp:par j<j:=by unfold par;omega
    rw[ih (par j) hp _ (by omega),swp_mem (by omega) hj]
   .rfl
theorem up_inj{β:Type}{f:α->β}{n:Nat}:∀(a:Nat->α) (j:Nat),j<n->InjF f a n->InjF f (upF lt a j) n:=by
 intro a j
 induction j using Nat.strongRecOn generalizing a with
 |_ j ih=>
  intro hj h;unfold upF
  split
  .exact h
  .split
   .have hp:par j<j:=by unfold par;omega
    exact ih (par j) hp _ (by omega) (swp_inj (by omega) hj h)
   .exact h
theorem up_out{n:Nat}:∀(a:Nat->α) (j:Nat),j<n->∀k,n<=k->upF lt a j k=a k:=by
 intro a j
 induction j using Nat.strongRecOn generalizing a with
 |_ j ih=>
  intro hj k hk;unfold upF
  split
  .rfl
  .split
   .have hp:par j<j:=by unfold par;omega
    rw[ih (par j) hp _ (by omega) k hk];unfold swp;rw[if_neg (by omega),if_neg (by omega)]
   .rfl
theorem down_mem{n:Nat}(t:α):∀(m:Nat) (a:Nat->α) (i:Nat),n-i<=m->i<n->((∃k,k<n/\(downF lt n a i).1 k=t)↔∃k,k<n/\a k=t):=by
 intro m
 induction m with
 |zero=>intro a i h1 h2;omega
 |succ m ih=>
  intro a i h1 h2;unfold downF
  split
  .rfl
  .rename_i hn
   split
   .have:=least2_le lt a n (2*i+1)
    rw[ih _ _ (by omega) (by omega),swp_mem h2 (by omega)]
   .rfl
theorem down_inj{β:Type}{f:α->β}{n:Nat}:∀(m:Nat) (a:Nat->α) (i:Nat),n-i<=m->i<n->InjF f a n->InjF f (downF lt n a i).1 n:=by
 intro m
 induction m with
 |zero=>intro a i h1 h2;omega
 |succ m ih=>
  intro a i h1 h2 h;unfold downF
  split
  .exact h
  .rename_i hn
   split
   .have:=least2_le lt a n (2*i+1)
    exact ih _ _ (by omega) (by omega) (swp_inj h2 (by omega) h)
   .exact h
theorem down_out{n:Nat}:∀(m:Nat) (a:Nat->α) (i:Nat),n-i<=m->i<n->∀k,n<=k->(downF lt n a i).1 k=a k:=by
 intro m
 induction m with
 |zero=>intro a i h1 h2;omega
 |succ m ih=>
  intro a i h1 h2 k hk;unfold downF
  split
  .rfl
  .rename_i hn
   split
   .have:=least2_le lt a n (2*i+1)
    rw[ih _ _ (by omega) (by omega) k hk];unfold swp;rw[if_neg (by omega),if_neg (by omega)]
   .rfl
theorem down_ge{n:Nat}:∀(m:Nat) (a:Nat->α) (i:Nat),n-i<=m->i<n->i<=(downF lt n a i).2/\((downF lt n a i).2=i->(downF lt n a i).1=a)/\(downF lt n a i).2<n:=by
 intro m
 induction m with
 |zero=>intro a i h1 h2;omega
 |succ m ih=>
  intro a i h1 h2;unfold downF
  split
  .exact⟨Nat.le_refl _,λ_=>rfl,h2⟩
  .rename_i hn
   split
   .have hl:=least2_le lt a n (2*i+1)
    have:=ih (swp a i (least2 lt a n (2*i+1))) (least2 lt a n (2*i+1)) (by omega) (by omega);exact⟨by omega,λe=>by omega,this.2.2⟩
   .exact⟨Nat.le_refl _,λ_=>rfl,h2⟩
structure Ord:Prop where
 ay:∀x y,lt x y=true->lt y x=false
 tr:∀x y z,lt y x=false->lt z y=false->lt z x=false
def IsHeap(a:Nat->α)(n:Nat):Prop:=∀k,0<k->k<n->lt (a k) (a (par k))=false
def UpHeap(a:Nat->α)(n j:Nat):Prop:=(∀k,0<k->k<n->¬k=j->lt (a k) (a (par k))=false)/\∀k,0<k->k<n->par k=j->0<j->lt (a k) (a (par j))=false
def GapHeap(a:Nat->α)(n j:Nat):Prop:=(∀k,0<k->k<n->¬k=j->¬par k=j->lt (a k) (a (par k))=false)/\∀k,0<k->k<n->par k=j->0<j->lt (a k) (a (par j))=false
variable{lt}
theorem Ord.irr(O:Ord lt)(x:α):lt x x=false:=by
 cases e:lt x x with
 |false=>rfl
 |true=>have:=O.ay x x e;rw[e]at this;exact this
theorem IsHeap.root(O:Ord lt){a:Nat->α}{n:Nat}(h:IsHeap lt a n):∀k,k<n->lt (a k) (a 0)=false:=by
 intro k
 induction k using Nat.strongRecOn with
 |_ k ih=>
  intro hk;by_cases e:k=0
  .rw[e];exact O.irr _
  .have hp:par k<k:=by unfold par;omega
   exact O.tr _ _ _ (ih (par k) hp (by omega)) (h k (by omega) hk)
theorem UpHeap.up(O:Ord lt){n:Nat}:∀(a:Nat->α) (j:Nat),j<n->UpHeap lt a n j->IsHeap lt (upF lt a j) n:=by
 intro a j
 induction j using Nat.strongRecOn generalizing a with
 |_ j ih=>
  intro hj h;unfold upF
  split
  .rename_i hj0
   intro k h1 h2;exact h.1 k h1 h2 (by omega)
  .rename_i hj0
   have hp:par j<j:=by unfold par;omega
   split
   .rename_i hlt
    refine ih (par j) hp _ (by omega) ⟨λk h1 h2 h3=>?_,λk h1 h2 h3 h4=>?_⟩
    ·
     by_cases e1:k=j
     .subst e1
      have:swp a (par k) k k=a (par k):=by unfold swp;rw[if_neg (by omega),if_pos rfl]
      have e2:swp a (par k) k (par k)=a k:=by unfold swp;rw[if_pos rfl]
      rw[this,e2];exact O.ay _ _ hlt
     .have ek:swp a (par j) j k=a k:=by unfold swp;rw[if_neg h3,if_neg e1]
      rw[ek];by_cases e2:par k=par j
      .have e3:swp a (par j) j (par k)=a j:=by unfold swp;rw[e2,if_pos rfl]
       rw[e3];have h5:=h.1 k h1 h2 e1;rw[e2]at h5;exact O.tr _ _ _ (O.ay _ _ hlt) h5
      .by_cases e4:par k=j
       .have e3:swp a (par j) j (par k)=a (par j):=by unfold swp;rw[e4,if_neg (by omega),if_pos rfl]
        rw[e3];exact h.2 k h1 h2 e4 (by omega)
       .have e3:swp a (par j) j (par k)=a (par k):=by unfold swp;rw[if_neg e2,if_neg e4]
        rw[e3];exact h.1 k h1 h2 e1
    ·
     have hpp:par (par j)<par j:=by unfold par at*;omega
     have e0:swp a (par j) j (par (par j))=a (par (par j)):=by unfold swp;rw[if_neg (by omega),if_neg (by omega)]
     rw[e0];have hg:=h.1 (par j) h4 (by omega) (by omega);by_cases e1:k=j
     .subst e1
      have:swp a (par k) k k=a (par k):=by unfold swp;rw[if_neg (by omega),if_pos rfl]
      rw[this];exact hg
     .have ek:swp a (par j) j k=a k:=by
       unfold swp;rw[if_neg,if_neg e1];intro e;rw[e]at h3;unfold par at*;omega
      rw[ek];have h5:=h.1 k h1 h2 e1;rw[h3]at h5;exact O.tr _ _ _ hg h5
   .rename_i hlt
    intro k h1 h2;by_cases e:k=j
    .rw[e];simpa using hlt
    .exact h.1 k h1 h2 e
theorem child{k i:Nat}(h:0<k)(e:par k=i):k=2*i+1\/k=2*i+2:=by unfold par at e;omega
theorem par_child(i:Nat):par (2*i+1)=i/\par (2*i+2)=i:=by unfold par;omega
theorem least2_min(O:Ord lt)(a:Nat->α){n j1:Nat}:(lt (a j1) (a (least2 lt a n j1))=false)/\(j1+1<n->lt (a (j1+1)) (a (least2 lt a n j1))=false):=by
 unfold least2
 split
 .rename_i h
  exact⟨O.ay _ _ h.2,λ_=>O.irr _⟩
 .rename_i h
  refine⟨O.irr _,λhn=>?_⟩
  cases e:lt (a (j1+1)) (a j1)with
  |false=>rfl
  |true=>exact(h ⟨hn,e⟩).elim
theorem GapHeap.down(O:Ord lt){n:Nat}:∀(m:Nat) (a:Nat->α) (i:Nat),n-i<=m->i<n->GapHeap lt a n i->
  ((downF lt n a i).2=i->UpHeap lt a n i)/\(¬(downF lt n a i).2=i->IsHeap lt (downF lt n a i).1 n)/\((i=0\/lt (a i) (a (par i))=false)->IsHeap lt (downF lt n a i).1 n):=by
 intro m
 induction m with
 |zero=>intro a i h1 h2;omega
 |succ m ih=>
  intro a i h1 h2 h
  have noKids:n<=2*i+1->UpHeap lt a n i:=by
   intro hn;refine⟨λk k1 k2 k3=>h.1 k k1 k2 k3 (λe=>?_),h.2⟩;rcases child k1 e with q|q<;>omega
  have fin:UpHeap lt a n i->(i=0\/lt (a i) (a (par i))=false)->IsHeap lt a n:=by
   intro hu hp k k1 k2;by_cases e:k=i
   .subst e;rcases hp with q|q
    .omega
    .exact q
   .exact hu.1 k k1 k2 e
  unfold downF
  split
  .rename_i hn
   exact⟨λ_=>noKids hn,λe=>(e rfl).elim,fin (noKids hn)⟩
  .rename_i hn
   have hl:=least2_le lt a n (2*i+1);have hmin:=least2_min O a (n:=n) (j1:=2*i+1);have hc:=par_child i;generalize hj:least2 lt a n (2*i+1)=j at*
   have hpj:par j=i:=by
    have:j=2*i+1\/j=2*i+2:=by omega
    rcases this with q|q<;>rw[q]
    .exact hc.1
    .exact hc.2
   have hkids:∀k,0<k->k<n->par k=i->lt (a k) (a j)=false:=by
    intro k k1 k2 k3;rcases child k1 k3 with q|q
    .rw[q];exact hmin.1
    .rw[q];exact hmin.2 (by omega)
   split
   .rename_i hlt
    have hg:GapHeap lt (swp a i j) n j:=by
     refine⟨λk k1 k2 k3 k4=>?_,λk k1 k2 k3 k4=>?_⟩
     .by_cases e1:k=i
      .subst e1
       have ei:swp a k j k=a j:=by unfold swp;rw[if_pos rfl]
       have ep:swp a k j (par k)=a (par k):=by unfold swp;rw[if_neg (by unfold par;omega),if_neg (by unfold par;omega)]
       rw[ei,ep];exact h.2 j (by omega) (by omega) hpj k1
      .have ek:swp a i j k=a k:=by unfold swp;rw[if_neg e1,if_neg k3]
       rw[ek];by_cases e2:par k=i
       .have ep:swp a i j (par k)=a j:=by unfold swp;rw[if_pos e2]
        rw[ep];exact hkids k k1 k2 e2
       .have ep:swp a i j (par k)=a (par k):=by unfold swp;rw[if_neg e2,if_neg k4]
        rw[ep];exact h.1 k k1 k2 e1 e2
     .have e1:¬k=i:=by unfold par at k3;omega
      have e2:¬k=j:=by unfold par at k3;omega
      have ek:swp a i j k=a k:=by unfold swp;rw[if_neg e1,if_neg e2]
      have ep:swp a i j (par j)=a j:=by unfold swp;rw[hpj,if_pos rfl]
      rw[ek,ep];have:=h.1 k k1 k2 e1 (by rw[k3];omega);rw[k3]at this;exact this
    have hrec:=ih (swp a i j) j (by omega) (by omega) hg;have hdg:=down_ge lt m (swp a i j) j (n:=n) (by omega) (by omega)
    have hpar:lt (swp a i j j) (swp a i j (par j))=false:=by
     have ej:swp a i j j=a i:=by unfold swp;rw[if_neg (by omega),if_pos rfl]
     have ep:swp a i j (par j)=a j:=by unfold swp;rw[hpj,if_pos rfl]
     rw[ej,ep];exact O.ay _ _ hlt
    exact⟨λe=>by omega,λ_=>hrec.2.2 (.inr hpar),λ_=>hrec.2.2 (.inr hpar)⟩
   .rename_i hlt
    have hlt:lt (a j) (a i)=false:=by simpa using hlt
    have hu:UpHeap lt a n i:=by
     refine⟨λk k1 k2 k3=>?_,h.2⟩;by_cases e:par k=i
     .rw[e];exact O.tr _ _ _ hlt (hkids k k1 k2 e)
     .exact h.1 k k1 k2 k3 e
    exact⟨λ_=>hu,λe=>(e rfl).elim,fin hu⟩
end
end
section
open Go.Proofs.Tryz Go.RowKit
structure HeapSys{α:Type}(lt:α->α->Bool)(HR:World->(Nat->α)->Nat->(Nat->Prop)->Prop)(p:Addr)(enc:α->Value)(okP:(Nat->α)->Nat->α->Prop):Prop where
 fr:∀{w w':World} {a:Nat->α} {n:Nat} {F G:Nat->Prop},HR w a n F->Fr G w w'->(∀i,F i->¬G i)->HR w' a n F
 bd:∀{w:World} {a:Nat->α} {n:Nat} {F:Nat->Prop},HR w a n F->∀i,F i->i<w.heap.size
 small:∀{w:World} {a:Nat->α} {n:Nat} {F:Nat->Prop},HR w a n F->n<1000000
 len:∀{w:World} {a:Nat->α} {n:Nat} {F:Nat->Prop},HR w a n F->∃rv,(method 344 150 (.pointer (some p)) "Len").run prog w=.ok (130,rv) w/\Calls prog 130 #[rv] w λe w'=>e=.returned (.int .i64 (n:Nat))/\Fr NoF w w'
 less:∀{w:World} {a:Nat->α} {n:Nat} {F:Nat->Prop} {i j:Nat},HR w a n F->i<n->j<n->∃rv,(method 344 150 (.pointer (some p)) "Less").run prog w=.ok (131,rv) w/\Calls prog 131 #[rv,.int .i64 i,.int .i64 j] w λe w'=>e=.returned (.bool (lt (a i) (a j)))/\Fr NoF w w'
 swap:∀{w:World} {a:Nat->α} {n:Nat} {F:Nat->Prop} {i j:Nat},HR w a n F->i<n->j<n->∃rv,(method 344 150 (.pointer (some p)) "Swap").run prog w=.ok (132,rv) w/\Calls prog 132 #[rv,.int .i64 i,.int .i64 j] w λe w'=>e=.returned (.tuple #[])/\HR w' (swp a i j) n F/\Fr F w w'
 push:∀{w:World} {a:Nat->α} {n:Nat} {F:Nat->Prop} {t:α},HR w a n F->okP a n t->∃rv,(method 344 150 (.pointer (some p)) "Push").run prog w=.ok (241,rv) w/\Calls prog 241 #[rv,enc t] w λe w'=>e=.returned (.tuple #[])/\∃F',HR w' (upd a n t) (n+1) F'/\Fr F w w'/\∀i,F' i->F i\/w.heap.size<=i
 pop:∀{w:World} {a:Nat->α} {n:Nat} {F:Nat->Prop},HR w a (n+1) F->∃rv,(method 344 150 (.pointer (some p)) "Pop").run prog w=.ok (240,rv) w/\Calls prog 240 #[rv] w λe w'=>e=.returned (enc (a n))/\HR w' a n F/\Fr F w w'
section
variable{α:Type}{lt:α->α->Bool}{HR:World->(Nat->α)->Nat->(Nat->Prop)->Prop}{p:Addr}{enc:α->Value}{okP:(Nat->α)->Nat->α->Prop}(S:HeapSys lt HR p enc okP){w:World}{a:Nat->α}{n:Nat}{F:Nat->Prop}
include S
theorem up_walk(h:HR w a n F){j:Nat}(hj:j<n):Calls prog 90 #[.iface 150 (.pointer (some p)),.int .i64 j] w λe w'=>e=.returned (.tuple #[])/\HR w' (upF lt a j) n F/\Fr F w w':=by
 have hn:=S.small h;have HS:=Hd S;have HH:=Hd h;clear h S;go_enter func90,ntmps90;go_wp2
 go_loopg [1] j (λg v wr=>∃a':Nat->α,g<n/\v=.int .i64 g/\HR wr a' n F/\upF lt a' g=upF lt a j/\Fr F w wr)
 case atStart=>exact⟨a,hj,rfl,HH.out,rfl,Fr.refl _ _⟩
 case round=>
  obtain⟨a',hk,rfl,hr,he,hf⟩:=hrel;have HR1:=Hd hr;have HE:=Hd he;have HF:=Hd hf;clear hr he hf HH;by_cases h0:gk=0
  .have HU:Hid (upF lt a' gk=a'):=by unfold Hid;rw[upF,dif_pos h0]
   subst h0;go_wp2;go_returns;refine⟨rfl,?_,HF.out⟩;rw[<-HE.out,HU.out];exact HR1.out
  .have hp:((gk:Int)-1)/2=(par gk:Nat):=by unfold par;omega
   have hpk:par gk<gk:=by unfold par;omega
   have h1:1<=(gk:Int):=by omega
   have hne2:(((par gk:Nat):Int)==(gk:Int))=false:=by simp;omega
   have HUP:Hid (upF lt a' gk=if lt (a' gk) (a' (par gk))then upF lt (swp a' (par gk) gk) (par gk)else a'):=by
    unfold Hid;rw[upF,dif_neg h0]
   obtain⟨rv,hm,HC⟩:=HS.out.less (i:=gk) (j:=par gk) HR1.out hk (by omega);have HCL:=Hd HC
   have HSW:Hid (∀w',Fr NoF wr w'->∃rv,(method 344 150 (.pointer (some p)) "Swap").run prog w'=.ok (132,rv) w'/\Calls prog 132 #[rv,.int .i64 (par gk:Nat),.int .i64 gk] w' λe w''=>e=.returned (.tuple #[])/\HR w'' (swp a' (par gk) gk) n F/\Fr F w' w''):=by
    intro w' f;exact HS.out.swap (HS.out.fr HR1.out f (λ_ _ q=>q)) (by omega) hk
   generalize hq:par gk=q at*;have HQ:=Hd hq;clear hq HC h0
   cases hl:lt (a' gk) (a' q)with
   |false=>
    rw[hl]at HCL HUP;clear hl
    go_wp2_with fail
    refine HCL.out.mono ?_;clear HCL hm;rintro e w2⟨rfl,hf2⟩;have HF2:=Hd hf2;clear hf2;go_wp2;go_returns;refine⟨rfl,?_,HF.out.trans HF2.out (λ_ q=>q.elim)⟩;rw[<-HE.out,HUP.out];exact HS.out.fr HR1.out HF2.out (λ_ _ q=>q)
   |true=>
    rw[hl]at HCL HUP;clear hl
    go_wp2_with fail
    refine HCL.out.mono ?_;clear HCL hm;rintro e w2⟨rfl,hf2⟩;obtain⟨rv2,hm2,HC2⟩:=HSW.out w2 hf2;have HCS:=Hd HC2;have HF2:=Hd (HF.out.trans hf2 (λ_ q=>q.elim));clear hf2 HC2
    go_wp2_with fail
    refine HCS.out.mono ?_;clear HCS hm2;rintro e w3⟨rfl,hr3,hf3⟩;have HR3:=Hd (And.intro hr3 (HF2.out.trans hf3 (λi q=>.inl q)));clear hr3 hf3;go_wp2
    go_roundg q
    case measure=>omega
    case rel=>exact⟨swp a' q gk,by omega,rfl,HR3.out.1,by rw[<-HE.out,HUP.out];simp,HR3.out.2⟩
theorem down_walk{m:Nat}(h:HR w a m F)(hnm:n<=m){i:Nat}(hi:i<n):Calls prog 86 #[.iface 150 (.pointer (some p)),.int .i64 i,.int .i64 n] w λe w'=>e=.returned (.bool (decide (i<(downF lt n a i).2)))/\HR w' (downF lt n a i).1 m F/\Fr F w w':=by
 have hm0:=S.small h;have HS:=Hd S;have HH:=Hd h;clear h S;go_enter func86,ntmps86;go_wp2
 go_loopg [7] (n-i) (λg v wr=>∃(k:Nat) (a':Nat->α),k<n/\g=n-k/\v=.int .i64 k/\HR wr a' m F/\downF lt n a' k=downF lt n a i/\Fr F w wr)
 case atStart=>exact⟨i,a,hi,rfl,rfl,HH.out,rfl,Fr.refl _ _⟩
 case round=>
  obtain⟨k,a',hk,rfl,rfl,hr,he,hf⟩:=hrel;have HR1:=Hd hr;have HE:=Hd he;have HF:=Hd hf;clear hr he hf HH;by_cases h0:n<=2*k+1
  .have HU:Hid (downF lt n a' k=(a',k)):=by unfold Hid;rw[downF,dif_pos h0]
   go_wp2;go_returns;have hE:=HE.out;rw[HU.out]at hE;rw[<-hE];exact⟨by first|rfl|simp,HR1.out,HF.out⟩
  .have HDN0:Hid (downF lt n a' k=if lt (a' (least2 lt a' n (2*k+1))) (a' k)then downF lt n (swp a' k (least2 lt a' n (2*k+1))) (least2 lt a' n (2*k+1))else(a',k)):=by
    unfold Hid;rw[downF,dif_neg h0]
   have HLS:Hid (∀(j:Nat) (w':World),Fr NoF wr w'->j<n->k<n->∃rv,(method 344 150 (.pointer (some p)) "Less").run prog w'=.ok (131,rv) w'/\Calls prog 131 #[rv,.int .i64 j,.int .i64 k] w' λe w''=>e=.returned (.bool (lt (a' j) (a' k)))/\Fr NoF w' w''):=by
    intro j w' f h1 h2;exact HS.out.less (HS.out.fr HR1.out f (λ_ _ q=>q)) (by omega) (by omega)
   have HSW:Hid (∀(j:Nat) (w':World),Fr NoF wr w'->j<n->¬k=j->∃rv,(method 344 150 (.pointer (some p)) "Swap").run prog w'=.ok (132,rv) w'/\Calls prog 132 #[rv,.int .i64 k,.int .i64 j] w' λe w''=>e=.returned (.tuple #[])/\HR w'' (swp a' k j) m F/\Fr F w' w''):=by
    intro j w' f h1 h2;exact HS.out.swap (HS.out.fr HR1.out f (λ_ _ q=>q)) (by omega) (by omega)
   have j1:2*k+1<n:=by omega
   by_cases h2:2*k+1+1<n
   .obtain⟨rv,hm,HC⟩:=HS.out.less (i:=2*k+1+1) (j:=2*k+1) HR1.out (by omega) (by omega)
    have HCL:=Hd HC;clear HC
    cases hb:lt (a' (2*k+1+1)) (a' (2*k+1))with
    |true=>
     rw[hb]at HCL
     have HDN:Hid (downF lt n a' k=if lt (a' (2*k+1+1)) (a' k)then downF lt n (swp a' k (2*k+1+1)) (2*k+1+1)else(a',k)):=by
      have:least2 lt a' n (2*k+1)=2*k+1+1:=by unfold least2;rw[if_pos ⟨h2,hb⟩]
      have:=this▸HDN0.out;exact this
     clear hb HDN0
     go_wp2_with fail
     refine HCL.out.mono ?_;clear HCL hm;rintro e w2⟨rfl,hf2⟩;have HF2:=Hd hf2;clear hf2;obtain⟨rv1,hm1,HC1⟩:=HLS.out (2*k+1+1) w2 HF2.out h2 (by omega);have HCL1:=Hd HC1;clear HC1
     cases hl:lt (a' (2*k+1+1)) (a' k)with
     |false=>
      rw[hl]at HCL1 HDN;clear hl
      go_wp2_with fail
      refine HCL1.out.mono ?_;clear HCL1 hm1;rintro e w3⟨rfl,hf3⟩;have HF3:=Hd (HF2.out.trans hf3 (λ_ q=>q.elim));clear hf3;go_wp2;go_returns;have hE:=HE.out;rw[HDN.out]at hE;simp only[Bool.false_eq_true,if_false]at hE;refine⟨?_,?_,HF.out.trans HF3.out (λ_ q=>q.elim)⟩
      .rw[<-hE];first|rfl|simp
      .rw[<-hE];exact HS.out.fr HR1.out HF3.out (λ_ _ q=>q)
     |true=>
      rw[hl]at HCL1 HDN;clear hl
      go_wp2_with fail
      refine HCL1.out.mono ?_;clear HCL1 hm1;rintro e w3⟨rfl,hf3⟩;obtain⟨rv2,hm2,HC2⟩:=HSW.out (2*k+1+1) w3 (HF2.out.trans hf3 (λ_ q=>q.elim)) h2 (by omega);have HCS:=Hd HC2;have HF3:=Hd (HF.out.trans (HF2.out.trans hf3 (λ_ q=>q.elim)) (λ_ q=>q.elim));clear hf3 HC2
      go_wp2_with fail
      refine HCS.out.mono ?_;clear HCS hm2;rintro e w4⟨rfl,hr4,hf4⟩;have HR4:=Hd (And.intro hr4 (HF3.out.trans hf4 (λi q=>.inl q)));clear hr4 hf4;go_wp2
      go_roundg (n-((2*k+1+1)))
      case measure=>omega
      case rel=>exact⟨(2*k+1+1),swp a' k ((2*k+1+1)),h2,rfl,by first|rfl|go_num|(simp;done)|(congr 1;push_cast;omega),HR4.out.1,by rw[<-HE.out,HDN.out];simp,HR4.out.2⟩
    |false=>
     rw[hb]at HCL
     have HDN:Hid (downF lt n a' k=if lt (a' (2*k+1)) (a' k)then downF lt n (swp a' k (2*k+1)) (2*k+1)else(a',k)):=by
      have:least2 lt a' n (2*k+1)=2*k+1:=by unfold least2;rw[if_neg (λq=>by rw[hb]at q;cases q.2)]
      have:=this▸HDN0.out;exact this
     clear hb HDN0
     go_wp2_with fail
     refine HCL.out.mono ?_;clear HCL hm;rintro e w2⟨rfl,hf2⟩;have HF2:=Hd hf2;clear hf2;obtain⟨rv1,hm1,HC1⟩:=HLS.out (2*k+1) w2 HF2.out j1 (by omega);have HCL1:=Hd HC1;clear HC1
     cases hl:lt (a' (2*k+1)) (a' k)with
     |false=>
      rw[hl]at HCL1 HDN;clear hl
      go_wp2_with fail
      refine HCL1.out.mono ?_;clear HCL1 hm1;rintro e w3⟨rfl,hf3⟩;have HF3:=Hd (HF2.out.trans hf3 (λ_ q=>q.elim));clear hf3;go_wp2;go_returns;have hE:=HE.out;rw[HDN.out]at hE;simp only[Bool.false_eq_true,if_false]at hE;refine⟨?_,?_,HF.out.trans HF3.out (λ_ q=>q.elim)⟩
      .rw[<-hE];first|rfl|simp
      .rw[<-hE];exact HS.out.fr HR1.out HF3.out (λ_ _ q=>q)
     |true=>
      rw[hl]at HCL1 HDN;clear hl
      go_wp2_with fail
      refine HCL1.out.mono ?_;clear HCL1 hm1;rintro e w3⟨rfl,hf3⟩;obtain⟨rv2,hm2,HC2⟩:=HSW.out (2*k+1) w3 (HF2.out.trans hf3 (λ_ q=>q.elim)) j1 (by omega);have HCS:=Hd HC2;have HF3:=Hd (HF.out.trans (HF2.out.trans hf3 (λ_ q=>q.elim)) (λ_ q=>q.elim));clear hf3 HC2
      go_wp2_with fail
      refine HCS.out.mono ?_;clear HCS hm2;rintro e w4⟨rfl,hr4,hf4⟩;have HR4:=Hd (And.intro hr4 (HF3.out.trans hf4 (λi q=>.inl q)));clear hr4 hf4;go_wp2
      go_roundg (n-((2*k+1)))
      case measure=>omega
      case rel=>exact⟨(2*k+1),swp a' k ((2*k+1)),j1,rfl,by first|rfl|go_num|(simp;done)|(congr 1;push_cast;omega),HR4.out.1,by rw[<-HE.out,HDN.out];simp,HR4.out.2⟩
   .have HDN:Hid (downF lt n a' k=if lt (a' (2*k+1)) (a' k)then downF lt n (swp a' k (2*k+1)) (2*k+1)else(a',k)):=by
     have:least2 lt a' n (2*k+1)=2*k+1:=by unfold least2;rw[if_neg (λq=>h2 q.1)]
     have:=this▸HDN0.out;exact this
    clear HDN0;obtain⟨rv1,hm1,HC1⟩:=HLS.out (2*k+1) wr (Fr.refl NoF wr) j1 (by omega);have HCL1:=Hd HC1;clear HC1
    cases hl:lt (a' (2*k+1)) (a' k)with
    |false=>
     rw[hl]at HCL1 HDN;clear hl
     go_wp2_with fail
     refine HCL1.out.mono ?_;clear HCL1 hm1;rintro e w3⟨rfl,hf3⟩;have HF3:=Hd ((Fr.refl NoF wr).trans hf3 (λ_ q=>q.elim));clear hf3;go_wp2;go_returns;have hE:=HE.out;rw[HDN.out]at hE;simp only[Bool.false_eq_true,if_false]at hE;refine⟨?_,?_,HF.out.trans HF3.out (λ_ q=>q.elim)⟩
     .rw[<-hE];first|rfl|simp
     .rw[<-hE];exact HS.out.fr HR1.out HF3.out (λ_ _ q=>q)
    |true=>
     rw[hl]at HCL1 HDN;clear hl
     go_wp2_with fail
     refine HCL1.out.mono ?_;clear HCL1 hm1;rintro e w3⟨rfl,hf3⟩;obtain⟨rv2,hm2,HC2⟩:=HSW.out (2*k+1) w3 ((Fr.refl NoF wr).trans hf3 (λ_ q=>q.elim)) j1 (by omega);have HCS:=Hd HC2;have HF3:=Hd (HF.out.trans ((Fr.refl NoF wr).trans hf3 (λ_ q=>q.elim)) (λ_ q=>q.elim));clear hf3 HC2
     go_wp2_with fail
     refine HCS.out.mono ?_;clear HCS hm2;rintro e w4⟨rfl,hr4,hf4⟩;have HR4:=Hd (And.intro hr4 (HF3.out.trans hf4 (λi q=>.inl q)));clear hr4 hf4;go_wp2
     go_roundg (n-((2*k+1)))
     case measure=>omega
     case rel=>exact⟨(2*k+1),swp a' k ((2*k+1)),j1,rfl,by first|rfl|go_num|(simp;done)|(congr 1;push_cast;omega),HR4.out.1,by rw[<-HE.out,HDN.out];simp,HR4.out.2⟩
end
def popF{α:Type}(lt:α->α->Bool)(a:Nat->α)(n:Nat):Nat->α:=if n=0 then a else(downF lt n (swp a 0 n) 0).1
theorem down_zero(p:Addr)(w:World)(i:Nat)(hi:i<1000000):Calls prog 86 #[.iface 150 (.pointer (some p)),.int .i64 i,.int .i64 (0:Nat)] w λe w'=>e=.returned (.bool false)/\w=w':=by
 go_enter func86,ntmps86;go_wp2
 go_loopg [7] 1 (λg v wr=>g=1/\v=.int .i64 i/\w=wr)
 case atStart=>exact⟨rfl,rfl,rfl⟩
 case round=>
  obtain⟨rfl,rfl,rfl⟩:=hrel;go_wp2;go_returns;exact⟨by simp,rfl⟩
section
variable{α:Type}{lt:α->α->Bool}{HR:World->(Nat->α)->Nat->(Nat->Prop)->Prop}{p:Addr}{enc:α->Value}{okP:(Nat->α)->Nat->α->Prop}(S:HeapSys lt HR p enc okP){w:World}{a:Nat->α}{n:Nat}{F:Nat->Prop}
include S
theorem heap_push(h:HR w a n F){t:α}(ht:okP a n t):Calls prog 73 #[.iface 150 (.pointer (some p)),enc t] w λe w'=>e=.returned (.tuple #[])/\∃F',HR w' (upF lt (upd a n t) n) (n+1) F'/\Fr F w w'/\∀i,F' i->F i\/w.heap.size<=i:=by
 obtain⟨rv,hm,HC⟩:=S.push h ht;have HCL:=Hd HC;have HS:=Hd S;have hn:=S.small h;clear HC S h ht;generalize enc t=et at*;go_enter func73,ntmps73
 go_wp2_with fail
 refine HCL.out.mono ?_;clear HCL hm;rintro e w1⟨rfl,F1,hr1,hf1,hF1⟩;obtain⟨rv2,hm2,HC2⟩:=HS.out.len hr1;have HCL2:=Hd HC2;have HR1:=Hd (And.intro hr1 (And.intro hf1 hF1));clear HC2 hr1 hf1 hF1
 go_wp2_with fail
 refine HCL2.out.mono ?_;clear HCL2 hm2;rintro e w2⟨rfl,hf2⟩;have HU:=Hd (up_walk HS.out (HS.out.fr HR1.out.1 hf2 (λ_ _ q=>q)) (j:=n) (by omega));have HF2:=Hd hf2;clear hf2;have e1:((n+1:Nat):Int)-1=(n:Int):=by omega
 go_wp2_with fail
 refine HU.out.mono ?_;clear HU;rintro e w3⟨rfl,hr3,hf3⟩;have HR3:=Hd (And.intro hr3 hf3);clear hr3 hf3;go_wp2;go_returns;refine⟨rfl,F1,HR3.out.1,(HR1.out.2.1.trans HF2.out (λ_ q=>q.elim)).trans HR3.out.2 (λi q=>HR1.out.2.2 i q),HR1.out.2.2⟩
theorem heap_pop(h:HR w a (n+1) F):Calls prog 66 #[.iface 150 (.pointer (some p))] w λe w'=>e=.returned (enc (a 0))/\HR w' (popF lt a n) n F/\Fr F w w':=by
 have hn:=S.small h;obtain⟨rv,hm,HC⟩:=S.len h;have HCL:=Hd HC;have HS:=Hd S;have HH:=Hd h;have e1:((n+1:Nat):Int)-1=(n:Int):=by omega
 clear HC S h;go_enter func66,ntmps66
 go_wp2_with fail
 refine HCL.out.mono ?_;clear HCL hm;rintro e w1⟨rfl,hf1⟩;obtain⟨rv2,hm2,HC2⟩:=HS.out.swap (HS.out.fr HH.out hf1 (λ_ _ q=>q)) (i:=0) (j:=n) (by omega) (by omega);have HCL2:Hid (Calls prog 132 #[rv2,.int .i64 0,.int .i64 n] w1 λe w''=>e=.returned (.tuple #[])/\HR w'' (swp a 0 n) (n+1) F/\Fr F w1 w''):=HC2;have HF1:=Hd hf1;clear HC2 hf1
 go_wp2_with fail
 refine HCL2.out.mono ?_;clear HCL2 hm2;rintro e w2⟨rfl,hr2,hf2⟩
 have HD:Hid (∃q:Bool,Calls prog 86 #[.iface 150 (.pointer (some p)),.int .i64 0,.int .i64 n] w2 λe w'=>e=.returned (.bool q)/\HR w' (popF lt a n) (n+1) F/\Fr F w2 w'):=by
  unfold Hid popF;by_cases h0:n=0
  .subst h0
   rw[if_pos rfl];have hsw:swp a 0 0=a:=by funext k;unfold swp;by_cases e:k=0<;>simp[e]
   rw[hsw]at hr2;exact⟨_,(down_zero p w2 0 (by omega)).mono λe w' ⟨he,hw⟩=>⟨he,hw▸hr2,hw▸Fr.refl _ _⟩⟩
  .rw[if_neg h0]
   exact⟨_,(down_walk HS.out hr2 (n:=n) (by omega) (i:=0) (by omega)).mono λe w' ⟨he,h1,h2⟩=>⟨he,h1,h2⟩⟩
 have HF2:=Hd ((HF1.out.mono (λ_ q=>q.elim)).trans hf2 (λi q=>.inl q));clear hr2 hf2;obtain⟨q,hd⟩:=HD.out;have HD2:=Hd hd;clear hd HD
 go_wp2_with fail
 refine HD2.out.mono ?_;clear HD2;rintro e w3⟨rfl,hr3,hf3⟩;obtain⟨rv4,hm4,HC4⟩:=HS.out.pop hr3
 have HE:Hid (popF lt a n n=a 0):=by
  unfold Hid popF
  split
  .rename_i q;rw[q]
  .rw[down_out lt n (swp a 0 n) 0 (by omega) (by omega) n (Nat.le_refl _)]
   unfold swp;split
   .rename_i q;rw[q]
   .rw[if_pos rfl]
 have HCL4:=Hd HC4;have HF3:=Hd (HF2.out.trans hf3 (λi q=>.inl q));clear HC4 hr3 hf3
 go_wp2_with fail
 refine HCL4.out.mono ?_;clear HCL4 hm4;rintro e w4⟨rfl,hr4,hf4⟩;have HR4:=Hd (And.intro hr4 (HF3.out.trans hf4 (λi q=>.inl q)));clear hr4 hf4;rw[HE.out];generalize hET:enc (a 0)=et;have HET:=Hd hET;clear hET;go_wp2;go_returns;exact⟨by rw[HET.out];rfl,HR4.out⟩
end
end
section
open Go.RowKit
theorem run_underlying{P:Program}{t:TypeId}{d:TypeDesc}(w:World)(h:P.underlying t=some d):(underlying t).run P w=.ok d w:=by
 unfold underlying;simp[go_sem,h]
theorem method_value{P:Program}{fuel:Nat}{t e:TypeId}{i:TypeInfo}{f:FuncId}{v:Value}{p:Addr}{w:World}{name:String}(hi:P.info? t=some i)(hm:(i.methods.find? (λm=>m.name==name)).map (λm=>(m.path.toList,m.func))=some ([],some (f,false)))
  (hu:P.underlying t=some (.pointer e))(hagg:(isAgg e).run P w=.ok false w)(hc:w.cell? p=some v):(method (fuel+1) t (.pointer (some p)) name).run P w=.ok (f,v) w:=by
 obtain⟨m,hm1,hm2⟩:=Option.map_eq_some_iff.1 hm;simp only[Prod.mk.injEq]at hm2;obtain⟨hp,hf⟩:=hm2
 have hpe:m.path.isEmpty=true:=by
  have:m.path=#[]:=by apply Array.ext';rw[hp]
  rw[this];rfl
 unfold method;simp only[Sem.run_bind,run_typeInfo _ hi,Result.andThen_ok,hm1,hp,follow,Sem.run_pure,hf,receiverAt,run_underlying _ hu,Place.get,hpe,if_true];have hw:(Builtin.ssaWrapNilChk_ #[t] t #[.pointer (some p),strVal "",strVal ((name.splitOn ".").getLastD name)]).run P w=.ok (.pointer (some p)) w:=rfl
 have hl:(loadVar e p).run P w=.ok v w:=by
  unfold loadVar;rw[Sem.run_bind,hagg];simp[hc,go_sem]
 have ha:(asAddr (.pointer (some p))).run P w=.ok p w:=rfl;simp only[hw,Result.andThen_ok,ha,hl]
theorem method_ptr{P:Program}{fuel:Nat}{t e:TypeId}{i:TypeInfo}{f:FuncId}{p:Addr}{w:World}{name:String}(hi:P.info? t=some i)(hm:(i.methods.find? (λm=>m.name==name)).map (λm=>(m.path.toList,m.func))=some ([],some (f,true)))
  (hu:P.underlying t=some (.pointer e)):(method (fuel+1) t (.pointer (some p)) name).run P w=.ok (f,.pointer (some p)) w:=by
 obtain⟨m,hm1,hm2⟩:=Option.map_eq_some_iff.1 hm;simp only[Prod.mk.injEq]at hm2;obtain⟨hp,hf⟩:=hm2;unfold method;simp only[Sem.run_bind,run_typeInfo _ hi,Result.andThen_ok,hm1,hp,follow,Sem.run_pure,hf,receiverAt,run_underlying _ hu,Place.get]
theorem method_of{P:Program}{t:TypeId}{name:String}{f:FuncId}{b:Bool}(h:(P.info? t).bind (λi=>(i.methods.find? (λm=>m.name==name)).map (λm=>(m.path.toList,m.func)))=some ([],some (f,b))):
  ∃i,P.info? t=some i/\(i.methods.find? (λm=>m.name==name)).map (λm=>(m.path.toList,m.func))=some ([],some (f,b)):=Option.bind_eq_some_iff.1 h
end
section
open Go.Proofs.Tryz Go.RowKit
def ltN(x y:Nat):Bool:=decide (x<y)
theorem ltN_ord:Ord ltN:=⟨λx y h=>by unfold ltN at*;simp at*;omega,λx y z h1 h2=>by unfold ltN at*;simp at*;omega⟩
def encU(x:Nat):Value:=.iface 32 (.int .u32 (x:Nat))
def HRd(db:Nat)(hc:Nat->Value):World->(Nat->Nat)->Nat->(Nat->Prop)->Prop:=λw a n F=>∃fv,Blk w db 8 (upd hc 2 fv)/\SlF w 32 1 fv n (uN a)/\(∀b,fv.ownBlock=some b->¬b=db)/\n<1000000/\∀i,F i↔i=db\/fv.ownBlock=some i
section
variable{w w':World}{db n:Nat}{hc:Nat->Value}{a:Nat->Nat}{F:Nat->Prop}
theorem swap_uN(a:Nat->Nat)(i j:Nat):upd (upd (uN a) i (.int .u32 (a j:Nat))) j (.int .u32 (a i:Nat))=uN (swp a i j):=by
 funext k
 by_cases e1:k=j
 .subst e1;rw[upd_same];unfold uN swp;by_cases e2:k=i
  .rw[if_pos e2,e2]
  .rw[if_neg e2,if_pos rfl]
 .rw[upd_other _ _ e1]
  by_cases e2:k=i
  .subst e2;rw[upd_same];unfold uN swp;rw[if_pos rfl]
  .rw[upd_other _ _ e2];unfold uN swp;rw[if_neg e2,if_neg e1]
theorem id_len(v:Value)(ad:Option Addr)(c:Nat)(hv:v=.slice ad n c):Calls prog 130 #[v] w λe w'=>e=.returned (.int .i64 (n:Nat))/\w=w':=by
 subst hv;go_enter func130,ntmps130;go_wp2;go_returns;exact⟨rfl,rfl⟩
theorem id_less{v:Value}(h:SlF w 32 1 v n (uN a))(hn:n<1000000){i j:Nat}(hi:i<n)(hj:j<n):Calls prog 131 #[v,.int .i64 i,.int .i64 j] w λe w'=>e=.returned (.bool (ltN (a i) (a j)))/\∃d,w.drewN d=w':=by
 obtain⟨g,cap,rfl,h1,h2,h3,h4,h5⟩:=h.at (by omega);have ci:w.cell? ⟨g,i,none⟩=some (.int .u32 (a i:Nat)):=h5 i (by omega);have cj:w.cell? ⟨g,j,none⟩=some (.int .u32 (a j:Nat)):=h5 j (by omega);have HL:Hid (ltN (a i) (a j)=decide (a i<a j)):=rfl;rw[HL.out];generalize a i=x at*;generalize a j=y at*;clear h h4 h5 HL;go_enter func131,ntmps131;go_wp2
 go_quiet (fail)
 go_wp2;go_returns;exact⟨by simp,_,rfl⟩
theorem id_swap{g cap:Nat}(h:SlF w 32 1 (.slice (some ⟨g,0,none⟩) n cap) n (uN a))(hn:n<1000000){i j:Nat}(hi:i<n)(hj:j<n):Calls prog 132 #[.slice (some ⟨g,0,none⟩) n cap,.int .i64 i,.int .i64 j] w λe w'=>e=.returned (.tuple #[])/\SlF w' 32 1 (.slice (some ⟨g,0,none⟩) n cap) n (uN (swp a i j))/\Fr (λk=>k=g) w w':=by
 obtain⟨g',cap',e,h1,h2,h3,h4,h5⟩:=h.at (by omega);simp only[Value.slice.injEq,Option.some.injEq,Addr.mk.injEq]at e;obtain⟨⟨rfl,_⟩,_,rfl⟩:=e;have ci:w.cell? ⟨g,i,none⟩=some (.int .u32 (a i:Nat)):=h5 i (by omega);have cj:w.cell? ⟨g,j,none⟩=some (.int .u32 (a j:Nat)):=h5 j (by omega)
 have KEY:Hid (SlF (((w.setCell ⟨g,i,none⟩ (.int .u32 (a j:Nat))).setCell ⟨g,j,none⟩ (.int .u32 (a i:Nat))).drew) 32 1 (.slice (some ⟨g,0,none⟩) n cap) n (uN (swp a i j))/\Fr (λk=>k=g) w (((w.setCell ⟨g,i,none⟩ (.int .u32 (a j:Nat))).setCell ⟨g,j,none⟩ (.int .u32 (a i:Nat))).drew)):=by
  refine⟨?_,(((Fr.refl (λk=>k=g) w).setCell (p:=⟨g,i,none⟩) (.inl rfl) _).setCell (p:=⟨g,j,none⟩) (.inl rfl) _).drew⟩;rw[<-swap_uN a i j];exact((h.set (by omega) _).set (by omega) _).fr0 ((Fr.refl NoF _).drew)
 have f4:=h4;by_cases hij:i=j
 .subst hij
  generalize a i=x at*;clear h h4 h5 cj;go_enter func132,ntmps132;go_wp2
  go_region
  go_wp2;go_returns;exact⟨rfl,KEY.out⟩
 .have hji:¬j=i:=λe=>hij e.symm
  generalize a i=x at*;generalize a j=y at*;clear h h4 h5;go_enter func132,ntmps132;go_wp2
  go_region
  go_wp2;go_returns;exact⟨rfl,KEY.out⟩
theorem EIh:EI prog 74 32 1 4:=EI.mk' (z:=.int .u32 0) underlying74 (by kernel_rfl) rfl (by decide)
def okU(a:Nat->Nat)(n t:Nat):Prop:=n<900000
theorem id_push{fv:Value}(hb:Blk w db 8 (upd hc 2 fv))(hs:SlF w 32 1 fv n (uN a))(hd:∀b,fv.ownBlock=some b->¬b=db)(hn:n<900000)(t:Nat):Calls prog 241 #[.pointer (some ⟨db,2,none⟩),encU t] w λe w'=>e=.returned (.tuple #[])/\
  ∃fv',Blk w' db 8 (upd hc 2 fv')/\SlF w' 32 1 fv' (n+1) (uN (upd a n t))/\(∀b,fv'.ownBlock=some b->¬b=db/\(fv.ownBlock=some b\/w.heap.size<=b))/\Fr (λi=>i=db\/fv.ownBlock=some i) w w':=by
 have c2:w.cell? ⟨db,2,none⟩=some fv:=by have:=hb.cell (i:=2) (by omega);rw[upd_same]at this;exact this
 have f2:=hb.frozen 2;have lb:=hb.lt;obtain⟨va,vc,rfl,v1,v2⟩:=hs.shape;have HB:=Hd hb;have HS:=Hd hs;have HD:=Hd hd;unfold encU;have hta:∀W:World,(Instr.typeAssert (.iface 32 (.int .u32 (t:Nat))) 20 32 false).run prog W=.ok (.int .u32 (t:Nat)) W:=λW=>by kernel_rfl
 clear hb hs hd;go_enter func241,ntmps241;go_wp2
 go_region_law(first
  |(refine appSB (base:=0) EIh rfl (.tmp 7) (.tmp 10) rfl (by rfl) (by rfl) (Nat.zero_le _) (own_keep HS.out (by repeat(first|exact Fr.refl NoF _|apply Fr.drew|apply Fr.alloc)) (λ_ _ q=>q)) (sl_heap (size:=1) (n:=1) (cs:=#[.int .u32 (t:Nat)]) (by(try rw[heap_drew]);refine heap_alloc_new _ _ _ ?_;simp) (by rfl) (by unfold maxLen;omega) (by simp[Value.oneCell'])) (by unfold maxLen;omega) (by omega) ?_;intro v' w2 hown' hf' hob';obtain⟨a8,c8,rfl,_,_⟩:=(SlF.snoc1 hown').shape;have hfw:=Fr.trans (F:=λb=>(Value.slice va n vc).ownBlock=some b) (a:=w) (Fr.none (by repeat(first|exact Fr.refl NoF _|apply Fr.drew|apply Fr.alloc))) hf' (λi hi=>.inl hi);have hb2:=HB.out.fr hfw (λe=>HD.out db e rfl);have g2:w2.cell? ⟨db,2,none⟩=some (.slice va n vc):=(by have:=hb2.cell (i:=2) (by omega);rw[upd_same]at this;exact this);have gf:=hb2.frozen 2;have gl:=hb2.lt;have HO':=Hd hown';have HF':=Hd hfw;have HOB:=Hd hob';have HB2:=Hd hb2;clear hown' hf' hob' hfw hb2))
 all_goals
  go_wp2;go_returns;refine⟨rfl,.slice a8 (n+1) c8,?_,?_,λb hb=>⟨λe=>?_,?_⟩,HF'.out.mono (λi q=>.inr q)|>.setCell (p:=⟨db,2,none⟩) (.inl (.inl rfl)) _⟩
  .have h1:=HB2.out.set 2 (.slice a8 (n+1) c8)
   have e2:upd (upd hc 2 (.slice va n vc)) 2 (.slice a8 (n+1) c8)=upd hc 2 (.slice a8 (n+1) c8):=by funext i;unfold upd;split<;>rfl
   rw[e2]at h1;exact h1
  .have h1:=SlF.snoc1 HO'.out
   have e2:upd (uN a) n (.int .u32 (t:Nat))=uN (upd a n t):=uN_set a n t;rw[e2]at h1;refine h1.fr ((Fr.refl (λi=>i=db) w2).setCell (p:=⟨db,2,none⟩) (.inl rfl) _) (λb hb e=>?_);rcases HOB.out b hb with q|q
   .exact HD.out b q e
   .have:=HB.out.lt;simp at q;omega
  .rcases HOB.out b hb with q|q
   .exact HD.out b q e
   .have:=HB.out.lt;simp at q;omega
  .rcases HOB.out b hb with q|q
   .exact .inl q
   .right;simp at q;omega
theorem id_pop{fv:Value}(hb:Blk w db 8 (upd hc 2 fv))(hs:SlF w 32 1 fv (n+1) (uN a))(hd:∀b,fv.ownBlock=some b->¬b=db)(hn:n+1<1000000):Calls prog 240 #[.pointer (some ⟨db,2,none⟩)] w λe w'=>e=.returned (encU (a n))/\
  ∃fv',Blk w' db 8 (upd hc 2 fv')/\SlF w' 32 1 fv' n (uN a)/\(∀b,fv'.ownBlock=some b↔fv.ownBlock=some b)/\Fr (λi=>i=db) w w':=by
 have c2:w.cell? ⟨db,2,none⟩=some fv:=by have:=hb.cell (i:=2) (by omega);rw[upd_same]at this;exact this
 have f2:=hb.frozen 2;have lb:=hb.lt;obtain⟨g,cap,rfl,h1,h2,h3,h4,h5⟩:=hs.at (by omega);have cn:w.cell? ⟨g,n,none⟩=some (.int .u32 (a n:Nat)):=h5 n (by omega);unfold maxLen at h2
 have R:Hid (∃fv',(fv'=.slice (some ⟨g,0,none⟩) n cap)/\Blk (w.setCell ⟨db,2,none⟩ (.slice (some ⟨g,0,none⟩) n cap)) db 8 (upd hc 2 fv')/\SlF (w.setCell ⟨db,2,none⟩ (.slice (some ⟨g,0,none⟩) n cap)) 32 1 fv' n (uN a)/\(∀b,fv'.ownBlock=some b↔(Value.slice (some ⟨g,0,none⟩) (n+1) cap).ownBlock=some b)/\Fr (λi=>i=db) w (w.setCell ⟨db,2,none⟩ (.slice (some ⟨g,0,none⟩) n cap))):=by
  have f:Fr (λi=>i=db) w (w.setCell ⟨db,2,none⟩ (.slice (some ⟨g,0,none⟩) n cap)):=(Fr.refl (λi=>i=db) w).setCell (p:=⟨db,2,none⟩) (.inl rfl) _;refine⟨_,rfl,?_,(hs.cut (m:=n) (by omega)).fr f (λb hb=>hd b hb),λb=>Iff.rfl,f⟩;have h1:=hb.set 2 (.slice (some ⟨g,0,none⟩) n cap);have e2:upd (upd hc 2 (.slice (some ⟨g,0,none⟩) (n+1) cap)) 2 (.slice (some ⟨g,0,none⟩) n cap)=upd hc 2 (.slice (some ⟨g,0,none⟩) n cap):=by funext i;unfold upd;split<;>rfl
  rw[e2]at h1;exact h1
 unfold encU;generalize a n=x at*;clear hb hs hd h4 h5;go_enter func240,ntmps240;go_wp2;go_returns;obtain⟨fv',rfl,r⟩:=R.out;exact⟨rfl,_,r⟩
theorem idh_sys(db:Nat)(hc:Nat->Value):HeapSys ltN (HRd db hc) ⟨db,2,none⟩ encU okU where
 fr:=by
  rintro w w' a n F G⟨fv,hb,hs,hd,hn,hF⟩f hG;exact⟨fv,hb.fr f (hG db ((hF db).2 (.inl rfl))),hs.fr f (λb q=>hG b ((hF b).2 (.inr q))),hd,hn,hF⟩
 bd:=by
  rintro w a n F⟨fv,hb,hs,hd,hn,hF⟩i hi;rcases(hF i).1 hi with rfl|q
  .exact hb.lt
  .exact hs.lt i q
 small:=by
  rintro w a n F⟨fv,hb,hs,hd,hn,hF⟩;exact hn
 len:=by
  rintro w a n F⟨fv,hb,hs,hd,hn,hF⟩;obtain⟨i,hi,hm⟩:=method_of (P:=prog) (t:=150) (name:= "Len") (f:=130) (b:=false) (by kernel_rfl);have c2:w.cell? ⟨db,2,none⟩=some fv:=by have:=hb.cell (i:=2) (by omega);rw[upd_same]at this;exact this
  obtain⟨va,vc,e,_,_⟩:=hs.shape;exact⟨fv,method_value hi hm underlying150 (by kernel_rfl) c2,(id_len fv va vc e).mono λe w' ⟨he,hw⟩=>⟨he,hw▸Fr.refl _ _⟩⟩
 less:=by
  rintro w a n F i j⟨fv,hb,hs,hd,hn,hF⟩hi hj;obtain⟨ti,hti,hm⟩:=method_of (P:=prog) (t:=150) (name:= "Less") (f:=131) (b:=false) (by kernel_rfl);have c2:w.cell? ⟨db,2,none⟩=some fv:=by have:=hb.cell (i:=2) (by omega);rw[upd_same]at this;exact this
  exact⟨fv,method_value hti hm underlying150 (by kernel_rfl) c2,(id_less hs hn hi hj).mono λe w' ⟨he,d,hw⟩=>⟨he,hw▸(Fr.refl NoF w).drewN d⟩⟩
 swap:=by
  rintro w a n F i j⟨fv,hb,hs,hd,hn,hF⟩hi hj;obtain⟨ti,hti,hm⟩:=method_of (P:=prog) (t:=150) (name:= "Swap") (f:=132) (b:=false) (by kernel_rfl);have c2:w.cell? ⟨db,2,none⟩=some fv:=by have:=hb.cell (i:=2) (by omega);rw[upd_same]at this;exact this
  obtain⟨g,cap,rfl,_,_,_,_,_⟩:=hs.at (by omega);refine⟨_,method_value hti hm underlying150 (by kernel_rfl) c2,(id_swap hs hn hi hj).mono λe w' ⟨he,h1,h2⟩=>⟨he,⟨_,hb.fr h2 (λe=>hd g rfl e.symm),h1,hd,hn,hF⟩,h2.mono (λk q=>(hF k).2 (.inr (by rw[q];rfl)))⟩⟩
 push:=by
  rintro w a n F t⟨fv,hb,hs,hd,hn,hF⟩ht;obtain⟨ti,hti,hm⟩:=method_of (P:=prog) (t:=150) (name:= "Push") (f:=241) (b:=true) (by kernel_rfl);have ht:n<900000:=ht;refine⟨_,method_ptr hti hm underlying150,(id_push hb hs hd ht t).mono λe w' ⟨he,fv',h1,h2,h3,h4⟩=>⟨he,λi=>i=db\/fv'.ownBlock=some i,⟨fv',h1,h2,λb q=>(h3 b q).1,by omega,λi=>Iff.rfl⟩,h4.mono (λk q=>(hF k).2 q),λi q=>?_⟩⟩;rcases q with q|q
  .exact .inl ((hF i).2 (.inl q))
  .exact(h3 i q).2.imp (λq=>(hF i).2 (.inr q)) (λq=>q)
 pop:=by
  rintro w a n F⟨fv,hb,hs,hd,hn,hF⟩;obtain⟨ti,hti,hm⟩:=method_of (P:=prog) (t:=150) (name:= "Pop") (f:=240) (b:=true) (by kernel_rfl);exact⟨_,method_ptr hti hm underlying150,(id_pop hb hs hd hn).mono λe w' ⟨he,fv',h1,h2,h3,h4⟩=>⟨he,⟨fv',h1,h2,λb q=>hd b ((h3 b).1 q),by omega,λi=>by rw[hF,h3]⟩,h4.mono (λk q=>(hF k).2 (.inl q))⟩⟩
end
end
end Go.Proofs.YtpkbkhffglikhaaGreatDoor
