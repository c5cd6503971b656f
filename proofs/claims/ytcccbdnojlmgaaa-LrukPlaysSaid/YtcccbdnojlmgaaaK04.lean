/- Part 4. -/
import Derived.Test.YtcccbdnojlmgaaaK01
import Derived.Handy
import Derived.Deep.LoopGhost
import Derived.Lib.Hide
import Derived.Test.YtcccbdnojlmgaaaRows
namespace Go.Proofs.Ytcccbdnojlmgaaa
set_option linter.all false
set_option maxHeartbeats 16000000
set_option maxRecDepth 100000
section
def par(k:Nat):Nat:=(k-1)/2
section
variable{α:Type}(lt:α->α->Bool)
def swp(a:Nat->α)(i j:Nat):Nat->α:=fun k=>if k=i then a j else if k=j then a i else a k
theorem swp_mem{a:Nat->α}{i j n:Nat}(hi:i<n)(hj:j<n)(t:α):(∃k,k<n∧swp a i j k=t)↔∃k,k<n∧a k=t:=by
 constructor
 .rintro⟨k,hk,rfl⟩
  unfold swp
  split
  .exact⟨j,hj,rfl⟩
  .split
   .exact⟨i,hi,rfl⟩
   .exact⟨k,hk,rfl⟩
 .rintro⟨k,hk,rfl⟩
  by_cases e1:k=i
  .refine⟨j,hj,?_⟩
   unfold swp;by_cases e2:j=i
   .rw[if_pos e2,e1,e2]
   .rw[if_neg e2,if_pos rfl,e1]
  .by_cases e2:k=j
   .exact⟨i,hi,by unfold swp;rw[if_pos rfl,e2]⟩
   .exact⟨k,hk,by unfold swp;rw[if_neg e1,if_neg e2]⟩
def InjF{β:Type}(f:α->β)(a:Nat->α)(n:Nat):Prop:=∀k m,k<n->m<n->f (a k)=f (a m)->k=m
theorem swp_inj{β:Type}{f:α->β}{a:Nat->α}{i j n:Nat}(hi:i<n)(hj:j<n)(h:InjF f a n):InjF f (swp a i j) n:=by
 intro k m hk hm e
 have key:∀k,k<n->∃k',k'<n∧swp a i j k=a k'∧k'=(if k=i then j else if k=j then i else k):=by
  intro k hk;unfold swp
  split
  .exact⟨j,hj,rfl,rfl⟩
  .split
   .exact⟨i,hi,rfl,rfl⟩
   .exact⟨k,hk,rfl,rfl⟩
 obtain⟨k',h1,h2,h3⟩:=key k hk;obtain⟨m',h4,h5,h6⟩:=key m hm;rw[h2,h5]at e;have:=h k' m' h1 h4 e;rw[h3,h6]at this
 split at this<;>split at this<;>(try split at this)<;>(try split at this)<;>omega
def upF(a:Nat->α)(j:Nat):Nat->α:=
 if h:j=0 then a else if lt (a j) (a (par j))then upF (swp a (par j) j) (par j)else a
termination_by j
decreasing_by unfold par;omega
def least2(a:Nat->α)(n j1:Nat):Nat:=if j1+1<n∧lt (a (j1+1)) (a j1)=true then j1+1 else j1
theorem least2_le(a:Nat->α)(n j1:Nat):j1<=least2 lt a n j1∧least2 lt a n j1<=j1+1∧(j1<n->least2 lt a n j1<n):=by
 unfold least2;split
 .rename_i h;exact⟨by omega,by omega,fun _=>h.1⟩
 .exact⟨by omega,by omega,fun h=>h⟩
def downF(n:Nat)(a:Nat->α)(i:Nat):(Nat->α)×Nat:=
 if h:n<=2*i+1 then(a,i)else if lt (a (least2 lt a n (2*i+1))) (a i)then downF n (swp a i (least2 lt a n (2*i+1))) (least2 lt a n (2*i+1))else(a,i)
termination_by n-i
decreasing_by have:=least2_le lt a n (2*i+1);omega
theorem up_mem{n:Nat}(t:α):∀(a:Nat->α) (j:Nat),j<n->((∃k,k<n∧upF lt a j k=t)↔∃k,k<n∧a k=t):=by
 intro a j
 induction j using Nat.strongRecOn generalizing a with
 |_ j ih=>
  intro hj;unfold upF
  split
  .rfl
  .split
   .have hp:par j<j:=by unfold par;omega
    rw[ih (par j) hp _ (by omega),swp_mem (by omega) hj]
   .rfl
theorem up_out{n:Nat}:∀(a:Nat->α) (j:Nat),j<n->∀k,n<=k->upF lt a j k=a k:=by
 intro a j
 induction j using Nat.strongRecOn generalizing a with
 |_ j ih=>
  intro hj k hk;unfold upF
  split
  .rfl
  .split
   .have hp:par j<j:=by unfold par;omega
    rw[ih (par j) hp _ (by omega) k hk];unfold swp;rw[if_neg (by omega),if_neg (by omega)]
   .rfl
theorem down_mem{n:Nat}(t:α):∀(m:Nat) (a:Nat->α) (i:Nat),n-i<=m->i<n->((∃k,k<n∧(downF lt n a i).1 k=t)↔∃k,k<n∧a k=t):=by
 intro m
 induction m with
 |zero=>intro a i h1 h2;omega
 |succ m ih=>
  intro a i h1 h2;unfold downF
  split
  .rfl
  .rename_i hn
   split
   .have:=least2_le lt a n (2*i+1)
    rw[ih _ _ (by omega) (by omega),swp_mem h2 (by omega)]
   .rfl
theorem down_out{n:Nat}:∀(m:Nat) (a:Nat->α) (i:Nat),n-i<=m->i<n->∀k,n<=k->(downF lt n a i).1 k=a k:=by
 intro m
 induction m with
 |zero=>intro a i h1 h2;omega
 |succ m ih=>
  intro a i h1 h2 k hk;unfold downF
  split
  .rfl
  .rename_i hn
   split
   .have:=least2_le lt a n (2*i+1)
    rw[ih _ _ (by omega) (by omega) k hk];unfold swp;rw[if_neg (by omega),if_neg (by omega)]
   .rfl
theorem down_ge{n:Nat}:∀(m:Nat) (a:Nat->α) (i:Nat),n-i<=m->i<n->i<=(downF lt n a i).2∧((downF lt n a i).2=i->(downF lt n a i).1=a)∧(downF lt n a i).2<n:=by
 intro m
 induction m with
 |zero=>intro a i h1 h2;omega
 |succ m ih=>
  intro a i h1 h2;unfold downF
  split
  .exact⟨Nat.le_refl _,fun _=>rfl,h2⟩
  .rename_i hn
   split
   .have hl:=least2_le lt a n (2*i+1)
    have:=ih (swp a i (least2 lt a n (2*i+1))) (least2 lt a n (2*i+1)) (by omega) (by omega);exact⟨by omega,fun e=>by omega,this.2.2⟩
   .exact⟨Nat.le_refl _,fun _=>rfl,h2⟩
structure Ord:Prop where
 ay:∀x y,lt x y=true->lt y x=false
 tr:∀x y z,lt y x=false->lt z y=false->lt z x=false
def IsHeap(a:Nat->α)(n:Nat):Prop:=∀k,0<k->k<n->lt (a k) (a (par k))=false
def UpHeap(a:Nat->α)(n j:Nat):Prop:=(∀k,0<k->k<n->¬k=j->lt (a k) (a (par k))=false)∧∀k,0<k->k<n->par k=j->0<j->lt (a k) (a (par j))=false
def GapHeap(a:Nat->α)(n j:Nat):Prop:=(∀k,0<k->k<n->¬k=j->¬par k=j->lt (a k) (a (par k))=false)∧∀k,0<k->k<n->par k=j->0<j->lt (a k) (a (par j))=false
variable{lt}
theorem Ord.irr(O:Ord lt)(x:α):lt x x=false:=by
 cases e:lt x x with
 |false=>rfl
 |true=>have:=O.ay x x e;rw[e]at this;exact this
theorem IsHeap.root(O:Ord lt){a:Nat->α}{n:Nat}(h:IsHeap lt a n):∀k,k<n->lt (a k) (a 0)=false:=by
 intro k
 induction k using Nat.strongRecOn with
 |_ k ih=>
  intro hk;by_cases e:k=0
  .rw[e];exact O.irr _
  .have hp:par k<k:=by unfold par;omega
   exact O.tr _ _ _ (ih (par k) hp (by omega)) (h k (by omega) hk)
theorem UpHeap.up(O:Ord lt){n:Nat}:∀(a:Nat->α) (j:Nat),j<n->UpHeap lt a n j->IsHeap lt (upF lt a j) n:=by
 intro a j
 induction j using Nat.strongRecOn generalizing a with
 |_ j ih=>
  intro hj h;unfold upF
  split
  .rename_i hj0
   intro k h1 h2;exact h.1 k h1 h2 (by omega)
  .rename_i hj0
   have hp:par j<j:=by unfold par;omega
   split
   .rename_i hlt
    refine ih (par j) hp _ (by omega) ⟨fun k h1 h2 h3=>?_,fun k h1 h2 h3 h4=>?_⟩
    ·
     by_cases e1:k=j
     .subst e1
      have:swp a (par k) k k=a (par k):=by unfold swp;rw[if_neg (by omega),if_pos rfl]
      have e2:swp a (par k) k (par k)=a k:=by unfold swp;rw[if_pos rfl]
      rw[this,e2];exact O.ay _ _ hlt
     .have ek:swp a (par j) j k=a k:=by unfold swp;rw[if_neg h3,if_neg e1]
      rw[ek];by_cases e2:par k=par j
      .have e3:swp a (par j) j (par k)=a j:=by unfold swp;rw[e2,if_pos rfl]
       rw[e3];have h5:=h.1 k h1 h2 e1;rw[e2]at h5;exact O.tr _ _ _ (O.ay _ _ hlt) h5
      .by_cases e4:par k=j
       .have e3:swp a (par j) j (par k)=a (par j):=by unfold swp;rw[e4,if_neg (by omega),if_pos rfl]
        rw[e3];exact h.2 k h1 h2 e4 (by omega)
       .have e3:swp a (par j) j (par k)=a (par k):=by unfold swp;rw[if_neg e2,if_neg e4]
        rw[e3];exact h.1 k h1 h2 e1
    ·
     have hpp:par (par j)<par j:=by unfold par at*;omega
     have e0:swp a (par j) j (par (par j))=a (par (par j)):=by unfold swp;rw[if_neg (by omega),if_neg (by omega)]
     rw[e0];have hg:=h.1 (par j) h4 (by omega) (by omega);by_cases e1:k=j
     .subst e1
      have:swp a (par k) k k=a (par k):=by unfold swp;rw[if_neg (by omega),if_pos rfl]
      rw[this];exact hg
     .have ek:swp a (par j) j k=a k:=by
       unfold swp;rw[if_neg,if_neg e1];intro e;rw[e]at h3;unfold par at*;omega
      rw[ek];have h5:=h.1 k h1 h2 e1;rw[h3]at h5;exact O.tr _ _ _ hg h5
   .rename_i hlt
    intro k h1 h2;by_cases e:k=j
    .rw[e];simpa using hlt
    .exact h.1 k h1 h2 e
theorem child{k i:Nat}(h:0<k)(e:par k=i):k=2*i+1∨k=2*i+2:=by unfold par at e;omega
theorem par_child(i:Nat):par (2*i+1)=i∧par (2*i+2)=i:=by unfold par;omega
theorem least2_min(O:Ord lt)(a:Nat->α){n j1:Nat}:(lt (a j1) (a (least2 lt a n j1))=false)∧(j1+1<n->lt (a (j1+1)) (a (least2 lt a n j1))=false):=by
 unfold least2
 split
 .rename_i h
  exact⟨O.ay _ _ h.2,fun _=>O.irr _⟩
 .rename_i h
  refine⟨O.irr _,fun hn=>?_⟩
  cases e:lt (a (j1+1)) (a j1)with
  |false=>rfl
  |true=>exact(h ⟨hn,e⟩).elim
theorem GapHeap.down(O:Ord lt){n:Nat}:∀(m:Nat) (a:Nat->α) (i:Nat),n-i<=m->i<n->GapHeap lt a n i->
  ((downF lt n a i).2=i->UpHeap lt a n i)∧(¬(downF lt n a i).2=i->IsHeap lt (downF lt n a i).1 n)∧((i=0∨lt (a i) (a (par i))=false)->IsHeap lt (downF lt n a i).1 n):=by
 intro m
 induction m with
 |zero=>intro a i h1 h2;omega
 |succ m ih=>
  intro a i h1 h2 h
  have noKids:n<=2*i+1->UpHeap lt a n i:=by
   intro hn;refine⟨fun k k1 k2 k3=>h.1 k k1 k2 k3 (fun e=>?_),h.2⟩;rcases child k1 e with q|q<;>omega
  have fin:UpHeap lt a n i->(i=0∨lt (a i) (a (par i))=false)->IsHeap lt a n:=by
   intro hu hp k k1 k2;by_cases e:k=i
   .subst e;rcases hp with q|q
    .omega
    .exact q
   .exact hu.1 k k1 k2 e
  unfold downF
  split
  .rename_i hn
   exact⟨fun _=>noKids hn,fun e=>(e rfl).elim,fin (noKids hn)⟩
  .rename_i hn
   have hl:=least2_le lt a n (2*i+1);have hmin:=least2_min O a (n:=n) (j1:=2*i+1);have hc:=par_child i;generalize hj:least2 lt a n (2*i+1)=j at*
   have hpj:par j=i:=by
    have:j=2*i+1∨j=2*i+2:=by omega
    rcases this with q|q<;>rw[q]
    .exact hc.1
    .exact hc.2
   have hkids:∀k,0<k->k<n->par k=i->lt (a k) (a j)=false:=by
    intro k k1 k2 k3;rcases child k1 k3 with q|q
    .rw[q];exact hmin.1
    .rw[q];exact hmin.2 (by omega)
   split
   .rename_i hlt
    have hg:GapHeap lt (swp a i j) n j:=by
     refine⟨fun k k1 k2 k3 k4=>?_,fun k k1 k2 k3 k4=>?_⟩
     .by_cases e1:k=i
      .subst e1
       have ei:swp a k j k=a j:=by unfold swp;rw[if_pos rfl]
       have ep:swp a k j (par k)=a (par k):=by unfold swp;rw[if_neg (by unfold par;omega),if_neg (by unfold par;omega)]
       rw[ei,ep];exact h.2 j (by omega) (by omega) hpj k1
      .have ek:swp a i j k=a k:=by unfold swp;rw[if_neg e1,if_neg k3]
       rw[ek];by_cases e2:par k=i
       .have ep:swp a i j (par k)=a j:=by unfold swp;rw[if_pos e2]
        rw[ep];exact hkids k k1 k2 e2
       .have ep:swp a i j (par k)=a (par k):=by unfold swp;rw[if_neg e2,if_neg k4]
        rw[ep];exact h.1 k k1 k2 e1 e2
     .have e1:¬k=i:=by unfold par at k3;omega
      have e2:¬k=j:=by unfold par at k3;omega
      have ek:swp a i j k=a k:=by unfold swp;rw[if_neg e1,if_neg e2]
      have ep:swp a i j (par j)=a j:=by unfold swp;rw[hpj,if_pos rfl]
      rw[ek,ep];have:=h.1 k k1 k2 e1 (by rw[k3];omega);rw[k3]at this;exact this
    have hrec:=ih (swp a i j) j (by omega) (by omega) hg;have hdg:=down_ge lt m (swp a i j) j (n:=n) (by omega) (by omega)
    have hpar:lt (swp a i j j) (swp a i j (par j))=false:=by
     have ej:swp a i j j=a i:=by unfold swp;rw[if_neg (by omega),if_pos rfl]
     have ep:swp a i j (par j)=a j:=by unfold swp;rw[hpj,if_pos rfl]
     rw[ej,ep];exact O.ay _ _ hlt
    exact⟨fun e=>by omega,fun _=>hrec.2.2 (.inr hpar),fun _=>hrec.2.2 (.inr hpar)⟩
   .rename_i hlt
    have hlt:lt (a j) (a i)=false:=by simpa using hlt
    have hu:UpHeap lt a n i:=by
     refine⟨fun k k1 k2 k3=>?_,h.2⟩;by_cases e:par k=i
     .rw[e];exact O.tr _ _ _ hlt (hkids k k1 k2 e)
     .exact h.1 k k1 k2 k3 e
    exact⟨fun _=>hu,fun e=>(e rfl).elim,fin hu⟩
end
end
section
open Go.RowKit
structure HeapSys{α:Type}(lt:α->α->Bool)(HR:World->(Nat->α)->Nat->(Nat->Prop)->Prop)(p:Addr)(enc:α->Value)(okP:(Nat->α)->Nat->α->Prop):Prop where
 fr:∀{w w':World} {a:Nat->α} {n:Nat} {F G:Nat->Prop},HR w a n F->Fr G w w'->(∀i,F i->¬G i)->HR w' a n F
 bd:∀{w:World} {a:Nat->α} {n:Nat} {F:Nat->Prop},HR w a n F->∀i,F i->i<w.heap.size
 small:∀{w:World} {a:Nat->α} {n:Nat} {F:Nat->Prop},HR w a n F->n<1000000
 len:∀{w:World} {a:Nat->α} {n:Nat} {F:Nat->Prop},HR w a n F->∃rv,(method 266 100 (.pointer (some p)) "Len").run Try.prog w=.ok (52,rv) w∧Calls Try.prog 52 #[rv] w fun e w'=>e=.returned (.int .i64 (n:Nat))∧Fr NoF w w'
 less:∀{w:World} {a:Nat->α} {n:Nat} {F:Nat->Prop} {i j:Nat},HR w a n F->i<n->j<n->∃rv,(method 266 100 (.pointer (some p)) "Less").run Try.prog w=.ok (106,rv) w∧Calls Try.prog 106 #[rv,.int .i64 i,.int .i64 j] w fun e w'=>e=.returned (.bool (lt (a i) (a j)))∧Fr NoF w w'
 swap:∀{w:World} {a:Nat->α} {n:Nat} {F:Nat->Prop} {i j:Nat},HR w a n F->i<n->j<n->∃rv,(method 266 100 (.pointer (some p)) "Swap").run Try.prog w=.ok (109,rv) w∧Calls Try.prog 109 #[rv,.int .i64 i,.int .i64 j] w fun e w'=>e=.returned (.tuple #[])∧HR w' (swp a i j) n F∧Fr F w w'
 push:∀{w:World} {a:Nat->α} {n:Nat} {F:Nat->Prop} {t:α},HR w a n F->okP a n t->∃rv,(method 266 100 (.pointer (some p)) "Push").run Try.prog w=.ok (108,rv) w∧Calls Try.prog 108 #[rv,enc t] w fun e w'=>e=.returned (.tuple #[])∧∃F',HR w' (upd a n t) (n+1) F'∧Fr F w w'∧∀i,F' i->F i∨w.heap.size<=i
 pop:∀{w:World} {a:Nat->α} {n:Nat} {F:Nat->Prop},HR w a (n+1) F->∃rv,(method 266 100 (.pointer (some p)) "Pop").run Try.prog w=.ok (107,rv) w∧Calls Try.prog 107 #[rv] w fun e w'=>e=.returned (enc (a n))∧HR w' a n F∧Fr F w w'
section
variable{α:Type}{lt:α->α->Bool}{HR:World->(Nat->α)->Nat->(Nat->Prop)->Prop}{p:Addr}{enc:α->Value}{okP:(Nat->α)->Nat->α->Prop}(S:HeapSys lt HR p enc okP){w:World}{a:Nat->α}{n:Nat}{F:Nat->Prop}
include S
theorem up_walk(h:HR w a n F){j:Nat}(hj:j<n):Calls Try.prog 57 #[.iface 100 (.pointer (some p)),.int .i64 j] w fun e w'=>e=.returned (.tuple #[])∧HR w' (upF lt a j) n F∧Fr F w w':=by
 have hn:=S.small h;have HS:=Lib.hid S;have HH:=Lib.hid h;clear h S;go_enter Try.func57,Try.ntmps57;go_wp2
 go_loopg [1] j (fun g v wr=>∃a':Nat->α,g<n∧v=.int .i64 g∧HR wr a' n F∧upF lt a' g=upF lt a j∧Fr F w wr)
 case atStart=>exact⟨a,hj,rfl,HH.out,rfl,Fr.refl _ _⟩
 case round=>
  obtain⟨a',hk,rfl,hr,he,hf⟩:=hrel;have HR1:=Lib.hid hr;have HE:=Lib.hid he;have HF:=Lib.hid hf;clear hr he hf HH;by_cases h0:gk=0
  .have HU:Hid (upF lt a' gk=a'):=by unfold Hid;rw[upF,dif_pos h0]
   subst h0;go_wp2;go_returns;refine⟨rfl,?_,HF.out⟩;rw[<-HE.out,HU.out];exact HR1.out
  .have hp:((gk:Int)-1)/2=(par gk:Nat):=by unfold par;omega
   have hpk:par gk<gk:=by unfold par;omega
   have h1:1<=(gk:Int):=by omega
   have hne2:(((par gk:Nat):Int)==(gk:Int))=false:=by simp;omega
   have HUP:Hid (upF lt a' gk=if lt (a' gk) (a' (par gk))then upF lt (swp a' (par gk) gk) (par gk)else a'):=by
    unfold Hid;rw[upF,dif_neg h0]
   obtain⟨rv,hm,HC⟩:=HS.out.less (i:=gk) (j:=par gk) HR1.out hk (by omega);have HCL:=Lib.hid HC
   have HSW:Hid (∀w',Fr NoF wr w'->∃rv,(method 266 100 (.pointer (some p)) "Swap").run Try.prog w'=.ok (109,rv) w'∧Calls Try.prog 109 #[rv,.int .i64 (par gk:Nat),.int .i64 gk] w' fun e w''=>e=.returned (.tuple #[])∧HR w'' (swp a' (par gk) gk) n F∧Fr F w' w''):=by
    intro w' f;exact HS.out.swap (HS.out.fr HR1.out f (fun _ _ q=>q)) (by omega) hk
   generalize hq:par gk=q at*;have HQ:=Lib.hid hq;clear hq HC h0
   cases hl:lt (a' gk) (a' q)with
   |false=>
    rw[hl]at HCL HUP;clear hl
    go_wp2_with fail
    refine HCL.out.mono ?_;clear HCL hm;rintro e w2⟨rfl,hf2⟩;have HF2:=Lib.hid hf2;clear hf2;go_wp2;go_returns;refine⟨rfl,?_,HF.out.trans HF2.out (fun _ q=>q.elim)⟩;rw[<-HE.out,HUP.out];exact HS.out.fr HR1.out HF2.out (fun _ _ q=>q)
   |true=>
    rw[hl]at HCL HUP;clear hl
    go_wp2_with fail
    refine HCL.out.mono ?_;clear HCL hm;rintro e w2⟨rfl,hf2⟩;obtain⟨rv2,hm2,HC2⟩:=HSW.out w2 hf2;have HCS:=Lib.hid HC2;have HF2:=Lib.hid (HF.out.trans hf2 (fun _ q=>q.elim));clear hf2 HC2
    go_wp2_with fail
    refine HCS.out.mono ?_;clear HCS hm2;rintro e w3⟨rfl,hr3,hf3⟩;have HR3:=Lib.hid (And.intro hr3 (HF2.out.trans hf3 (fun i q=>.inl q)));clear hr3 hf3;go_wp2
    go_roundg q
    case measure=>omega
    case rel=>exact⟨swp a' q gk,by omega,rfl,HR3.out.1,by rw[<-HE.out,HUP.out];simp,HR3.out.2⟩
theorem down_walk{m:Nat}(h:HR w a m F)(hnm:n<=m){i:Nat}(hi:i<n):Calls Try.prog 56 #[.iface 100 (.pointer (some p)),.int .i64 i,.int .i64 n] w fun e w'=>e=.returned (.bool (decide (i<(downF lt n a i).2)))∧HR w' (downF lt n a i).1 m F∧Fr F w w':=by
 have hm0:=S.small h;have HS:=Lib.hid S;have HH:=Lib.hid h;clear h S;go_enter Try.func56,Try.ntmps56;go_wp2
 go_loopg [7] (n-i) (fun g v wr=>∃(k:Nat) (a':Nat->α),k<n∧g=n-k∧v=.int .i64 k∧HR wr a' m F∧downF lt n a' k=downF lt n a i∧Fr F w wr)
 case atStart=>exact⟨i,a,hi,rfl,rfl,HH.out,rfl,Fr.refl _ _⟩
 case round=>
  obtain⟨k,a',hk,rfl,rfl,hr,he,hf⟩:=hrel;have HR1:=Lib.hid hr;have HE:=Lib.hid he;have HF:=Lib.hid hf;clear hr he hf HH;by_cases h0:n<=2*k+1
  .have HU:Hid (downF lt n a' k=(a',k)):=by unfold Hid;rw[downF,dif_pos h0]
   go_wp2;go_returns;have hE:=HE.out;rw[HU.out]at hE;rw[<-hE];exact⟨by first|rfl|simp,HR1.out,HF.out⟩
  .have HDN0:Hid (downF lt n a' k=if lt (a' (least2 lt a' n (2*k+1))) (a' k)then downF lt n (swp a' k (least2 lt a' n (2*k+1))) (least2 lt a' n (2*k+1))else(a',k)):=by
    unfold Hid;rw[downF,dif_neg h0]
   have HLS:Hid (∀(j:Nat) (w':World),Fr NoF wr w'->j<n->k<n->∃rv,(method 266 100 (.pointer (some p)) "Less").run Try.prog w'=.ok (106,rv) w'∧Calls Try.prog 106 #[rv,.int .i64 j,.int .i64 k] w' fun e w''=>e=.returned (.bool (lt (a' j) (a' k)))∧Fr NoF w' w''):=by
    intro j w' f h1 h2;exact HS.out.less (HS.out.fr HR1.out f (fun _ _ q=>q)) (by omega) (by omega)
   have HSW:Hid (∀(j:Nat) (w':World),Fr NoF wr w'->j<n->¬k=j->∃rv,(method 266 100 (.pointer (some p)) "Swap").run Try.prog w'=.ok (109,rv) w'∧Calls Try.prog 109 #[rv,.int .i64 k,.int .i64 j] w' fun e w''=>e=.returned (.tuple #[])∧HR w'' (swp a' k j) m F∧Fr F w' w''):=by
    intro j w' f h1 h2;exact HS.out.swap (HS.out.fr HR1.out f (fun _ _ q=>q)) (by omega) (by omega)
   have j1:2*k+1<n:=by omega
   by_cases h2:2*k+1+1<n
   .obtain⟨rv,hm,HC⟩:=HS.out.less (i:=2*k+1+1) (j:=2*k+1) HR1.out (by omega) (by omega)
    have HCL:=Lib.hid HC;clear HC
    cases hb:lt (a' (2*k+1+1)) (a' (2*k+1))with
    |true=>
     rw[hb]at HCL
     have HDN:Hid (downF lt n a' k=if lt (a' (2*k+1+1)) (a' k)then downF lt n (swp a' k (2*k+1+1)) (2*k+1+1)else(a',k)):=by
      have:least2 lt a' n (2*k+1)=2*k+1+1:=by unfold least2;rw[if_pos ⟨h2,hb⟩]
      have:=this▸HDN0.out;exact this
     clear hb HDN0
     go_wp2_with fail
     refine HCL.out.mono ?_;clear HCL hm;rintro e w2⟨rfl,hf2⟩;have HF2:=Lib.hid hf2;clear hf2;obtain⟨rv1,hm1,HC1⟩:=HLS.out (2*k+1+1) w2 HF2.out h2 (by omega);have HCL1:=Lib.hid HC1;clear HC1
     cases hl:lt (a' (2*k+1+1)) (a' k)with
     |false=>
      rw[hl]at HCL1 HDN;clear hl
      go_wp2_with fail
      refine HCL1.out.mono ?_;clear HCL1 hm1;rintro e w3⟨rfl,hf3⟩;have HF3:=Lib.hid (HF2.out.trans hf3 (fun _ q=>q.elim));clear hf3;go_wp2;go_returns;have hE:=HE.out;rw[HDN.out]at hE;simp only[Bool.false_eq_true,if_false]at hE;refine⟨?_,?_,HF.out.trans HF3.out (fun _ q=>q.elim)⟩
      .rw[<-hE];first|rfl|simp
      .rw[<-hE];exact HS.out.fr HR1.out HF3.out (fun _ _ q=>q)
     |true=>
      rw[hl]at HCL1 HDN;clear hl
      go_wp2_with fail
      refine HCL1.out.mono ?_;clear HCL1 hm1;rintro e w3⟨rfl,hf3⟩;obtain⟨rv2,hm2,HC2⟩:=HSW.out (2*k+1+1) w3 (HF2.out.trans hf3 (fun _ q=>q.elim)) h2 (by omega);have HCS:=Lib.hid HC2;have HF3:=Lib.hid (HF.out.trans (HF2.out.trans hf3 (fun _ q=>q.elim)) (fun _ q=>q.elim));clear hf3 HC2
      go_wp2_with fail
      refine HCS.out.mono ?_;clear HCS hm2;rintro e w4⟨rfl,hr4,hf4⟩;have HR4:=Lib.hid (And.intro hr4 (HF3.out.trans hf4 (fun i q=>.inl q)));clear hr4 hf4;go_wp2
      go_roundg (n-((2*k+1+1)))
      case measure=>omega
      case rel=>exact⟨(2*k+1+1),swp a' k ((2*k+1+1)),h2,rfl,by first|rfl|go_num|(simp;done)|(congr 1;push_cast;omega),HR4.out.1,by rw[<-HE.out,HDN.out];simp,HR4.out.2⟩
    |false=>
     rw[hb]at HCL
     have HDN:Hid (downF lt n a' k=if lt (a' (2*k+1)) (a' k)then downF lt n (swp a' k (2*k+1)) (2*k+1)else(a',k)):=by
      have:least2 lt a' n (2*k+1)=2*k+1:=by unfold least2;rw[if_neg (fun q=>by rw[hb]at q;cases q.2)]
      have:=this▸HDN0.out;exact this
     clear hb HDN0
     go_wp2_with fail
     refine HCL.out.mono ?_;clear HCL hm;rintro e w2⟨rfl,hf2⟩;have HF2:=Lib.hid hf2;clear hf2;obtain⟨rv1,hm1,HC1⟩:=HLS.out (2*k+1) w2 HF2.out j1 (by omega);have HCL1:=Lib.hid HC1;clear HC1
     cases hl:lt (a' (2*k+1)) (a' k)with
     |false=>
      rw[hl]at HCL1 HDN;clear hl
      go_wp2_with fail
      refine HCL1.out.mono ?_;clear HCL1 hm1;rintro e w3⟨rfl,hf3⟩;have HF3:=Lib.hid (HF2.out.trans hf3 (fun _ q=>q.elim));clear hf3;go_wp2;go_returns;have hE:=HE.out;rw[HDN.out]at hE;simp only[Bool.false_eq_true,if_false]at hE;refine⟨?_,?_,HF.out.trans HF3.out (fun _ q=>q.elim)⟩
      .rw[<-hE];first|rfl|simp
      .rw[<-hE];exact HS.out.fr HR1.out HF3.out (fun _ _ q=>q)
     |true=>
      rw[hl]at HCL1 HDN;clear hl
      go_wp2_with fail
      refine HCL1.out.mono ?_;clear HCL1 hm1;rintro e w3⟨rfl,hf3⟩;obtain⟨rv2,hm2,HC2⟩:=HSW.out (2*k+1) w3 (HF2.out.trans hf3 (fun _ q=>q.elim)) j1 (by omega);have HCS:=Lib.hid HC2;have HF3:=Lib.hid (HF.out.trans (HF2.out.trans hf3 (fun _ q=>q.elim)) (fun _ q=>q.elim));clear hf3 HC2
      go_wp2_with fail
      refine HCS.out.mono ?_;clear HCS hm2;rintro e w4⟨rfl,hr4,hf4⟩;have HR4:=Lib.hid (And.intro hr4 (HF3.out.trans hf4 (fun i q=>.inl q)));clear hr4 hf4;go_wp2
      go_roundg (n-((2*k+1)))
      case measure=>omega
      case rel=>exact⟨(2*k+1),swp a' k ((2*k+1)),j1,rfl,by first|rfl|go_num|(simp;done)|(congr 1;push_cast;omega),HR4.out.1,by rw[<-HE.out,HDN.out];simp,HR4.out.2⟩
   .have HDN:Hid (downF lt n a' k=if lt (a' (2*k+1)) (a' k)then downF lt n (swp a' k (2*k+1)) (2*k+1)else(a',k)):=by
     have:least2 lt a' n (2*k+1)=2*k+1:=by unfold least2;rw[if_neg (fun q=>h2 q.1)]
     have:=this▸HDN0.out;exact this
    clear HDN0;obtain⟨rv1,hm1,HC1⟩:=HLS.out (2*k+1) wr (Fr.refl NoF wr) j1 (by omega);have HCL1:=Lib.hid HC1;clear HC1
    cases hl:lt (a' (2*k+1)) (a' k)with
    |false=>
     rw[hl]at HCL1 HDN;clear hl
     go_wp2_with fail
     refine HCL1.out.mono ?_;clear HCL1 hm1;rintro e w3⟨rfl,hf3⟩;have HF3:=Lib.hid ((Fr.refl NoF wr).trans hf3 (fun _ q=>q.elim));clear hf3;go_wp2;go_returns;have hE:=HE.out;rw[HDN.out]at hE;simp only[Bool.false_eq_true,if_false]at hE;refine⟨?_,?_,HF.out.trans HF3.out (fun _ q=>q.elim)⟩
     .rw[<-hE];first|rfl|simp
     .rw[<-hE];exact HS.out.fr HR1.out HF3.out (fun _ _ q=>q)
    |true=>
     rw[hl]at HCL1 HDN;clear hl
     go_wp2_with fail
     refine HCL1.out.mono ?_;clear HCL1 hm1;rintro e w3⟨rfl,hf3⟩;obtain⟨rv2,hm2,HC2⟩:=HSW.out (2*k+1) w3 ((Fr.refl NoF wr).trans hf3 (fun _ q=>q.elim)) j1 (by omega);have HCS:=Lib.hid HC2;have HF3:=Lib.hid (HF.out.trans ((Fr.refl NoF wr).trans hf3 (fun _ q=>q.elim)) (fun _ q=>q.elim));clear hf3 HC2
     go_wp2_with fail
     refine HCS.out.mono ?_;clear HCS hm2;rintro e w4⟨rfl,hr4,hf4⟩;have HR4:=Lib.hid (And.intro hr4 (HF3.out.trans hf4 (fun i q=>.inl q)));clear hr4 hf4;go_wp2
     go_roundg (n-((2*k+1)))
     case measure=>omega
     case rel=>exact⟨(2*k+1),swp a' k ((2*k+1)),j1,rfl,by first|rfl|go_num|(simp;done)|(congr 1;push_cast;omega),HR4.out.1,by rw[<-HE.out,HDN.out];simp,HR4.out.2⟩
end
end
end Go.Proofs.Ytcccbdnojlmgaaa
