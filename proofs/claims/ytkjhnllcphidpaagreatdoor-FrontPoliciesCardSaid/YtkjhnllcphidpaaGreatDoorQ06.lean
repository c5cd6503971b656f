/- Part 6. -/
import Derived.Test.YtkjhnllcphidpaaGreatDoorQ01
namespace Go.Proofs.YtkjhnllcphidpaaGreatDoor
set_option linter.all false
set_option maxHeartbeats 16000000
set_option maxRecDepth 100000
section
def par(k:Nat):Nat:=(k-1)/2
section
variable{α:Type}(lt:α->α->Bool)
def swp(a:Nat->α)(i j:Nat):Nat->α:=λk=>if k=i then a j else if k=j then a i else a k
theorem uG{a:Nat->α}{i j n:Nat}(hi:i<n)(hj:j<n)(t:α):(∃k,k<n/\swp a i j k=t)↔∃k,k<n/\a k=t:=by
 constructor
 .rintro⟨k,hk,rfl⟩
  unfold swp
  split
  .exact⟨j,hj,rfl⟩
  .split
   .exact⟨i,hi,rfl⟩
   .exact⟨k,hk,rfl⟩
 .rintro⟨k,hk,rfl⟩
  by_cases e1:k=i
  .refine⟨j,hj,?_⟩
   unfold swp;by_cases e2:j=i
   .rw[if_pos e2,e1,e2]
   .rw[if_neg e2,if_pos rfl,e1]
  .by_cases e2:k=j
   .exact⟨i,hi,by unfold swp;rw[if_pos rfl,e2]⟩
   .exact⟨k,hk,by unfold swp;rw[if_neg e1,if_neg e2]⟩
def gO{β:Type}(f:α->β)(a:Nat->α)(n:Nat):Prop:=∀k m,k<n->m<n->f (a k)=f (a m)->k=m
theorem eV{β:Type}{f:α->β}{a:Nat->α}{i j n:Nat}(hi:i<n)(hj:j<n)(h:gO f a n):gO f (swp a i j) n:=by
 intro k m hk hm e
 have key:∀k,k<n->∃k',k'<n/\swp a i j k=a k'/\k'=(if k=i then j else if k=j then i else k):=by
  intro k hk;unfold swp
  split
  .exact⟨j,hj,rfl,rfl⟩
  .split
   .exact⟨i,hi,rfl,rfl⟩
   .exact⟨k,hk,rfl,rfl⟩
 obtain⟨k',h1,h2,h3⟩:=key k hk;obtain⟨m',h4,h5,h6⟩:=key m hm;rw[h2,h5]at e;have:=h k' m' h1 h4 e;rw[h3,h6]at this
 split at this<;>split at this<;>(try split at this)<;>(try split at this)<;>omega
def upF(a:Nat->α)(j:Nat):Nat->α:=
 if h:j=0 then a else if lt (a j) (a (par j))then upF (swp a (par j) j) (par j)else a
termination_by j
decreasing_by unfold par;omega
def aQ(a:Nat->α)(n j1:Nat):Nat:=if j1+1<n/\lt (a (j1+1)) (a j1)=true then j1+1 else j1
theorem dg(a:Nat->α)(n j1:Nat):j1<=aQ lt a n j1/\aQ lt a n j1<=j1+1/\(j1<n->aQ lt a n j1<n):=by
 unfold aQ;split
 .rename_i h;exact⟨by omega,by omega,λ_=>h.1⟩
 .exact⟨by omega,by omega,λh=>h⟩
def aC(n:Nat)(a:Nat->α)(i:Nat):(Nat->α)×Nat:=
 if h:n<=2*i+1 then(a,i)else if lt (a (aQ lt a n (2*i+1))) (a i)then aC n (swp a i (aQ lt a n (2*i+1))) (aQ lt a n (2*i+1))else(a,i)
termination_by n-i
decreasing_by have:=dg lt a n (2*i+1);omega
theorem tB{n:Nat}(t:α):∀(a:Nat->α) (j:Nat),j<n->((∃k,k<n/\upF lt a j k=t)↔∃k,k<n/\a k=t):=by
 intro a j
 induction j using Nat.strongRecOn generalizing a with
 |_ j ih=>
  intro hj;unfold upF
  split
  .rfl
  .split
   .have hp:par j<j:=by unfold par;omega
    rw[ih (par j) hp _ (by omega),uG (by omega) hj]
   .rfl
theorem EK{β:Type}{f:α->β}{n:Nat}:∀(a:Nat->α) (j:Nat),j<n->gO f a n->gO f (upF lt a j) n:=by
 intro a j
 induction j using Nat.strongRecOn generalizing a with
 |_ j ih=>
  intro hj h;unfold upF
  split
  .exact h
  .split
   .have hp:par j<j:=by unfold par;omega
    exact ih (par j) hp _ (by omega) (eV (by omega) hj h)
   .exact h
theorem Ff{n:Nat}:∀(a:Nat->α) (j:Nat),j<n->∀k,n<=k->upF lt a j k=a k:=by
 intro a j
 induction j using Nat.strongRecOn generalizing a with
 |_ j ih=>
  intro hj k hk;unfold upF
  split
  .rfl
  .split
   .have hp:par j<j:=by unfold par;omega
    rw[ih (par j) hp _ (by omega) k hk];unfold swp;rw[if_neg (by omega),if_neg (by omega)]
   .rfl
theorem lu{n:Nat}(t:α):∀(m:Nat) (a:Nat->α) (i:Nat),n-i<=m->i<n->((∃k,k<n/\(aC lt n a i).1 k=t)↔∃k,k<n/\a k=t):=by
 intro m
 induction m with
 |zero=>intro a i h1 h2;omega
 |succ m ih=>
  intro a i h1 h2;unfold aC
  split
  .rfl
  .rename_i hn
   split
   .have:=dg lt a n (2*i+1)
    rw[ih _ _ (by omega) (by omega),uG h2 (by omega)]
   .rfl
theorem zU{β:Type}{f:α->β}{n:Nat}:∀(m:Nat) (a:Nat->α) (i:Nat),n-i<=m->i<n->gO f a n->gO f (aC lt n a i).1 n:=by
 intro m
 induction m with
 |zero=>intro a i h1 h2;omega
 |succ m ih=>
  intro a i h1 h2 h;unfold aC
  split
  .exact h
  .rename_i hn
   split
   .have:=dg lt a n (2*i+1)
    exact ih _ _ (by omega) (by omega) (eV h2 (by omega) h)
   .exact h
theorem kR{n:Nat}:∀(m:Nat) (a:Nat->α) (i:Nat),n-i<=m->i<n->∀k,n<=k->(aC lt n a i).1 k=a k:=by
 intro m
 induction m with
 |zero=>intro a i h1 h2;omega
 |succ m ih=>
  intro a i h1 h2 k hk;unfold aC
  split
  .rfl
  .rename_i hn
   split
   .have:=dg lt a n (2*i+1)
    rw[ih _ _ (by omega) (by omega) k hk];unfold swp;rw[if_neg (by omega),if_neg (by omega)]
   .rfl
theorem vX{n:Nat}:∀(m:Nat) (a:Nat->α) (i:Nat),n-i<=m->i<n->i<=(aC lt n a i).2/\((aC lt n a i).2=i->(aC lt n a i).1=a)/\(aC lt n a i).2<n:=by
 intro m
 induction m with
 |zero=>intro a i h1 h2;omega
 |succ m ih=>
  intro a i h1 h2;unfold aC
  split
  .exact⟨Nat.le_refl _,λ_=>rfl,h2⟩
  .rename_i hn
   split
   .have hl:=dg lt a n (2*i+1)
    have:=ih (swp a i (aQ lt a n (2*i+1))) (aQ lt a n (2*i+1)) (by omega) (by omega);exact⟨by omega,λe=>by omega,this.2.2⟩
   .exact⟨Nat.le_refl _,λ_=>rfl,h2⟩
structure Ord:Prop where
 ay:∀x y,lt x y=true->lt y x=false
 tr:∀x y z,lt y x=false->lt z y=false->lt z x=false
def br(a:Nat->α)(n:Nat):Prop:=∀k,0<k->k<n->lt (a k) (a (par k))=false
def dM(a:Nat->α)(n j:Nat):Prop:=(∀k,0<k->k<n->¬k=j->lt (a k) (a (par k))=false)/\∀k,0<k->k<n->par k=j->0<j->lt (a k) (a (par j))=false
def eO(a:Nat->α)(n j:Nat):Prop:=(∀k,0<k->k<n->¬k=j->¬par k=j->lt (a k) (a (par k))=false)/\∀k,0<k->k<n->par k=j->0<j->lt (a k) (a (par j))=false
variable{lt}
theorem Ord.irr(O:Ord lt)(x:α):lt x x=false:=by
 cases e:lt x x with
 |false=>rfl
 |true=>have:=O.ay x x e;rw[e]at this;exact this
theorem br.root(O:Ord lt){a:Nat->α}{n:Nat}(h:br lt a n):∀k,k<n->lt (a k) (a 0)=false:=by
 intro k
 induction k using Nat.strongRecOn with
 |_ k ih=>
  intro hk;by_cases e:k=0
  .rw[e];exact O.irr _
  .have hp:par k<k:=by unfold par;omega
   exact O.tr _ _ _ (ih (par k) hp (by omega)) (h k (by omega) hk)
theorem dM.up(O:Ord lt){n:Nat}:∀(a:Nat->α) (j:Nat),j<n->dM lt a n j->br lt (upF lt a j) n:=by
 intro a j
 induction j using Nat.strongRecOn generalizing a with
 |_ j ih=>
  intro hj h;unfold upF
  split
  .rename_i hj0
   intro k h1 h2;exact h.1 k h1 h2 (by omega)
  .rename_i hj0
   have hp:par j<j:=by unfold par;omega
   split
   .rename_i hlt
    refine ih (par j) hp _ (by omega) ⟨λk h1 h2 h3=>?_,λk h1 h2 h3 h4=>?_⟩
    ·
     by_cases e1:k=j
     .subst e1
      have:swp a (par k) k k=a (par k):=by unfold swp;rw[if_neg (by omega),if_pos rfl]
      have e2:swp a (par k) k (par k)=a k:=by unfold swp;rw[if_pos rfl]
      rw[this,e2];exact O.ay _ _ hlt
     .have ek:swp a (par j) j k=a k:=by unfold swp;rw[if_neg h3,if_neg e1]
      rw[ek];by_cases e2:par k=par j
      .have e3:swp a (par j) j (par k)=a j:=by unfold swp;rw[e2,if_pos rfl]
       rw[e3];have h5:=h.1 k h1 h2 e1;rw[e2]at h5;exact O.tr _ _ _ (O.ay _ _ hlt) h5
      .by_cases e4:par k=j
       .have e3:swp a (par j) j (par k)=a (par j):=by unfold swp;rw[e4,if_neg (by omega),if_pos rfl]
        rw[e3];exact h.2 k h1 h2 e4 (by omega)
       .have e3:swp a (par j) j (par k)=a (par k):=by unfold swp;rw[if_neg e2,if_neg e4]
        rw[e3];exact h.1 k h1 h2 e1
    ·
     have hpp:par (par j)<par j:=by unfold par at*;omega
     have e0:swp a (par j) j (par (par j))=a (par (par j)):=by unfold swp;rw[if_neg (by omega),if_neg (by omega)]
     rw[e0];have hg:=h.1 (par j) h4 (by omega) (by omega);by_cases e1:k=j
     .subst e1
      have:swp a (par k) k k=a (par k):=by unfold swp;rw[if_neg (by omega),if_pos rfl]
      rw[this];exact hg
     .have ek:swp a (par j) j k=a k:=by
       unfold swp;rw[if_neg,if_neg e1];intro e;rw[e]at h3;unfold par at*;omega
      rw[ek];have h5:=h.1 k h1 h2 e1;rw[h3]at h5;exact O.tr _ _ _ hg h5
   .rename_i hlt
    intro k h1 h2;by_cases e:k=j
    .rw[e];simpa using hlt
    .exact h.1 k h1 h2 e
theorem child{k i:Nat}(h:0<k)(e:par k=i):k=2*i+1\/k=2*i+2:=by unfold par at e;omega
theorem yn(i:Nat):par (2*i+1)=i/\par (2*i+2)=i:=by unfold par;omega
theorem uz(O:Ord lt)(a:Nat->α){n j1:Nat}:(lt (a j1) (a (aQ lt a n j1))=false)/\(j1+1<n->lt (a (j1+1)) (a (aQ lt a n j1))=false):=by
 unfold aQ
 split
 .rename_i h
  exact⟨O.ay _ _ h.2,λ_=>O.irr _⟩
 .rename_i h
  refine⟨O.irr _,λhn=>?_⟩
  cases e:lt (a (j1+1)) (a j1)with
  |false=>rfl
  |true=>exact(h ⟨hn,e⟩).elim
theorem eO.down(O:Ord lt){n:Nat}:∀(m:Nat) (a:Nat->α) (i:Nat),n-i<=m->i<n->eO lt a n i->
  ((aC lt n a i).2=i->dM lt a n i)/\(¬(aC lt n a i).2=i->br lt (aC lt n a i).1 n)/\((i=0\/lt (a i) (a (par i))=false)->br lt (aC lt n a i).1 n):=by
 intro m
 induction m with
 |zero=>intro a i h1 h2;omega
 |succ m ih=>
  intro a i h1 h2 h
  have noKids:n<=2*i+1->dM lt a n i:=by
   intro hn;refine⟨λk k1 k2 k3=>h.1 k k1 k2 k3 (λe=>?_),h.2⟩;rcases child k1 e with q|q<;>omega
  have fin:dM lt a n i->(i=0\/lt (a i) (a (par i))=false)->br lt a n:=by
   intro hu hp k k1 k2;by_cases e:k=i
   .subst e;rcases hp with q|q
    .omega
    .exact q
   .exact hu.1 k k1 k2 e
  unfold aC
  split
  .rename_i hn
   exact⟨λ_=>noKids hn,λe=>(e rfl).elim,fin (noKids hn)⟩
  .rename_i hn
   have hl:=dg lt a n (2*i+1);have hmin:=uz O a (n:=n) (j1:=2*i+1);have hc:=yn i;generalize hj:aQ lt a n (2*i+1)=j at*
   have hpj:par j=i:=by
    have:j=2*i+1\/j=2*i+2:=by omega
    rcases this with q|q<;>rw[q]
    .exact hc.1
    .exact hc.2
   have hkids:∀k,0<k->k<n->par k=i->lt (a k) (a j)=false:=by
    intro k k1 k2 k3;rcases child k1 k3 with q|q
    .rw[q];exact hmin.1
    .rw[q];exact hmin.2 (by omega)
   split
   .rename_i hlt
    have hg:eO lt (swp a i j) n j:=by
     refine⟨λk k1 k2 k3 k4=>?_,λk k1 k2 k3 k4=>?_⟩
     .by_cases e1:k=i
      .subst e1
       have ei:swp a k j k=a j:=by unfold swp;rw[if_pos rfl]
       have ep:swp a k j (par k)=a (par k):=by unfold swp;rw[if_neg (by unfold par;omega),if_neg (by unfold par;omega)]
       rw[ei,ep];exact h.2 j (by omega) (by omega) hpj k1
      .have ek:swp a i j k=a k:=by unfold swp;rw[if_neg e1,if_neg k3]
       rw[ek];by_cases e2:par k=i
       .have ep:swp a i j (par k)=a j:=by unfold swp;rw[if_pos e2]
        rw[ep];exact hkids k k1 k2 e2
       .have ep:swp a i j (par k)=a (par k):=by unfold swp;rw[if_neg e2,if_neg k4]
        rw[ep];exact h.1 k k1 k2 e1 e2
     .have e1:¬k=i:=by unfold par at k3;omega
      have e2:¬k=j:=by unfold par at k3;omega
      have ek:swp a i j k=a k:=by unfold swp;rw[if_neg e1,if_neg e2]
      have ep:swp a i j (par j)=a j:=by unfold swp;rw[hpj,if_pos rfl]
      rw[ek,ep];have:=h.1 k k1 k2 e1 (by rw[k3];omega);rw[k3]at this;exact this
    have hrec:=ih (swp a i j) j (by omega) (by omega) hg;have hdg:=vX lt m (swp a i j) j (n:=n) (by omega) (by omega)
    have hpar:lt (swp a i j j) (swp a i j (par j))=false:=by
     have ej:swp a i j j=a i:=by unfold swp;rw[if_neg (by omega),if_pos rfl]
     have ep:swp a i j (par j)=a j:=by unfold swp;rw[hpj,if_pos rfl]
     rw[ej,ep];exact O.ay _ _ hlt
    exact⟨λe=>by omega,λ_=>hrec.2.2 (.inr hpar),λ_=>hrec.2.2 (.inr hpar)⟩
   .rename_i hlt
    have hlt:lt (a j) (a i)=false:=by simpa using hlt
    have hu:dM lt a n i:=by
     refine⟨λk k1 k2 k3=>?_,h.2⟩;by_cases e:par k=i
     .rw[e];exact O.tr _ _ _ hlt (hkids k k1 k2 e)
     .exact h.1 k k1 k2 k3 e
    exact⟨λ_=>hu,λe=>(e rfl).elim,fin hu⟩
end
end
section
open Go.Proofs.Tryz Go.RowKit
abbrev yh(g:FuncId):Prop:=∀(args:Array Value) (w:World),(callFunc g args).run prog w=.ok (.enter g args) w
theorem cB{f:FuncId}{fn:Func}{c:Code}(hf:prog.funcs[f]?=some fn)(hname:(fn.name== "runtime.NumGoroutine")=false)(hb:fn.body=some c):yh f:=λargs w=>by
 have h1:fn.name≠ "runtime.NumGoroutine" :=by simpa using hname
 simp[callFunc,hf,h1,hb]
structure iN(hty:TypeId)(gLn gLs gSw gPu gPo:FuncId){α:Type}(lt:α->α->Bool)(HR:World->(Nat->α)->Nat->(Nat->Prop)->Prop)(p:Addr)(enc:α->Value)(okP:(Nat->α)->Nat->α->Prop):Prop where
 own:yh gLn/\yh gLs/\yh gSw/\yh gPu/\yh gPo
 fr:∀{w w':World} {a:Nat->α} {n:Nat} {F G:Nat->Prop},HR w a n F->Fr G w w'->(∀i,F i->¬G i)->HR w' a n F
 bd:∀{w:World} {a:Nat->α} {n:Nat} {F:Nat->Prop},HR w a n F->∀i,F i->i<w.heap.size
 small:∀{w:World} {a:Nat->α} {n:Nat} {F:Nat->Prop},HR w a n F->n<1000000
 len:∀{w:World} {a:Nat->α} {n:Nat} {F:Nat->Prop},HR w a n F->∃rv,(method 420 hty (.pointer (some p)) "Len").run prog w=.ok (gLn,rv) w/\Calls prog gLn #[rv] w λe w'=>e=.returned (.int .i64 (n:Nat))/\Fr NoF w w'
 less:∀{w:World} {a:Nat->α} {n:Nat} {F:Nat->Prop} {i j:Nat},HR w a n F->i<n->j<n->∃rv,(method 420 hty (.pointer (some p)) "Less").run prog w=.ok (gLs,rv) w/\Calls prog gLs #[rv,.int .i64 i,.int .i64 j] w λe w'=>e=.returned (.bool (lt (a i) (a j)))/\Fr NoF w w'
 swap:∀{w:World} {a:Nat->α} {n:Nat} {F:Nat->Prop} {i j:Nat},HR w a n F->i<n->j<n->∃rv,(method 420 hty (.pointer (some p)) "Swap").run prog w=.ok (gSw,rv) w/\Calls prog gSw #[rv,.int .i64 i,.int .i64 j] w λe w'=>e=.returned (.tuple #[])/\HR w' (swp a i j) n F/\Fr F w w'
 push:∀{w:World} {a:Nat->α} {n:Nat} {F:Nat->Prop} {t:α},HR w a n F->okP a n t->∃rv,(method 420 hty (.pointer (some p)) "Push").run prog w=.ok (gPu,rv) w/\Calls prog gPu #[rv,enc t] w λe w'=>e=.returned (.tuple #[])/\∃F',HR w' (upd a n t) (n+1) F'/\Fr F w w'/\∀i,F' i->F i\/w.heap.size<=i
 pop:∀{w:World} {a:Nat->α} {n:Nat} {F:Nat->Prop},HR w a (n+1) F->∃rv,(method 420 hty (.pointer (some p)) "Pop").run prog w=.ok (gPo,rv) w/\Calls prog gPo #[rv] w λe w'=>e=.returned (enc (a n))/\HR w' a n F/\Fr F w w'
section
variable{hty:TypeId}{gLn gLs gSw gPu gPo:FuncId}{α:Type}{lt:α->α->Bool}{HR:World->(Nat->α)->Nat->(Nat->Prop)->Prop}{p:Addr}{enc:α->Value}{okP:(Nat->α)->Nat->α->Prop}(S:iN hty gLn gLs gSw gPu gPo lt HR p enc okP){w:World}{a:Nat->α}{n:Nat}{F:Nat->Prop}
include S
theorem wm(h:HR w a n F){j:Nat}(hj:j<n):Calls prog 125 #[.iface hty (.pointer (some p)),.int .i64 j] w λe w'=>e=.returned (.tuple #[])/\HR w' (upF lt a j) n F/\Fr F w w':=by
 have hn:=S.small h;have HS:=Hd S;obtain⟨oL,oI,oS,oP,oQ⟩:=S.own;have HH:=Hd h;clear h S;go_enter func125,ntmps125;go_wp2
 go_loopg [1] j (λg v wr=>∃a':Nat->α,g<n/\v=.int .i64 g/\HR wr a' n F/\upF lt a' g=upF lt a j/\Fr F w wr)
 case atStart=>exact⟨a,hj,rfl,HH.out,rfl,Fr.refl _ _⟩
 case round=>
  obtain⟨a',hk,rfl,hr,he,hf⟩:=hrel;have HR1:=Hd hr;have HE:=Hd he;have HF:=Hd hf;clear hr he hf HH;by_cases h0:gk=0
  .have HU:Hid (upF lt a' gk=a'):=by unfold Hid;rw[upF,dif_pos h0]
   subst h0;go_wp2;go_returns;refine⟨rfl,?_,HF.out⟩;rw[<-HE.out,HU.out];exact HR1.out
  .have hp:((gk:Int)-1)/2=(par gk:Nat):=by unfold par;omega
   have hpk:par gk<gk:=by unfold par;omega
   have h1:1<=(gk:Int):=by omega
   have hne2:(((par gk:Nat):Int)==(gk:Int))=false:=by simp;omega
   have HUP:Hid (upF lt a' gk=if lt (a' gk) (a' (par gk))then upF lt (swp a' (par gk) gk) (par gk)else a'):=by
    unfold Hid;rw[upF,dif_neg h0]
   obtain⟨rv,hm,HC⟩:=HS.out.less (i:=gk) (j:=par gk) HR1.out hk (by omega);have HCL:=Hd HC
   have HSW:Hid (∀w',Fr NoF wr w'->∃rv,(method 420 hty (.pointer (some p)) "Swap").run prog w'=.ok (gSw,rv) w'/\Calls prog gSw #[rv,.int .i64 (par gk:Nat),.int .i64 gk] w' λe w''=>e=.returned (.tuple #[])/\HR w'' (swp a' (par gk) gk) n F/\Fr F w' w''):=by
    intro w' f;exact HS.out.swap (HS.out.fr HR1.out f (λ_ _ q=>q)) (by omega) hk
   generalize hq:par gk=q at*;have HQ:=Hd hq;clear hq HC h0
   cases hl:lt (a' gk) (a' q)with
   |false=>
    rw[hl]at HCL HUP;clear hl
    go_wp2_with fail
    refine HCL.out.mono ?_;clear HCL hm;rintro e w2⟨rfl,hf2⟩;have HF2:=Hd hf2;clear hf2;go_wp2;go_returns;refine⟨rfl,?_,HF.out.trans HF2.out (λ_ q=>q.elim)⟩;rw[<-HE.out,HUP.out];exact HS.out.fr HR1.out HF2.out (λ_ _ q=>q)
   |true=>
    rw[hl]at HCL HUP;clear hl
    go_wp2_with fail
    refine HCL.out.mono ?_;clear HCL hm;rintro e w2⟨rfl,hf2⟩;obtain⟨rv2,hm2,HC2⟩:=HSW.out w2 hf2;have HCS:=Hd HC2;have HF2:=Hd (HF.out.trans hf2 (λ_ q=>q.elim));clear hf2 HC2
    go_wp2_with fail
    refine HCS.out.mono ?_;clear HCS hm2;rintro e w3⟨rfl,hr3,hf3⟩;have HR3:=Hd (And.intro hr3 (HF2.out.trans hf3 (λi q=>.inl q)));clear hr3 hf3;go_wp2
    go_roundg q
    case measure=>omega
    case rel=>exact⟨swp a' q gk,by omega,rfl,HR3.out.1,by rw[<-HE.out,HUP.out];simp,HR3.out.2⟩
theorem nC{m:Nat}(h:HR w a m F)(hnm:n<=m){i:Nat}(hi:i<n):Calls prog 122 #[.iface hty (.pointer (some p)),.int .i64 i,.int .i64 n] w λe w'=>e=.returned (.bool (decide (i<(aC lt n a i).2)))/\HR w' (aC lt n a i).1 m F/\Fr F w w':=by
 have hm0:=S.small h;have HS:=Hd S;obtain⟨oL,oI,oS,oP,oQ⟩:=S.own;have HH:=Hd h;clear h S;go_enter func122,ntmps122;go_wp2
 go_loopg [7] (n-i) (λg v wr=>∃(k:Nat) (a':Nat->α),k<n/\g=n-k/\v=.int .i64 k/\HR wr a' m F/\aC lt n a' k=aC lt n a i/\Fr F w wr)
 case atStart=>exact⟨i,a,hi,rfl,rfl,HH.out,rfl,Fr.refl _ _⟩
 case round=>
  obtain⟨k,a',hk,rfl,rfl,hr,he,hf⟩:=hrel;have HR1:=Hd hr;have HE:=Hd he;have HF:=Hd hf;clear hr he hf HH;by_cases h0:n<=2*k+1
  .have HU:Hid (aC lt n a' k=(a',k)):=by unfold Hid;rw[aC,dif_pos h0]
   go_wp2;go_returns;have hE:=HE.out;rw[HU.out]at hE;rw[<-hE];exact⟨by first|rfl|simp,HR1.out,HF.out⟩
  .have HDN0:Hid (aC lt n a' k=if lt (a' (aQ lt a' n (2*k+1))) (a' k)then aC lt n (swp a' k (aQ lt a' n (2*k+1))) (aQ lt a' n (2*k+1))else(a',k)):=by
    unfold Hid;rw[aC,dif_neg h0]
   have HLS:Hid (∀(j:Nat) (w':World),Fr NoF wr w'->j<n->k<n->∃rv,(method 420 hty (.pointer (some p)) "Less").run prog w'=.ok (gLs,rv) w'/\Calls prog gLs #[rv,.int .i64 j,.int .i64 k] w' λe w''=>e=.returned (.bool (lt (a' j) (a' k)))/\Fr NoF w' w''):=by
    intro j w' f h1 h2;exact HS.out.less (HS.out.fr HR1.out f (λ_ _ q=>q)) (by omega) (by omega)
   have HSW:Hid (∀(j:Nat) (w':World),Fr NoF wr w'->j<n->¬k=j->∃rv,(method 420 hty (.pointer (some p)) "Swap").run prog w'=.ok (gSw,rv) w'/\Calls prog gSw #[rv,.int .i64 k,.int .i64 j] w' λe w''=>e=.returned (.tuple #[])/\HR w'' (swp a' k j) m F/\Fr F w' w''):=by
    intro j w' f h1 h2;exact HS.out.swap (HS.out.fr HR1.out f (λ_ _ q=>q)) (by omega) (by omega)
   have j1:2*k+1<n:=by omega
   by_cases h2:2*k+1+1<n
   .obtain⟨rv,hm,HC⟩:=HS.out.less (i:=2*k+1+1) (j:=2*k+1) HR1.out (by omega) (by omega)
    have HCL:=Hd HC;clear HC
    cases hb:lt (a' (2*k+1+1)) (a' (2*k+1))with
    |true=>
     rw[hb]at HCL
     have HDN:Hid (aC lt n a' k=if lt (a' (2*k+1+1)) (a' k)then aC lt n (swp a' k (2*k+1+1)) (2*k+1+1)else(a',k)):=by
      have:aQ lt a' n (2*k+1)=2*k+1+1:=by unfold aQ;rw[if_pos ⟨h2,hb⟩]
      have:=this▸HDN0.out;exact this
     clear hb HDN0
     go_wp2_with fail
     refine HCL.out.mono ?_;clear HCL hm;rintro e w2⟨rfl,hf2⟩;have HF2:=Hd hf2;clear hf2;obtain⟨rv1,hm1,HC1⟩:=HLS.out (2*k+1+1) w2 HF2.out h2 (by omega);have HCL1:=Hd HC1;clear HC1
     cases hl:lt (a' (2*k+1+1)) (a' k)with
     |false=>
      rw[hl]at HCL1 HDN;clear hl
      go_wp2_with fail
      refine HCL1.out.mono ?_;clear HCL1 hm1;rintro e w3⟨rfl,hf3⟩;have HF3:=Hd (HF2.out.trans hf3 (λ_ q=>q.elim));clear hf3;go_wp2;go_returns;have hE:=HE.out;rw[HDN.out]at hE;simp only[Bool.false_eq_true,if_false]at hE;refine⟨?_,?_,HF.out.trans HF3.out (λ_ q=>q.elim)⟩
      .rw[<-hE];first|rfl|simp
      .rw[<-hE];exact HS.out.fr HR1.out HF3.out (λ_ _ q=>q)
     |true=>
      rw[hl]at HCL1 HDN;clear hl
      go_wp2_with fail
      refine HCL1.out.mono ?_;clear HCL1 hm1;rintro e w3⟨rfl,hf3⟩;obtain⟨rv2,hm2,HC2⟩:=HSW.out (2*k+1+1) w3 (HF2.out.trans hf3 (λ_ q=>q.elim)) h2 (by omega);have HCS:=Hd HC2;have HF3:=Hd (HF.out.trans (HF2.out.trans hf3 (λ_ q=>q.elim)) (λ_ q=>q.elim));clear hf3 HC2
      go_wp2_with fail
      refine HCS.out.mono ?_;clear HCS hm2;rintro e w4⟨rfl,hr4,hf4⟩;have HR4:=Hd (And.intro hr4 (HF3.out.trans hf4 (λi q=>.inl q)));clear hr4 hf4;go_wp2
      go_roundg (n-((2*k+1+1)))
      case measure=>omega
      case rel=>exact⟨(2*k+1+1),swp a' k ((2*k+1+1)),h2,rfl,by first|rfl|go_num|(simp;done)|(congr 1;push_cast;omega),HR4.out.1,by rw[<-HE.out,HDN.out];simp,HR4.out.2⟩
    |false=>
     rw[hb]at HCL
     have HDN:Hid (aC lt n a' k=if lt (a' (2*k+1)) (a' k)then aC lt n (swp a' k (2*k+1)) (2*k+1)else(a',k)):=by
      have:aQ lt a' n (2*k+1)=2*k+1:=by unfold aQ;rw[if_neg (λq=>by rw[hb]at q;cases q.2)]
      have:=this▸HDN0.out;exact this
     clear hb HDN0
     go_wp2_with fail
     refine HCL.out.mono ?_;clear HCL hm;rintro e w2⟨rfl,hf2⟩;have HF2:=Hd hf2;clear hf2;obtain⟨rv1,hm1,HC1⟩:=HLS.out (2*k+1) w2 HF2.out j1 (by omega);have HCL1:=Hd HC1;clear HC1
     cases hl:lt (a' (2*k+1)) (a' k)with
     |false=>
      rw[hl]at HCL1 HDN;clear hl
      go_wp2_with fail
      refine HCL1.out.mono ?_;clear HCL1 hm1;rintro e w3⟨rfl,hf3⟩;have HF3:=Hd (HF2.out.trans hf3 (λ_ q=>q.elim));clear hf3;go_wp2;go_returns;have hE:=HE.out;rw[HDN.out]at hE;simp only[Bool.false_eq_true,if_false]at hE;refine⟨?_,?_,HF.out.trans HF3.out (λ_ q=>q.elim)⟩
      .rw[<-hE];first|rfl|simp
      .rw[<-hE];exact HS.out.fr HR1.out HF3.out (λ_ _ q=>q)
     |true=>
      rw[hl]at HCL1 HDN;clear hl
      go_wp2_with fail
      refine HCL1.out.mono ?_;clear HCL1 hm1;rintro e w3⟨rfl,hf3⟩;obtain⟨rv2,hm2,HC2⟩:=HSW.out (2*k+1) w3 (HF2.out.trans hf3 (λ_ q=>q.elim)) j1 (by omega);have HCS:=Hd HC2;have HF3:=Hd (HF.out.trans (HF2.out.trans hf3 (λ_ q=>q.elim)) (λ_ q=>q.elim));clear hf3 HC2
      go_wp2_with fail
      refine HCS.out.mono ?_;clear HCS hm2;rintro e w4⟨rfl,hr4,hf4⟩;have HR4:=Hd (And.intro hr4 (HF3.out.trans hf4 (λi q=>.inl q)));clear hr4 hf4;go_wp2
      go_roundg (n-((2*k+1)))
      case measure=>omega
      case rel=>exact⟨(2*k+1),swp a' k ((2*k+1)),j1,rfl,by first|rfl|go_num|(simp;done)|(congr 1;push_cast;omega),HR4.out.1,by rw[<-HE.out,HDN.out];simp,HR4.out.2⟩
   .have HDN:Hid (aC lt n a' k=if lt (a' (2*k+1)) (a' k)then aC lt n (swp a' k (2*k+1)) (2*k+1)else(a',k)):=by
     have:aQ lt a' n (2*k+1)=2*k+1:=by unfold aQ;rw[if_neg (λq=>h2 q.1)]
     have:=this▸HDN0.out;exact this
    clear HDN0;obtain⟨rv1,hm1,HC1⟩:=HLS.out (2*k+1) wr (Fr.refl NoF wr) j1 (by omega);have HCL1:=Hd HC1;clear HC1
    cases hl:lt (a' (2*k+1)) (a' k)with
    |false=>
     rw[hl]at HCL1 HDN;clear hl
     go_wp2_with fail
     refine HCL1.out.mono ?_;clear HCL1 hm1;rintro e w3⟨rfl,hf3⟩;have HF3:=Hd ((Fr.refl NoF wr).trans hf3 (λ_ q=>q.elim));clear hf3;go_wp2;go_returns;have hE:=HE.out;rw[HDN.out]at hE;simp only[Bool.false_eq_true,if_false]at hE;refine⟨?_,?_,HF.out.trans HF3.out (λ_ q=>q.elim)⟩
     .rw[<-hE];first|rfl|simp
     .rw[<-hE];exact HS.out.fr HR1.out HF3.out (λ_ _ q=>q)
    |true=>
     rw[hl]at HCL1 HDN;clear hl
     go_wp2_with fail
     refine HCL1.out.mono ?_;clear HCL1 hm1;rintro e w3⟨rfl,hf3⟩;obtain⟨rv2,hm2,HC2⟩:=HSW.out (2*k+1) w3 ((Fr.refl NoF wr).trans hf3 (λ_ q=>q.elim)) j1 (by omega);have HCS:=Hd HC2;have HF3:=Hd (HF.out.trans ((Fr.refl NoF wr).trans hf3 (λ_ q=>q.elim)) (λ_ q=>q.elim));clear hf3 HC2
     go_wp2_with fail
     refine HCS.out.mono ?_;clear HCS hm2;rintro e w4⟨rfl,hr4,hf4⟩;have HR4:=Hd (And.intro hr4 (HF3.out.trans hf4 (λi q=>.inl q)));clear hr4 hf4;go_wp2
     go_roundg (n-((2*k+1)))
     case measure=>omega
     case rel=>exact⟨(2*k+1),swp a' k ((2*k+1)),j1,rfl,by first|rfl|go_num|(simp;done)|(congr 1;push_cast;omega),HR4.out.1,by rw[<-HE.out,HDN.out];simp,HR4.out.2⟩
end
def fw{α:Type}(lt:α->α->Bool)(a:Nat->α)(n:Nat):Nat->α:=if n=0 then a else(aC lt n (swp a 0 n) 0).1
def ig{α:Type}(lt:α->α->Bool)(a:Nat->α)(n i:Nat):Nat->α:=if i<(aC lt n a i).2 then(aC lt n a i).1 else upF lt (aC lt n a i).1 i
def i5{α:Type}(lt:α->α->Bool)(a:Nat->α)(n i:Nat):Nat->α:=if n=i then a else ig lt (swp a i n) n i
theorem xQ{hty:TypeId}(p:Addr)(w:World)(i:Nat)(hi:i<1000000):Calls prog 122 #[.iface hty (.pointer (some p)),.int .i64 i,.int .i64 (0:Nat)] w λe w'=>e=.returned (.bool false)/\w=w':=by
 go_enter func122,ntmps122;go_wp2
 go_loopg [7] 1 (λg v wr=>g=1/\v=.int .i64 i/\w=wr)
 case atStart=>exact⟨rfl,rfl,rfl⟩
 case round=>
  obtain⟨rfl,rfl,rfl⟩:=hrel;go_wp2;go_returns;exact⟨by simp,rfl⟩
section
variable{hty:TypeId}{gLn gLs gSw gPu gPo:FuncId}{α:Type}{lt:α->α->Bool}{HR:World->(Nat->α)->Nat->(Nat->Prop)->Prop}{p:Addr}{enc:α->Value}{okP:(Nat->α)->Nat->α->Prop}(S:iN hty gLn gLs gSw gPu gPo lt HR p enc okP){w:World}{a:Nat->α}{n:Nat}{F:Nat->Prop}
include S
theorem nL(h:HR w a n F){t:α}(ht:okP a n t):Calls prog 104 #[.iface hty (.pointer (some p)),enc t] w λe w'=>e=.returned (.tuple #[])/\∃F',HR w' (upF lt (upd a n t) n) (n+1) F'/\Fr F w w'/\∀i,F' i->F i\/w.heap.size<=i:=by
 obtain⟨rv,hm,HC⟩:=S.push h ht;have HCL:=Hd HC;have HS:=Hd S;obtain⟨oL,oI,oS,oP,oQ⟩:=S.own;have hn:=S.small h;clear HC S h ht;generalize enc t=et at*;go_enter func104,ntmps104
 go_wp2_with fail
 refine HCL.out.mono ?_;clear HCL hm;rintro e w1⟨rfl,F1,hr1,hf1,hF1⟩;obtain⟨rv2,hm2,HC2⟩:=HS.out.len hr1;have HCL2:=Hd HC2;have HR1:=Hd (And.intro hr1 (And.intro hf1 hF1));clear HC2 hr1 hf1 hF1
 go_wp2_with fail
 refine HCL2.out.mono ?_;clear HCL2 hm2;rintro e w2⟨rfl,hf2⟩;have HU:=Hd (wm HS.out (HS.out.fr HR1.out.1 hf2 (λ_ _ q=>q)) (j:=n) (by omega));have HF2:=Hd hf2;clear hf2;have e1:((n+1:Nat):Int)-1=(n:Int):=by omega
 go_wp2_with fail
 refine HU.out.mono ?_;clear HU;rintro e w3⟨rfl,hr3,hf3⟩;have HR3:=Hd (And.intro hr3 hf3);clear hr3 hf3;go_wp2;go_returns;refine⟨rfl,F1,HR3.out.1,(HR1.out.2.1.trans HF2.out (λ_ q=>q.elim)).trans HR3.out.2 (λi q=>HR1.out.2.2 i q),HR1.out.2.2⟩
theorem zG(h:HR w a (n+1) F):Calls prog 97 #[.iface hty (.pointer (some p))] w λe w'=>e=.returned (enc (a 0))/\HR w' (fw lt a n) n F/\Fr F w w':=by
 have hn:=S.small h;obtain⟨rv,hm,HC⟩:=S.len h;have HCL:=Hd HC;have HS:=Hd S;obtain⟨oL,oI,oS,oP,oQ⟩:=S.own;have HH:=Hd h;have e1:((n+1:Nat):Int)-1=(n:Int):=by omega
 clear HC S h;go_enter func97,ntmps97
 go_wp2_with fail
 refine HCL.out.mono ?_;clear HCL hm;rintro e w1⟨rfl,hf1⟩;obtain⟨rv2,hm2,HC2⟩:=HS.out.swap (HS.out.fr HH.out hf1 (λ_ _ q=>q)) (i:=0) (j:=n) (by omega) (by omega);have HCL2:Hid (Calls prog gSw #[rv2,.int .i64 0,.int .i64 n] w1 λe w''=>e=.returned (.tuple #[])/\HR w'' (swp a 0 n) (n+1) F/\Fr F w1 w''):=HC2;have HF1:=Hd hf1;clear HC2 hf1
 go_wp2_with fail
 refine HCL2.out.mono ?_;clear HCL2 hm2;rintro e w2⟨rfl,hr2,hf2⟩
 have HD:Hid (∃q:Bool,Calls prog 122 #[.iface hty (.pointer (some p)),.int .i64 0,.int .i64 n] w2 λe w'=>e=.returned (.bool q)/\HR w' (fw lt a n) (n+1) F/\Fr F w2 w'):=by
  unfold Hid fw;by_cases h0:n=0
  .subst h0
   rw[if_pos rfl];have hsw:swp a 0 0=a:=by funext k;unfold swp;by_cases e:k=0<;>simp[e]
   rw[hsw]at hr2;exact⟨_,(xQ p w2 0 (by omega)).mono λe w' ⟨he,hw⟩=>⟨he,hw▸hr2,hw▸Fr.refl _ _⟩⟩
  .rw[if_neg h0]
   exact⟨_,(nC HS.out hr2 (n:=n) (by omega) (i:=0) (by omega)).mono λe w' ⟨he,h1,h2⟩=>⟨he,h1,h2⟩⟩
 have HF2:=Hd ((HF1.out.mono (λ_ q=>q.elim)).trans hf2 (λi q=>.inl q));clear hr2 hf2;obtain⟨q,hd⟩:=HD.out;have HD2:=Hd hd;clear hd HD
 go_wp2_with fail
 refine HD2.out.mono ?_;clear HD2;rintro e w3⟨rfl,hr3,hf3⟩;obtain⟨rv4,hm4,HC4⟩:=HS.out.pop hr3
 have HE:Hid (fw lt a n n=a 0):=by
  unfold Hid fw
  split
  .rename_i q;rw[q]
  .rw[kR lt n (swp a 0 n) 0 (by omega) (by omega) n (Nat.le_refl _)]
   unfold swp;split
   .rename_i q;rw[q]
   .rw[if_pos rfl]
 have HCL4:=Hd HC4;have HF3:=Hd (HF2.out.trans hf3 (λi q=>.inl q));clear HC4 hr3 hf3
 go_wp2_with fail
 refine HCL4.out.mono ?_;clear HCL4 hm4;rintro e w4⟨rfl,hr4,hf4⟩;have HR4:=Hd (And.intro hr4 (HF3.out.trans hf4 (λi q=>.inl q)));clear hr4 hf4;rw[HE.out];generalize hET:enc (a 0)=et;have HET:=Hd hET;clear hET;go_wp2;go_returns;exact⟨by rw[HET.out];rfl,HR4.out⟩
end
section
variable{hty:TypeId}{gLn gLs gSw gPu gPo:FuncId}{α:Type}{lt:α->α->Bool}{a:Nat->α}{n:Nat}
theorem qD(O:Ord lt){i:Nat}(hi:i<n)(h:eO lt a n i):br lt (ig lt a n i) n:=by
 have hd:=h.down O n a i (by omega) hi;have hg:=vX lt n a i (by omega) hi;unfold ig;by_cases q:i<(aC lt n a i).2
 .rw[if_pos q];exact hd.2.1 (by omega)
 .rw[if_neg q,hg.2.1 (by omega)]
  exact dM.up O a i hi (hd.1 (by omega))
theorem vL{i:Nat}(hi:i<n)(t:α):(∃k,k<n/\ig lt a n i k=t)↔∃k,k<n/\a k=t:=by
 unfold ig
 split
 .exact lu lt t n a i (by omega) hi
 .rw[tB lt t _ _ hi];exact lu lt t n a i (by omega) hi
theorem Cf{i:Nat}(hi:i<n):∀k,n<=k->ig lt a n i k=a k:=by
 intro k hk;unfold ig
 split
 .exact kR lt n a i (by omega) hi k hk
 .rw[Ff lt _ _ hi k hk];exact kR lt n a i (by omega) hi k hk
theorem Dt(O:Ord lt)(h:br lt a n)(i:Nat)(t:α):eO lt (upd a i t) n i:=by
 refine⟨λk k1 k2 k3 k4=>?_,λk k1 k2 k3 k4=>?_⟩
 .rw[ab _ _ k3,ab _ _ k4];exact h k k1 k2
 .have hk:¬k=i:=by unfold par at k3;omega
  have hp:¬par i=i:=by unfold par;omega
  rw[ab _ _ hk,ab _ _ hp];have h1:=h k k1 k2;rw[k3]at h1;exact O.tr _ _ _ (h i k4 (by unfold par at k3;omega)) h1
theorem Dq(O:Ord lt)(h:br lt a (n+1)){i:Nat}(hi:i<n):eO lt (swp a i n) n i:=by
 refine⟨λk k1 k2 k3 k4=>?_,λk k1 k2 k3 k4=>?_⟩
 .have e1:swp a i n k=a k:=by unfold swp;rw[if_neg k3,if_neg (by omega)]
  have e2:swp a i n (par k)=a (par k):=by unfold swp;rw[if_neg k4,if_neg (by unfold par;omega)]
  rw[e1,e2];exact h k k1 (by omega)
 .have hk:¬k=i:=by unfold par at k3;omega
  have e1:swp a i n k=a k:=by unfold swp;rw[if_neg hk,if_neg (by omega)]
  have e2:swp a i n (par i)=a (par i):=by unfold swp;rw[if_neg (by unfold par;omega),if_neg (by unfold par;omega)]
  rw[e1,e2];have h1:=h k k1 (by omega);rw[k3]at h1;exact O.tr _ _ _ (h i k4 (by omega)) h1
theorem BM(O:Ord lt){i:Nat}(hi:i<=n)(h:br lt a (n+1)):br lt (i5 lt a n i) n:=by
 unfold i5;by_cases q:n=i
 .rw[if_pos q];exact λk k1 k2=>h k k1 (by omega)
 .rw[if_neg q];exact qD O (by omega) (Dq O h (by omega))
theorem Ap{i:Nat}(hi:i<=n):i5 lt a n i n=a i:=by
 unfold i5;by_cases q:n=i
 .rw[if_pos q,q]
 .rw[if_neg q,Cf (by omega) n (Nat.le_refl _)]
  unfold swp;rw[if_neg q,if_pos rfl]
theorem GD{β:Type}{f:α->β}{i:Nat}(hi:i<=n)(h:gO f a (n+1)):gO f (swp a i n) (n+1):=eV (by omega) (by omega) h
theorem Ci{β:Type}{f:α->β}{i:Nat}(hi:i<=n)(h:gO f a (n+1))(t:α):(∃k,k<n/\i5 lt a n i k=t)↔(∃k,k<n+1/\a k=t)/\¬f t=f (a i):=by
 have key:(∃k,k<n/\swp a i n k=t)↔(∃k,k<n+1/\a k=t)/\¬f t=f (a i):=by
  constructor
  .rintro⟨k,hk,rfl⟩
   by_cases e:k=i
   .have e1:swp a i n k=a n:=by unfold swp;rw[if_pos e]
    rw[e1];exact⟨⟨n,by omega,rfl⟩,λq=>by have:=h n i (by omega) (by omega) q;omega⟩
   .have e1:swp a i n k=a k:=by unfold swp;rw[if_neg e,if_neg (by omega)]
    rw[e1];exact⟨⟨k,by omega,rfl⟩,λq=>e (h k i (by omega) (by omega) q)⟩
  .rintro⟨⟨k,hk,rfl⟩,hne⟩
   have e:¬k=i:=λq=>hne (by rw[q])
   by_cases e2:k=n
   .subst e2
    exact⟨i,by omega,by unfold swp;rw[if_pos rfl]⟩
   .exact⟨k,by omega,by unfold swp;rw[if_neg e,if_neg e2]⟩
 unfold i5;by_cases q:n=i
 .rw[if_pos q,<-key]
  subst q;have e1:∀k,k<n->swp a n n k=a k:=λk hk=>by unfold swp;rw[if_neg (by omega),if_neg (by omega)]
  exact⟨λ⟨k,h1,h2⟩=>⟨k,h1,by rw[e1 k h1];exact h2⟩,λ⟨k,h1,h2⟩=>⟨k,h1,by rw[<-e1 k h1];exact h2⟩⟩
 .rw[if_neg q,<-key];exact vL (by omega) t
end
section
variable{hty:TypeId}{gLn gLs gSw gPu gPo:FuncId}{α:Type}{lt:α->α->Bool}{HR:World->(Nat->α)->Nat->(Nat->Prop)->Prop}{p:Addr}{enc:α->Value}{okP:(Nat->α)->Nat->α->Prop}(S:iN hty gLn gLs gSw gPu gPo lt HR p enc okP){w:World}{a:Nat->α}{n:Nat}{F:Nat->Prop}
include S
theorem uR{m:Nat}(h:HR w a m F)(hnm:n<=m){i:Nat}(hi:i<n):∃b:Bool,Hid (Calls prog 122 #[.iface hty (.pointer (some p)),.int .i64 i,.int .i64 n] w λe w'=>e=.returned (.bool b)/\HR w' (aC lt n a i).1 m F/\Fr F w w')/\
  (b=true->ig lt a n i=(aC lt n a i).1)/\Hid (b=false->∀w',HR w' (aC lt n a i).1 m F->Calls prog 125 #[.iface hty (.pointer (some p)),.int .i64 i] w' λe w''=>e=.returned (.tuple #[])/\HR w'' (ig lt a n i) m F/\Fr F w' w''):=by
 refine⟨decide (i<(aC lt n a i).2),nC S h hnm hi,λq=>?_,λq w' hr=>?_⟩
 .unfold ig;rw[if_pos (by simpa using q)]
 .have e:ig lt a n i=upF lt (aC lt n a i).1 i:=by unfold ig;rw[if_neg (by simpa using q)]
  rw[e];exact wm S hr (by omega)
theorem BD(h:HR w a n F){i:Nat}(hi:i<n):Calls prog 217 #[.iface hty (.pointer (some p)),.int .i64 i] w λe w'=>e=.returned (.tuple #[])/\HR w' (ig lt a n i) n F/\Fr F w w':=by
 obtain⟨rv,hm,HC⟩:=S.len h;have HCL:=Hd HC;have HS:=Hd S;obtain⟨oL,oI,oS,oP,oQ⟩:=S.own;have HH:=Hd h;clear HC S h;go_enter func217,ntmps217
 go_wp2_with fail
 refine HCL.out.mono ?_;clear HCL hm;rintro e w1⟨rfl,hf1⟩;obtain⟨b,HD,hb1,HU⟩:=uR HS.out (HS.out.fr HH.out hf1 (λ_ _ q=>q)) (Nat.le_refl _) hi;have HB:=Hd hb1;have HF1:Hid (Fr F w w1):=hf1.mono (λ_ q=>q.elim);clear hb1 hf1
 cases b with
 |true=>
  go_wp2_with fail
  refine HD.out.mono ?_;rintro e w2⟨rfl,hr2,hf2⟩;have HR2:Hid (HR w2 (ig lt a n i) n F/\Fr F w w2):=⟨by rw[HB.out (by first|rfl|trivial)];exact hr2,HF1.out.trans hf2 (λ_ q=>.inl q)⟩;clear hr2 hf2 HD HU HB;go_wp2;go_returns;exact⟨rfl,HR2.out⟩
 |false=>
  go_wp2_with fail
  refine HD.out.mono ?_;rintro e w2⟨rfl,hr2,hf2⟩;have HU2:=Hd (HU.out (by first|rfl|trivial) w2 hr2);have HF2:=Hd (HF1.out.trans hf2 (λ_ q=>.inl q));clear hr2 hf2 HD HU HB HF1
  go_wp2_with fail
  refine HU2.out.mono ?_;rintro e w3⟨rfl,hr3,hf3⟩;have HR3:=Hd (And.intro hr3 (HF2.out.trans hf3 (λ_ q=>.inl q)));clear hr3 hf3 HU2;go_wp2;go_returns;exact⟨rfl,HR3.out⟩
theorem rL(h:HR w a (n+1) F){i:Nat}(hi:i<=n):Calls prog 211 #[.iface hty (.pointer (some p)),.int .i64 i] w λe w'=>e=.returned (enc (a i))/\HR w' (i5 lt a n i) n F/\Fr F w w':=by
 obtain⟨rv,hm,HC⟩:=S.len h;have hn:=S.small h;have HCL:=Hd HC;have HS:=Hd S;obtain⟨oL,oI,oS,oP,oQ⟩:=S.own;have HH:=Hd h;have HL:Hid (i5 lt a n i n=a i):=Ap hi;have e1:((n+1:Nat):Int)-1=(n:Int):=by omega
 have KP:Hid (∀w1,HR w1 (i5 lt a n i) (n+1) F->∃rv,(method 420 hty (.pointer (some p)) "Pop").run prog w1=.ok (gPo,rv) w1/\Calls prog gPo #[rv] w1 λe w'=>e=.returned (enc (a i))/\HR w' (i5 lt a n i) n F/\Fr F w1 w'):=by
  intro w1 h1;rw[<-HL.out];exact HS.out.pop h1
 clear HC S h HL;generalize enc (a i)=et at KP⊢;by_cases hni:n=i
 .have HE:Hid (i5 lt a n i=a):=by unfold Hid i5;rw[if_pos hni]
  have hb:((n:Int)==(i:Int))=true:=by simp;omega
  have hb2:((n:Int) !=(i:Int))=false:=by simp;omega
  obtain rfl:i=n:=hni.symm;go_enter func211,ntmps211
  go_wp2_with fail
  refine HCL.out.mono ?_;clear HCL hm;rintro e w1⟨rfl,hf1⟩;obtain⟨rv4,hm4,HC4⟩:=KP.out w1 (by rw[HE.out];exact HS.out.fr HH.out hf1 (λ_ _ q=>q));have HCL4:=Hd HC4;have HF1:Hid (Fr F w w1):=hf1.mono (λ_ q=>q.elim);clear HC4 hf1 KP HE
  go_wp2_with fail
  refine HCL4.out.mono ?_;clear HCL4 hm4;rintro e w4⟨rfl,hr4,hf4⟩;have HR4:=Hd (And.intro hr4 (HF1.out.trans hf4 (λi q=>.inl q)));clear hr4 hf4;go_wp2;go_returns;exact⟨rfl,HR4.out⟩
 .have HE:Hid (i5 lt a n i=ig lt (swp a i n) n i):=by unfold Hid i5;rw[if_neg hni]
  have hb:((n:Int)==(i:Int))=false:=by simp;omega
  have hb2:((n:Int) !=(i:Int))=true:=by simp;omega
  have hlt:i<n:=by omega
  go_enter func211,ntmps211
  go_wp2_with fail
  refine HCL.out.mono ?_;clear HCL hm;rintro e w1⟨rfl,hf1⟩;obtain⟨rv2,hm2,HC2⟩:=HS.out.swap (HS.out.fr HH.out hf1 (λ_ _ q=>q)) (i:=i) (j:=n) (by omega) (by omega);have HCL2:=Hd HC2;have HF1:Hid (Fr F w w1):=hf1.mono (λ_ q=>q.elim);clear HC2 hf1
  go_wp2_with fail
  refine HCL2.out.mono ?_;clear HCL2 hm2;rintro e w2⟨rfl,hr2,hf2⟩;obtain⟨b,HD,hb1,HU⟩:=uR HS.out hr2 (n:=n) (by omega) hlt;have HB:=Hd hb1;have HF2:=Hd (HF1.out.trans hf2 (λ_ q=>.inl q));clear hb1 hf2 hr2 HF1
  cases b with
  |true=>
   go_wp2_with fail
   refine HD.out.mono ?_;rintro e w3⟨rfl,hr3,hf3⟩;obtain⟨rv4,hm4,HC4⟩:=KP.out w3 (by rw[HE.out,HB.out (by first|rfl|trivial)];exact hr3);have HCL4:=Hd HC4;have HF3:=Hd (HF2.out.trans hf3 (λ_ q=>.inl q));clear HC4 hf3 hr3 KP HE HD HU HB HF2
   go_wp2_with fail
   refine HCL4.out.mono ?_;clear HCL4 hm4;rintro e w4⟨rfl,hr4,hf4⟩;have HR4:=Hd (And.intro hr4 (HF3.out.trans hf4 (λi q=>.inl q)));clear hr4 hf4;go_wp2;go_returns;exact⟨rfl,HR4.out⟩
  |false=>
   go_wp2_with fail
   refine HD.out.mono ?_;rintro e w3⟨rfl,hr3,hf3⟩;have HU2:=Hd (HU.out (by first|rfl|trivial) w3 hr3);have HF3:=Hd (HF2.out.trans hf3 (λ_ q=>.inl q));clear hf3 hr3 HD HU HB HF2
   go_wp2_with fail
   refine HU2.out.mono ?_;rintro e w5⟨rfl,hr5,hf5⟩;obtain⟨rv4,hm4,HC4⟩:=KP.out w5 (by rw[HE.out];exact hr5);have HCL4:=Hd HC4;have HF5:=Hd (HF3.out.trans hf5 (λ_ q=>.inl q));clear HC4 hf5 hr5 KP HE HU2 HF3
   go_wp2_with fail
   refine HCL4.out.mono ?_;clear HCL4 hm4;rintro e w4⟨rfl,hr4,hf4⟩;have HR4:=Hd (And.intro hr4 (HF5.out.trans hf4 (λi q=>.inl q)));clear hr4 hf4;go_wp2;go_returns;exact⟨rfl,HR4.out⟩
end
end
section
open Go.RowKit
theorem run_underlying{P:Program}{t:TypeId}{d:TypeDesc}(w:World)(h:P.underlying t=some d):(underlying t).run P w=.ok d w:=by
 unfold underlying;simp[go_sem,h]
theorem eS{P:Program}{fuel:Nat}{t e:TypeId}{i:TypeInfo}{f:FuncId}{v:Value}{p:Addr}{w:World}{name:String}(hi:P.info? t=some i)(hm:(i.methods.find? (λm=>m.name==name)).map (λm=>(m.path.toList,m.func))=some ([],some (f,false)))
  (hu:P.underlying t=some (.pointer e))(hagg:(isAgg e).run P w=.ok false w)(hc:w.cell? p=some v):(method (fuel+1) t (.pointer (some p)) name).run P w=.ok (f,v) w:=by
 obtain⟨m,hm1,hm2⟩:=Option.map_eq_some_iff.1 hm;simp only[Prod.mk.injEq]at hm2;obtain⟨hp,hf⟩:=hm2
 have hpe:m.path.isEmpty=true:=by
  have:m.path=#[]:=by apply Array.ext';rw[hp]
  rw[this];rfl
 unfold method;simp only[Sem.run_bind,run_typeInfo _ hi,Result.andThen_ok,hm1,hp,follow,Sem.run_pure,hf,receiverAt,run_underlying _ hu,Place.get,hpe,if_true];have hw:(Builtin.ssaWrapNilChk_ #[t] t #[.pointer (some p),strVal "",strVal ((name.splitOn ".").getLastD name)]).run P w=.ok (.pointer (some p)) w:=rfl
 have hl:(loadVar e p).run P w=.ok v w:=by
  unfold loadVar;rw[Sem.run_bind,hagg];simp[hc,go_sem]
 have ha:(asAddr (.pointer (some p))).run P w=.ok p w:=rfl;simp only[hw,Result.andThen_ok,ha,hl]
theorem bJ{P:Program}{fuel:Nat}{t e:TypeId}{i:TypeInfo}{f:FuncId}{p:Addr}{w:World}{name:String}(hi:P.info? t=some i)(hm:(i.methods.find? (λm=>m.name==name)).map (λm=>(m.path.toList,m.func))=some ([],some (f,true)))
  (hu:P.underlying t=some (.pointer e)):(method (fuel+1) t (.pointer (some p)) name).run P w=.ok (f,.pointer (some p)) w:=by
 obtain⟨m,hm1,hm2⟩:=Option.map_eq_some_iff.1 hm;simp only[Prod.mk.injEq]at hm2;obtain⟨hp,hf⟩:=hm2;unfold method;simp only[Sem.run_bind,run_typeInfo _ hi,Result.andThen_ok,hm1,hp,follow,Sem.run_pure,hf,receiverAt,run_underlying _ hu,Place.get]
theorem bh{P:Program}{t:TypeId}{name:String}{f:FuncId}{b:Bool}(h:(P.info? t).bind (λi=>(i.methods.find? (λm=>m.name==name)).map (λm=>(m.path.toList,m.func)))=some ([],some (f,b))):
  ∃i,P.info? t=some i/\(i.methods.find? (λm=>m.name==name)).map (λm=>(m.path.toList,m.func))=some ([],some (f,b)):=Option.bind_eq_some_iff.1 h
end
end Go.Proofs.YtkjhnllcphidpaaGreatDoor
