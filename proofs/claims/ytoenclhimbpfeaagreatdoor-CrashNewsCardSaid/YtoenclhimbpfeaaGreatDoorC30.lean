/- Part 30. -/
import Derived.Test.YtoenclhimbpfeaaGreatDoorC29
namespace Go.Proofs.YtoenclhimbpfeaaGreatDoor
set_option linter.all false
set_option maxHeartbeats 16000000
set_option maxRecDepth 100000
section
open Go.RowKit
def PrS.rot(s:PrS)(j:Nat):List En:=s.L.drop (s.hd j)++s.L.take (s.hd j)
structure Kept(s s':PrS):Prop where
 pg:s'.pg=s.pg
 on:s'.on=s.on
 gn:s'.gone<=s.gone
 K:∀(a b:Nat),s'.K a b↔s.K a b
theorem Kept.refl(s:PrS):Kept s s:=⟨rfl,rfl,Nat.le_refl _,fun _ _=>Iff.rfl⟩
theorem Kept.trans{a b c:PrS}(h:Kept a b)(k:Kept b c):Kept a c:=⟨k.pg.trans h.pg,k.on.trans h.on,Nat.le_trans k.gn h.gn,fun x y=>(k.K x y).trans (h.K x y)⟩
theorem PM.kept{n:Nat}{s s':PrS}(h:PM n s)(k:Kept s s'):PM n s':=h.of k.pg k.on k.K
section
variable{n m:Nat}{s s' fin:PrS}{i j:Nat}{x y:En}
theorem rot_cons(hx:s.L[s.hd j]?=some x):s.rot j=x::(s.L.drop (s.hd j+1)++s.L.take (s.hd j)):=by
 unfold PrS.rot;have:=get_lt hx;rw[List.drop_eq_getElem_cons this];rw[List.getElem?_eq_getElem this]at hx;simp only[Option.some.injEq]at hx;rw[hx];rfl
theorem rot_put_mv(hi:s.hd j<s.L.length)(y:En):((s.put (s.hd j) y).mv j).rot j=s.L.drop (s.hd j+1)++s.L.take (s.hd j)++[y]:=by
 unfold PrS.rot PrS.put PrS.mv;simp only[upd_same,List.length_set];generalize s.hd j=h at*
 have tk:(s.L.set h y).take (h+1)=s.L.take h++[y]:=by
  apply List.ext_getElem?;intro k;rw[List.getElem?_take,List.getElem?_set];have hl:(s.L.take h).length=h:=by rw[List.length_take];omega
  by_cases e:k<h
  .rw[if_pos (by omega),if_neg (by omega),List.getElem?_append_left (by omega),List.getElem?_take,if_pos e]
  .by_cases e2:k=h
   .subst e2;rw[if_pos (by omega),if_pos rfl,if_pos hi,List.getElem?_append_right (by omega),hl];simp
   .rw[if_neg (by omega),List.getElem?_append_right (by omega),hl,List.getElem?_eq_none (by simp;omega)]
 by_cases e:h+1<s.L.length
 .rw[Nat.mod_eq_of_lt e,tk,List.drop_set_of_lt (by omega),List.append_assoc]
 .have:h+1=s.L.length:=by omega
  rw[this,Nat.mod_self,List.drop_zero,List.take_zero,List.append_nil,List.drop_length,List.nil_append,<-tk,this,List.take_of_length_le (by simp)]
theorem rot_mv(hx:s.L[s.hd j]?=some x):(s.mv j).rot j=s.L.drop (s.hd j+1)++s.L.take (s.hd j)++[x]:=by
 have h:=rot_put_mv (j:=j) (get_lt hx) x
 have e:s.L.set (s.hd j) x=s.L:=by
  apply List.ext_getElem?;intro k;rw[List.getElem?_set];by_cases q:s.hd j=k
  .rw[<-q,if_pos rfl,if_pos (get_lt hx),hx]
  .rw[if_neg q]
 have e2:s.put (s.hd j) x=s:=by unfold PrS.put;rw[e]
 rw[e2]at h;exact h
theorem rot_drop(hi:s.hd j<s.L.length):(s.drop (s.hd j)).rot j=s.L.drop (s.hd j+1)++s.L.take (s.hd j):=by
 unfold PrS.rot PrS.drop dropH;simp only[Nat.lt_irrefl,if_false];generalize s.hd j=h at*;rw[List.eraseIdx_eq_take_drop_succ];have hl:(s.L.take h).length=h:=by rw[List.length_take];omega
 by_cases e:s.L.length-1<=h
 .rw[if_pos e,List.drop_zero,List.take_zero,List.append_nil,List.drop_eq_nil_of_le (by omega),List.append_nil,List.nil_append]
 .rw[if_neg e,List.drop_append_of_le_length (by omega),List.drop_eq_nil_of_le (by omega),List.nil_append,List.take_append_of_le_length (by omega),List.take_of_length_le (by omega)]
theorem rot_count(p:En->Bool):(s.rot j).countP p=s.L.countP p:=by
 unfold PrS.rot;rw[List.countP_append,Nat.add_comm,<-List.countP_append,List.take_append_drop]
theorem ends_kept(h:PK n m s)(hx:s.L[i]?=some x):PK n m (s.ends i x)∧Kept s (s.ends i x):=by
 obtain⟨q1,q2,q3,q4⟩:=h.el x (mem_get hx);unfold PrS.ends;by_cases hg:x.fr<0
 .rw[if_pos hg]
  have hx':s.less.L[i]?=some x:=hx;exact⟨h.less.drop hx',rfl,rfl,by have:=drop_gone hx';have e:s.less.gone=s.gone:=rfl;omega,fun a b=>by rw[drop_K h.less hx'];exact⟨fun q=>q.1,fun q=>⟨q,by omega⟩⟩⟩
 .rw[if_neg hg]
  have hx':s.less.L[i]?=some x:=hx;exact⟨h.less.put (y:={x with test:=false}) hx' rfl rfl (fun q=>(hg q).elim) (fun _=>rfl),rfl,rfl,Nat.le_of_eq (put_gone (s:=s.less) (y:={x with test:=false}) hx' rfl),fun a b=>put_K (y:={x with test:=false}) hx' rfl rfl a b⟩
theorem ends_hot(hx:s.L[i]?=some x)(hc:x.hot=false):(s.ends i x).hotN=s.hotN:=by
 have hx':s.less.L[i]?=some x:=hx;unfold PrS.ends
 split
 .have h1:=drop_hot hx'
  rw[hc]at h1;have h2:s.less.hotN=s.hotN:=rfl;simp at h1;omega
 .have h1:=put_hot (y:={x with test:=false}) hx'
  have h2:s.less.hotN=s.hotN:=rfl;have h3:({x with test:=false}:En).hot=x.hot:=rfl;rw[h3]at h1;omega
theorem hotStep_kept(h:PK n m s)(hx:s.L[s.hd 0]?=some x):PK n m (hotStep s x).1∧Kept s (hotStep s x).1∧(hotStep s x).1.hotN+(if(hotStep s x).2=true then 1 else 0)=s.hotN:=by
 obtain⟨q1,q2,q3,q4⟩:=h.el x (mem_get hx);have hi:=get_lt hx;unfold hotStep;by_cases hh:x.hot=true
 .rw[if_pos hh]
  have hnf:¬x.fr<0:=fun q=>by have:=(q3 q).1;rw[q4 hh]at this;cases this
  by_cases hr:x.ref=true
  .rw[if_pos hr]
   refine⟨(h.put (y:={x with ref:=false}) hx rfl rfl (fun q=>(hnf q).elim) q4).mv (by show 0<(s.L.set _ _).length;rw[List.length_set];omega) 0,⟨rfl,rfl,Nat.le_of_eq (put_gone (y:={x with ref:=false}) hx rfl),fun a b=>put_K (y:={x with ref:=false}) hx rfl rfl a b⟩,?_⟩;have h1:=put_hot (y:={x with ref:=false}) hx;have h2:((s.put (s.hd 0) {x with ref:=false}).mv 0).hotN=(s.put (s.hd 0) {x with ref:=false}).hotN:=rfl;have h3:({x with ref:=false}:En).hot=x.hot:=rfl;rw[h3]at h1;simp only[h2,Bool.false_eq_true,if_false];omega
  .rw[if_neg hr]
   refine⟨(h.put (y:={x with hot:=false}) hx rfl rfl (fun q=>(hnf q).elim) (fun q=>(by cases q))).mv (by show 0<(s.L.set _ _).length;rw[List.length_set];omega) 0,⟨rfl,rfl,Nat.le_of_eq (put_gone (y:={x with hot:=false}) hx rfl),fun a b=>put_K (y:={x with hot:=false}) hx rfl rfl a b⟩,?_⟩;have h1:=put_hot (y:={x with hot:=false}) hx;have h2:((s.put (s.hd 0) {x with hot:=false}).mv 0).hotN=(s.put (s.hd 0) {x with hot:=false}).hotN:=rfl;have h3:({x with hot:=false}:En).hot=false:=rfl;rw[h3,hh]at h1;simp only[Bool.false_eq_true,if_false,if_true]at h1;simp only[h2,if_true];omega
 .rw[if_neg hh]
  have hc:x.hot=false:=by simpa using hh
  by_cases ht:x.test=true
  .rw[if_pos ht]
   obtain⟨k1,k2⟩:=ends_kept h hx;have k3:=ends_hot hx hc;by_cases hg:x.fr<0
   .rw[if_pos hg];exact⟨k1,k2,by simpa using k3⟩
   .rw[if_neg hg]
    have hlen:0<(s.ends (s.hd 0) x).L.length:=by unfold PrS.ends;rw[if_neg hg];show 0<(s.L.set _ _).length;rw[List.length_set];omega
    exact⟨k1.mv hlen 0,⟨k2.pg,k2.on,k2.gn,k2.K⟩,by simp only[Bool.false_eq_true,if_false];exact k3⟩
  .rw[if_neg ht]
   exact⟨h.mv (by omega) 0,⟨rfl,rfl,Nat.le_refl _,fun _ _=>Iff.rfl⟩,by simp;rfl⟩
theorem workO_kept:∀{k:Nat} {s fin:PrS},PK n m s->workO k s=some fin->PK n m fin∧Kept s fin∧fin.hotN=s.hotN-1
 |0,s,fin,_,e=>by cases e
 |k+1,s,fin,h,e=>by
  unfold workO at e;by_cases h0:s.hotN=0
  .rw[if_pos h0]at e;cases e;exact⟨h,Kept.refl _,by omega⟩
  .rw[if_neg h0]at e
   obtain⟨x,hx⟩:=h.at (hot_pos h0) (j:=0) (by omega);obtain⟨k1,k2,k3⟩:=hotStep_kept h hx;rw[hx]at e;simp only at e;by_cases hd:(hotStep s x).2=true
   .rw[if_pos hd]at e k3;cases e;exact⟨k1,k2,by omega⟩
   .rw[if_neg hd]at e k3
    obtain⟨j1,j2,j3⟩:=workO_kept (k:=k) k1 e;exact⟨j1,k2.trans j2,by omega⟩
theorem first_of{p:En->Bool}:∀{l:List En},(∃x∈l,p x=true)->∃A x B,l=A++x::B∧(∀a∈A,p a=false)∧p x=true
 |[],⟨_,h,_⟩=>by cases h
 |a::l,⟨x,h,q⟩=>by
  by_cases ha:p a=true
  .exact⟨[],a,l,rfl,fun _ q=>(by cases q),ha⟩
  .have:∃x∈l,p x=true:=by
    rcases List.mem_cons.1 h with rfl|h
    .exact(ha q).elim
    .exact⟨x,h,q⟩
   obtain⟨A,y,B,e,q1,q2⟩:=first_of this;refine⟨a::A,y,B,by rw[e];rfl,fun b hb=>?_,q2⟩;rcases List.mem_cons.1 hb with rfl|hb
   .simpa using ha
   .exact q1 b hb
def hr(e:En):Bool:=e.hot&&e.ref
theorem hot_of_mem(hx:x∈s.rot 0)(hh:x.hot=true):¬s.hotN=0:=by
 intro e;have:(s.rot 0).countP (fun e=>e.hot)=0:=by rw[rot_count];exact e
 have:=List.countP_eq_zero.1 this x hx;exact this hh
theorem work_ends:∀(c:Nat) (A:List En) {s:PrS} {x:En} {B:List En},PK n m s->s.rot 0=A++x::B->(∀a∈A,a.hot=false)->x.hot=true->(s.rot 0).countP hr=c->∃k fin,workO k s=some fin:=by
 intro c
 induction c using Nat.strongRecOn with
 |_ c ih=>
  intro A
  induction A with
  |nil=>
   intro s x B h hr1 hA hh hc;have h0:=hot_of_mem (s:=s) (x:=x) (by rw[hr1];simp) hh;obtain⟨x',hx⟩:=h.at (hot_pos h0) (j:=0) (by omega);have e:=rot_cons hx;rw[hr1]at e;simp only[List.nil_append,List.cons.injEq]at e;obtain⟨rfl,eB⟩:=e;by_cases hrf:x.ref=true
   .have hs:hotStep s x=((s.put (s.hd 0) {x with ref:=false}).mv 0,false):=by unfold hotStep;rw[if_pos hh,if_pos hrf]
    have hk:=(hotStep_kept h hx).1;rw[hs]at hk;have e2:=rot_put_mv (j:=0) (get_lt hx) {x with ref:=false};rw[<-eB]at e2;obtain⟨A',x',B',q1,q2,q3⟩:=first_of (p:=fun e:En=>e.hot) (l:=B++[{x with ref:=false}]) ⟨{x with ref:=false},List.mem_append.2 (.inr (List.mem_singleton.2 rfl)),hh⟩
    have hc2:(B++[{x with ref:=false}]).countP hr<c:=by
     rw[<-hc,hr1];simp[List.countP_append,List.countP_cons,hr,hh,hrf]
    obtain⟨k,fin,hk2⟩:=ih _ hc2 A' (s:=(s.put (s.hd 0) {x with ref:=false}).mv 0) (x:=x') (B:=B') hk (by rw[e2];exact q1) q2 q3 (by rw[e2]);refine⟨k+1,fin,?_⟩;rw[workO,if_neg h0,hx];simp only[hs];exact hk2
   .refine⟨1,(s.put (s.hd 0) {x with hot:=false}).mv 0,?_⟩
    have hs:hotStep s x=((s.put (s.hd 0) {x with hot:=false}).mv 0,true):=by unfold hotStep;rw[if_pos hh,if_neg hrf]
    rw[workO,if_neg h0,hx];simp only[hs,if_true]
  |cons a A ihA=>
   intro s x B h hr1 hA hh hc;have h0:=hot_of_mem (s:=s) (x:=x) (by rw[hr1];simp) hh;obtain⟨a',hx⟩:=h.at (hot_pos h0) (j:=0) (by omega);have e:=rot_cons hx;rw[hr1]at e;simp only[List.cons_append,List.cons.injEq]at e;obtain⟨rfl,eB⟩:=e;have hna:a.hot=false:=hA a (List.mem_cons_self ..);have hk:=(hotStep_kept h hx).1;have hra:hr a=false:=by simp[hr,hna]
   have step:∀(t:PrS) (T:List En),hotStep s a=(t,false)->t.rot 0=A++x::(B++T)->T.countP hr=0->∃k fin,workO k s=some fin:=by
    intro t T hs ht hT;rw[hs]at hk
    have hc2:(t.rot 0).countP hr=c:=by
     rw[<-hc,hr1,ht];simp[List.countP_append,List.countP_cons,hra,hT]
    obtain⟨k,fin,hk2⟩:=ihA (s:=t) (x:=x) (B:=B++T) hk ht (fun b hb=>hA b (List.mem_cons_of_mem _ hb)) hh hc2;refine⟨k+1,fin,?_⟩;rw[workO,if_neg h0,hx];simp only[hs];exact hk2
   by_cases ht:a.test=true
   .by_cases hg:a.fr<0
    .refine step (s.less.drop (s.hd 0)) [] ?_ ?_ rfl
     .unfold hotStep PrS.ends;simp only[hna,ht,hg,if_true,if_false,Bool.false_eq_true]
     .have:=rot_drop (s:=s.less) (j:=0) (get_lt hx)
      rw[List.append_nil,eB];exact this
    .refine step ((s.less.put (s.hd 0) {a with test:=false}).mv 0) [{a with test:=false}] ?_ ?_ (by simp[hr,hna])
     .unfold hotStep PrS.ends;simp only[hna,ht,hg,if_true,if_false,Bool.false_eq_true]
     .have:=rot_put_mv (s:=s.less) (j:=0) (get_lt hx) {a with test:=false}
      rw[show A++x::(B++[{a with test:=false}])=(A++x::B)++[{a with test:=false}]from by simp,eB];exact this
   .refine step (s.mv 0) [a] ?_ ?_ (by simp[hr,hna])
    .unfold hotStep;simp only[hna,ht,if_true,if_false,Bool.false_eq_true]
    .have:=rot_mv (s:=s) (j:=0) hx
     rw[show A++x::(B++[a])=(A++x::B)++[a]from by simp,eB];exact this
theorem work_some(h:PK n m s)(h0:¬s.hotN=0):∃k,workO k s=some s.work:=by
 have:∃x∈s.rot 0,x.hot=true:=by
  have h1:¬(s.rot 0).countP (fun e=>e.hot)=0:=by rw[rot_count];exact h0
  rw[List.countP_eq_zero]at h1;exact Classical.byContradiction fun q=>h1 (fun a ha hh=>q ⟨a,ha,hh⟩)
 obtain⟨A,x,B,e,q1,q2⟩:=first_of (p:=fun e:En=>e.hot) this;obtain⟨k,fin,hk⟩:=work_ends _ A h e q1 q2 rfl;have hex:∃p:Nat×PrS,workO p.1 s=some p.2:=⟨(k,fin),hk⟩;refine⟨hex.choose.1,?_⟩;have:s.work=hex.choose.2:=by unfold PrS.work;rw[dif_pos hex]
 rw[this];exact hex.choose_spec
theorem coolO_ok:∀{k:Nat} {s:PrS},PK n m s->s.hotN<k->∃fin,coolO n k s=some fin∧PK n m fin∧Kept s fin
 |0,s,_,hk=>by omega
 |k+1,s,h,hk=>by
  unfold coolO;by_cases hc:s.hotN<=n-s.goal
  .exact⟨s,by rw[if_pos hc],h,Kept.refl _⟩
  .rw[if_neg hc]
   obtain⟨j,hj⟩:=work_some h (by omega);obtain⟨j1,j2,j3⟩:=workO_kept h hj;obtain⟨fin,q1,q2,q3⟩:=coolO_ok (k:=k) j1 (by omega);exact⟨fin,q1,q2,j2.trans q3⟩
theorem cool_ok(h:PK n m s):coolO n (s.hotN+1) s=some (s.cool n)∧PK n m (s.cool n)∧Kept s (s.cool n):=by
 obtain⟨fin,q1,q2,q3⟩:=coolO_ok (n:=n) h (Nat.lt_succ_self s.hotN);have:s.cool n=fin:=by unfold PrS.cool;rw[q1];rfl
 rw[this];exact⟨q1,q2,q3⟩
theorem testStep_kept(h:PK n m s)(hx:s.L[s.hd 2]?=some x):PK n m (testStep s x)∧Kept s (testStep s x):=by
 have hi:=get_lt hx;obtain⟨k1,k2⟩:=ends_kept h hx;unfold testStep;by_cases ht:x.test=true
 .rw[if_pos ht]
  by_cases hg:x.fr<0
  .rw[if_pos hg];exact⟨k1,k2⟩
  .rw[if_neg hg]
   have hlen:0<(s.ends (s.hd 2) x).L.length:=by unfold PrS.ends;rw[if_neg hg];show 0<(s.L.set _ _).length;rw[List.length_set];omega
   exact⟨k1.mv hlen 2,⟨k2.pg,k2.on,k2.gn,k2.K⟩⟩
 .rw[if_neg ht];exact⟨h.mv (by omega) 2,⟨rfl,rfl,Nat.le_refl _,fun _ _=>Iff.rfl⟩⟩
theorem PK.le{m':Nat}(h:PK n m s)(hm:s.gone<=m'):PK n m' s:=⟨h.hl,h.uq,h.el,hm,h.gl,h.n1⟩
theorem test_ends:∀(A:List En) {s:PrS} {x:En} {B:List En},PK n (n+1) s->s.rot 2=A++x::B->(∀a∈A,¬a.fr<0)->x.fr<0->∃k fin,testO n k s=some fin∧PK n n fin∧Kept s fin:=by
 intro A
 induction A with
 |nil=>
  intro s x B h hr1 hA hg;by_cases h1:s.gone<=n
  .exact⟨1,s,by rw[testO,if_pos h1],h.le h1,Kept.refl _⟩
  .obtain⟨x',hx⟩:=h.at (gone_pos (by omega)) (j:=2) (by omega)
   have e:=rot_cons hx;rw[hr1]at e;simp only[List.nil_append,List.cons.injEq]at e;obtain⟨rfl,eB⟩:=e;obtain⟨k1,k2⟩:=testStep_kept h hx;have hd:testStep s x=s.less.drop (s.hd 2):=by unfold testStep PrS.ends;rw[if_pos ((h.el x (mem_get hx)).2.2.1 hg).1,if_pos hg,if_pos hg]
   have hgn:(testStep s x).gone<=n:=by
    have h2:=drop_gone (s:=s.less) (i:=s.hd 2) (x:=x) hx;rw[if_pos hg]at h2;have h3:s.less.gone=s.gone:=rfl;have h4:=h.ng;rw[hd];omega
   refine⟨2,testStep s x,?_,k1.le hgn,k2⟩;rw[testO,if_neg h1,hx];simp only;rw[testO,if_pos hgn]
 |cons a A ih=>
  intro s x B h hr1 hA hg;by_cases h1:s.gone<=n
  .exact⟨1,s,by rw[testO,if_pos h1],h.le h1,Kept.refl _⟩
  .obtain⟨a',hx⟩:=h.at (gone_pos (by omega)) (j:=2) (by omega)
   have e:=rot_cons hx;rw[hr1]at e;simp only[List.cons_append,List.cons.injEq]at e;obtain⟨rfl,eB⟩:=e;have hna:¬a.fr<0:=hA a (List.mem_cons_self ..);obtain⟨k1,k2⟩:=testStep_kept h hx
   have hrot:∃T,(testStep s a).rot 2=A++x::(B++T):=by
    unfold testStep PrS.ends;rw[if_neg hna,if_neg hna];by_cases ht:a.test=true
    .rw[if_pos ht]
     have:=rot_put_mv (s:=s.less) (j:=2) (get_lt hx) {a with test:=false};exact⟨[{a with test:=false}],by rw[show A++x::(B++[{a with test:=false}])=(A++x::B)++[{a with test:=false}]from by simp,eB];exact this⟩
    .rw[if_neg ht]
     have:=rot_mv (s:=s) (j:=2) hx;exact⟨[a],by rw[show A++x::(B++[a])=(A++x::B)++[a]from by simp,eB];exact this⟩
   obtain⟨T,hT⟩:=hrot;obtain⟨k,fin,q1,q2,q3⟩:=ih k1 hT (fun b hb=>hA b (List.mem_cons_of_mem _ hb)) hg;refine⟨k+1,fin,?_,q2,k2.trans q3⟩;rw[testO,if_neg h1,hx];exact q1
theorem testO_one:∀{k k':Nat} {s fin fin':PrS},testO n k s=some fin->testO n k' s=some fin'->fin=fin'
 |0,_,s,_,_,e,_=>by cases e
 |_+1,0,s,_,_,_,e=>by cases e
 |k+1,k'+1,s,fin,fin',e,e'=>by
  unfold testO at e e';by_cases h0:s.gone<=n
  .rw[if_pos h0]at e e';cases e;cases e';rfl
  .rw[if_neg h0]at e e'
   cases hx:s.L[s.hd 2]? with
   |none=>rw[hx]at e;cases e
   |some x=>
    rw[hx]at e e';exact testO_one (k:=k) (k':=k') e e'
theorem tests_ok(h:PK n (n+1) s):(∃k,testO n k s=some (s.tests n))∧PK n n (s.tests n)∧Kept s (s.tests n):=by
 have hex:∃k fin,testO n k s=some fin∧PK n n fin∧Kept s fin:=by
  by_cases h1:s.gone<=n
  .exact⟨1,s,by rw[testO,if_pos h1],h.le h1,Kept.refl _⟩
  .have:∃x∈s.rot 2,decide (x.fr<0)=true:=by
    have h1:¬(s.rot 2).countP (fun e=>decide (e.fr<0))=0:=by rw[rot_count];unfold PrS.gone at h1;omega
    rw[List.countP_eq_zero]at h1;exact Classical.byContradiction fun q=>h1 (fun a ha hh=>q ⟨a,ha,hh⟩)
   obtain⟨A,x,B,e,q1,q2⟩:=first_of (p:=fun e:En=>decide (e.fr<0)) this;exact test_ends A h e (fun a ha=>by have:=q1 a ha;simpa using this) (by simpa using q2)
 obtain⟨k,fin,q1,q2,q3⟩:=hex;have hx2:∃p:Nat×PrS,testO n p.1 s=some p.2:=⟨(k,fin),q1⟩;have:s.tests n=hx2.choose.2:=by unfold PrS.tests;rw[dif_pos hx2]
 have e2:s.tests n=fin:=by rw[this];exact testO_one hx2.choose_spec q1
 rw[e2];exact⟨⟨k,q1⟩,q2,q3⟩
end
section
variable{n m:Nat}{s s' fin:PrS}{i j:Nat}{x y:En}
theorem again_K(h:PK n m s)(hx:s.L[i]?=some x)(e1:y.pg=x.pg)(e2:y.fr=x.fr)(a b:Nat):((s.drop i).lay y).K a b↔s.K a b:=by
 rw[lay_K,drop_K h hx];constructor
 .rintro(⟨q1,q2⟩|⟨q,_⟩)
  .exact⟨x,mem_get hx,by rw[<-e2];exact q1,by rw[<-e1];exact q2⟩
  .exact q
 .rintro⟨z,hz,q1,q2⟩
  by_cases e:x.fr=a
  .left
   obtain⟨k,hk⟩:=List.getElem?_of_mem hz;have:=h.uq i k x z hx hk (.inr ⟨by rw[e,q1],by omega⟩);subst this;rw[hx]at hk;cases hk
   exact⟨by rw[e2];exact q1,by rw[e1];exact q2⟩
  .exact .inr ⟨⟨z,hz,q1,q2⟩,e⟩
def En.turn(x:En):En:={x with ref:=false,hot:=x.test,test:=!x.test}
theorem turn_pre(h:PK n m s)(hx:s.L[i]?=some x)(hf:0<=x.fr):PK n m (((s.mv 1).drop i).lay x.turn)∧Kept s (((s.mv 1).drop i).lay x.turn):=by
 have h1:=h.mv (by have:=get_lt hx;omega) 1;have hx':(s.mv 1).L[i]?=some x:=hx;refine⟨h1.again (y:=x.turn) hx' rfl rfl hf (fun q=>?_),lay_pg.1,lay_pg.2.1,?_,fun a b=>again_K (y:=x.turn) h1 hx' rfl rfl a b⟩
 .have q:x.test=true:=q
  show(!x.test)=false
  rw[q];rfl
 .have e1:=lay_gone (s:=(s.mv 1).drop i) (x:=x.turn)
  have e2:=drop_gone hx';have e3:x.turn.fr=x.fr:=rfl;have e4:(s.mv 1).gone=s.gone:=rfl;rw[e3]at e1;omega
theorem turn_ok(h:PK n m s)(hx:s.L[i]?=some x)(hf:0<=x.fr):PK n m (s.turn n i x)∧Kept s (s.turn n i x):=by
 obtain⟨k1,k2⟩:=turn_pre h hx hf;obtain⟨_,k3,k4⟩:=cool_ok k1;exact⟨k3,k2.trans k4⟩
theorem send_pre(h:PK n n s)(hm:PM n s)(hx:s.L[i]?=some x)(hf:0<=x.fr)(hr:x.ref=false)(ht:x.test=true):
  PK n (n+1) (((s.mv 1).empty x.fr.toNat).put i {x with fr:= -1})∧PM n (((s.mv 1).empty x.fr.toNat).put i {x with fr:= -1}):=by
 have hi:=get_lt hx;have h1:=h.mv (by omega) 1;obtain⟨q1,q2,q3,q4⟩:=h.el x (mem_get hx)
 have hh:x.hot=false:=by cases e:x.hot with
  |false=>rfl
  |true=>have:=q4 e;rw[ht]at this;cases this
 have hx':((s.mv 1).empty x.fr.toNat).L[i]?=some x:=hx
 have hk:∀(a b:Nat),(((s.mv 1).empty x.fr.toNat).put i {x with fr:= -1}).K a b↔s.K a b∧¬x.fr=a:=by
  intro a b;constructor
  .rintro⟨z,hz,p1,p2⟩
   obtain⟨k,hk⟩:=List.getElem?_of_mem hz;have hk:(s.L.set i {x with fr:= -1})[k]?=some z:=hk;rw[List.getElem?_set]at hk;by_cases e:i=k
   .rw[if_pos e,if_pos (by omega)]at hk
    cases hk
    have p1:(-1:Int)=a:=p1;omega
   .rw[if_neg e]at hk
    exact⟨⟨z,mem_get hk,p1,p2⟩,fun q=>e (h.uq i k x z hx hk (.inr ⟨by rw[q,p1],hf⟩))⟩
  .rintro⟨⟨z,hz,p1,p2⟩,hne⟩
   obtain⟨k,hk⟩:=List.getElem?_of_mem hz;have e:¬i=k:=by rintro rfl;rw[hx]at hk;cases hk;exact hne p1
   exact⟨z,List.mem_of_getElem? (i:=k) (by show(s.L.set i _)[k]?=_;rw[List.getElem?_set,if_neg e];exact hk),p1,p2⟩
 have ex:((x.fr.toNat:Nat):Int)=x.fr:=by omega
 refine⟨⟨fun j hj=>.inl ?_,set_uq h.uq hx rfl (.inr (by show(-1:Int)<0;omega)),fun z hz=>?_,?_,h.gl,h.n1⟩,fun a b k=>?_,fun f hf' k=>?_⟩
 .show(s.mv 1).hd j<(s.L.set i _).length
  rw[List.length_set];exact h1.lt (by show 0<s.L.length;omega) hj
 .rcases set_mem hz with rfl|hz
  .exact⟨⟨by show(-1:Int)≤-1;omega,by show(-1:Int)<n;omega⟩,q2,fun _=>⟨ht,hr⟩,q4⟩
  .exact h.el z hz
 .have e:=countP_set (p:=fun e:En=>decide (e.fr<0)) (y:={x with fr:= -1}) hx
  have h2:=h.ng;unfold PrS.gone at h2⊢
  show(s.L.set i _).countP _<=n+1
  simp only[show decide (x.fr<0)=false from by simp;omega]at e;simp at e;omega
 .obtain⟨k1,k2⟩:=(hk a b).1 k
  show upd s.pg x.fr.toNat 0 a=b
  rw[upd_other _ _ (by omega)];exact hm.pf a b k1
 .show upd s.pg x.fr.toNat 0 f=0∧upd s.on x.fr.toNat false f=false
  by_cases e:f=x.fr.toNat
  .subst e;exact⟨upd_same ..,upd_same ..⟩
  .rw[upd_other _ _ e,upd_other _ _ e]
   exact hm.p0 f hf' (fun b q=>k b ((hk f b).2 ⟨q,by omega⟩))
theorem send_ok(h:PK n n s)(hm:PM n s)(hx:s.L[i]?=some x)(hf:0<=x.fr)(hr:x.ref=false):
  PK n n (s.send n i x)∧PM n (s.send n i x)∧(s.send n i x).pg=upd s.pg x.fr.toNat 0∧(s.send n i x).on=upd s.on x.fr.toNat false:=by
 unfold PrS.send;by_cases ht:x.test=true
 .rw[if_pos ht]
  obtain⟨k1,k2⟩:=send_pre h hm hx hf hr ht;obtain⟨_,k3,k4⟩:=tests_ok k1;exact⟨k3,k2.kept k4,k4.pg,k4.on⟩
 .rw[if_neg ht]
  have h1:=h.mv (by have:=get_lt hx;omega) 1;have hm1:PM n (s.mv 1):=hm.of rfl rfl (fun _ _=>Iff.rfl);exact⟨(h1.empty _).drop hx,hm1.out h1 hx hf,rfl,rfl⟩
theorem idle_not(h:PK n m s)(hx:s.L[i]?=some x)(hi:¬s.idle x=true):0<=x.fr∧x.hot=false∧(x.ref=false->s.on x.fr.toNat=true):=by
 unfold PrS.idle at hi
 cases h1:x.hot
 .cases h2:decide (x.fr<0)
  .refine⟨by simpa using h2,rfl,fun h3=>?_⟩
   rw[h1,h2,h3]at hi;simpa using hi
  .rw[h2]at hi;simp at hi
 .rw[h1]at hi;simp at hi
def VicOk(n:Nat)(s:PrS)(r:PrS×Option Nat):Prop:=
 PK n n r.1∧PM n r.1∧match r.2 with
 |none=>Kept s r.1
 |some f=>f<n∧¬s.pg f=0∧s.on f=true∧r.1.pg=upd s.pg f 0∧r.1.on=upd s.on f false
theorem pg_of(h:PK n m s)(hm:PM n s)(hx:s.L[i]?=some x)(hf:0<=x.fr):x.fr.toNat<n∧s.pg x.fr.toNat=x.pg∧1<=x.pg:=by
 obtain⟨q1,q2,_,_⟩:=h.el x (mem_get hx);exact⟨by omega,hm.pf _ _ ⟨x,mem_get hx,by omega,rfl⟩,q2.1⟩
theorem vicL_ok:∀(k:Nat) {s:PrS},PK n n s->PM n s->VicOk n s (vicL n k s)
 |0,s,h,hm=>⟨h,hm,Kept.refl s⟩
 |k+1,s,h,hm=>by
  unfold vicL
  cases hx:s.L[s.hd 1]? with
  |none=>exact⟨h,hm,Kept.refl s⟩
  |some x=>
   have hi:=get_lt hx;simp only;by_cases hd:s.idle x=true
   .rw[if_pos hd]
    have hm1:PM n (s.mv 1):=hm.of rfl rfl (fun _ _=>Iff.rfl);obtain⟨q1,q2,q3⟩:=vicL_ok k (h.mv (by omega) 1) hm1;refine⟨q1,q2,?_⟩
    cases e:(vicL n k (s.mv 1)).2 with
    |none=>rw[e]at q3;exact⟨q3.pg,q3.on,q3.gn,q3.K⟩
    |some f=>rw[e]at q3;exact q3
   .rw[if_neg hd]
    obtain⟨hf,hh,ho⟩:=idle_not h hx hd;by_cases hr:x.ref=true
    .rw[if_pos hr]
     obtain⟨t1,t2⟩:=turn_ok h hx hf;obtain⟨q1,q2,q3⟩:=vicL_ok k t1 (hm.kept t2);refine⟨q1,q2,?_⟩
     cases e:(vicL n k (s.turn n (s.hd 1) x)).2 with
     |none=>rw[e]at q3;exact t2.trans q3
     |some f=>rw[e]at q3;simp only at q3⊢;rw[t2.pg,t2.on]at q3;exact q3
    .rw[if_neg hr]
     have hr':x.ref=false:=by simpa using hr
     obtain⟨k1,k2,k3,k4⟩:=send_ok h hm hx hf hr';obtain⟨p1,p2,p3⟩:=pg_of h hm hx hf;exact⟨k1,k2,p1,by omega,ho hr',k3,k4⟩
theorem K_of(hm:PM n s){f:Nat}(hf:f<n)(hp:¬s.pg f=0):s.K f (s.pg f):=by
 refine Classical.byContradiction fun q=>hp (hm.p0 f hf (fun b k=>?_)).1
 have:=hm.pf f b k;rw[this]at q;exact q k
theorem size_pos(h:¬s.sizeN n=0):∃f,f<n∧(¬s.pg f=0)∧s.on f=true:=by
 unfold PrS.sizeN at h;rw[List.countP_eq_zero]at h;refine Classical.byContradiction fun q=>h (fun f hf hd=>q ⟨f,List.mem_range.1 hf,?_⟩)
 simpa using hd
theorem size_zero(h:s.sizeN n=0){f:Nat}(hf:f<n)(hp:¬s.pg f=0):s.on f=false:=by
 unfold PrS.sizeN at h;rw[List.countP_eq_zero]at h;have:=h f (List.mem_range.2 hf);simpa[hp]using this
theorem first_ok(h:PK n m s)(hm:PM n s)(hz:¬s.sizeN n=0):∃e∈s.L,(s.rot 1).find? s.mayGo=some e∧s.first=e.fr.toNat∧0<=e.fr∧s.first<n∧(¬s.pg s.first=0)∧s.on s.first=true:=by
 obtain⟨f,hf,hp,ho⟩:=size_pos hz;obtain⟨x,hx,e1,e2⟩:=K_of hm hf hp
 have hmr:x∈s.rot 1:=by
  unfold PrS.rot;rw[<-List.take_append_drop (s.hd 1) s.L]at hx;exact List.mem_append.2 ((List.mem_append.1 hx).symm)
 have hgo:s.mayGo x=true:=by
  unfold PrS.mayGo;rw[e1];simp[ho]
 cases e:(s.rot 1).find? s.mayGo with
 |none=>rw[List.find?_eq_none]at e;exact(e x hmr hgo).elim
 |some y=>
  have hy:=List.mem_of_find?_eq_some e;have hg:=List.find?_some e
  have hyL:y∈s.L:=by
   unfold PrS.rot at hy;rw[<-List.take_append_drop (s.hd 1) s.L];exact List.mem_append.2 ((List.mem_append.1 hy).symm)
  have hfirst:s.first=y.fr.toNat:=by
   unfold PrS.first;unfold PrS.rot at e;rw[e]
  unfold PrS.mayGo at hg;simp only[Bool.and_eq_true,decide_eq_true_eq]at hg;obtain⟨k,hk⟩:=List.getElem?_of_mem hyL;obtain⟨p1,p2,p3⟩:=pg_of h hm hk hg.1;exact⟨y,hyL,rfl,hfirst,hg.1,by omega,by rw[hfirst];omega,by rw[hfirst];exact hg.2⟩
theorem ofF_some{f:Nat}(e:s.ofF f=some i):∃x,s.L[i]?=some x∧x.fr=f:=by
 obtain⟨h1,h2,_⟩:=List.findIdx?_eq_some_iff_getElem.1 e;exact⟨_,List.getElem?_eq_getElem h1,by simpa using h2⟩
theorem ofF_none{f:Nat}(e:s.ofF f=none):∀x∈s.L,¬x.fr=f:=by
 intro x hx q;have:=List.findIdx?_eq_none_iff.1 e x hx;simp[q]at this
theorem ofG_some{p:Nat}(e:s.ofG p=some i):∃x,s.L[i]?=some x∧x.fr= -1∧x.pg=p:=by
 obtain⟨h1,h2,_⟩:=List.findIdx?_eq_some_iff_getElem.1 e;exact⟨_,List.getElem?_eq_getElem h1,by simpa using h2⟩
theorem ofG_none{p:Nat}(e:s.ofG p=none):∀x∈s.L,x.fr= -1->¬x.pg=p:=by
 intro x hx q q2;have:=List.findIdx?_eq_none_iff.1 e x hx;simp[q,q2]at this
theorem ofF_of(hm:PM n s){f:Nat}(hf:f<n)(hp:¬s.pg f=0):∃i x,s.ofF f=some i∧s.L[i]?=some x∧x.fr=f:=by
 obtain⟨x,hx,e1,_⟩:=K_of hm hf hp
 cases e:s.ofF f with
 |none=>exact(ofF_none e x hx e1).elim
 |some i=>obtain⟨y,h1,h2⟩:=ofF_some e;exact⟨i,y,rfl,h1,h2⟩
theorem rem_ok(h:PK n n s)(hm:PM n s){f:Nat}(hf:f<n)(hp:¬s.pg f=0):PK n n (s.rem f)∧PM n (s.rem f)∧(s.rem f).pg=upd s.pg f 0∧(s.rem f).on=upd s.on f false:=by
 obtain⟨i,x,e,hx,ef⟩:=ofF_of hm hf hp;have e2:f=x.fr.toNat:=by omega
 unfold PrS.rem;rw[e];simp only;refine⟨(h.empty f).drop hx,?_,rfl,rfl⟩;rw[e2];exact hm.out h hx (by omega)
theorem upd_self{α:Type}(c:Nat->α)(i:Nat)(v:α)(h:c i=v):upd c i v=c:=by
 funext j
 by_cases e:j=i
 .subst e;rw[upd_same,h]
 .rw[upd_other _ _ e]
theorem access_old(h:PK n n s)(hm:PM n s){a id:Nat}(ha:a<n)(hp:s.pg a=id)(h1:1<=id):
  PK n n (s.access n a id)∧PM n (s.access n a id)∧(s.access n a id).pg=upd s.pg a id∧(s.access n a id).on=s.on∧∃i x,s.ofF a=some i∧s.L[i]?=some x∧x.fr=a∧s.access n a id={s with pg:=upd s.pg a id}.put i {x with ref:=true}:=by
 obtain⟨i,x,e,hx,ef⟩:=ofF_of hm ha (by omega);obtain⟨q1,q2,q3,q4⟩:=h.el x (mem_get hx)
 have ea:s.access n a id={s with pg:=upd s.pg a id}.put i {x with ref:=true}:=by
  unfold PrS.access;simp only[e,hx]
 have es:({s with pg:=upd s.pg a id}:PrS)=s:=by rw[upd_self _ _ _ hp]
 refine⟨?_,?_,by rw[ea];rfl,by rw[ea];rfl,i,x,e,hx,ef,ea⟩
 .rw[ea,es];exact h.put (y:={x with ref:=true}) hx rfl rfl (fun q=>by have q:x.fr<0:=q;omega) q4
 .rw[ea,es];exact hm.put (y:={x with ref:=true}) hx rfl rfl
theorem come_PM(hm:PM n s){a id:Nat}{s1:PrS}(e1:s1.pg=upd s.pg a id)(e2:s1.on=s.on)(hk:∀(c b:Nat),s1.K c b↔(a=c∧id=b)∨s.K c b)(ha:a<n)(hp:s.pg a=0)(hno:∀b,¬s.K a b):PM n s1:=by
 refine⟨fun c b k=>?_,fun f hf k=>?_⟩
 .rw[e1]
  rcases(hk c b).1 k with⟨q1,q2⟩|q
  .subst q1 q2;exact upd_same ..
  .have:¬c=a:=fun e=>hno b (e▸q)
   rw[upd_other _ _ this];exact hm.pf c b q
 .have:¬f=a:=fun e=>k id ((hk f id).2 (.inl ⟨e.symm,rfl⟩))
  rw[e1,e2,upd_other _ _ this];exact hm.p0 f hf (fun b q=>k b ((hk f b).2 (.inr q)))
theorem no_K(h:PK n m s)(hm:PM n s){a:Nat}(hp:s.pg a=0):∀b,¬s.K a b:=by
 intro b k;have e:=hm.pf a b k;obtain⟨x,hx,e1,e2⟩:=k;have:=(h.el x hx).2.1.1;omega
theorem ofF_no(h:PK n m s)(hm:PM n s){a:Nat}(hp:s.pg a=0):s.ofF a=none:=by
 cases e:s.ofF a with
 |none=>rfl
 |some i=>
  obtain⟨x,hx,e1⟩:=ofF_some e;exact(no_K h hm hp x.pg ⟨x,mem_get hx,e1,rfl⟩).elim
theorem access_new(h:PK n n s)(hm:PM n s){a id:Nat}(ha:a<n)(hp:s.pg a=0)(h1:1<=id)(h2:id<4294967296)(hni:∀f,f<n->¬s.pg f=id):
  PK n n (s.access n a id)∧PM n (s.access n a id)∧(s.access n a id).pg=upd s.pg a id∧(s.access n a id).on=s.on:=by
 have hof:=ofF_no h hm hp;have hno:=no_K h hm hp
 have hfr:∀y∈s.L,0<=y.fr->¬y.pg=id:=fun y hy hf q=>by
  obtain⟨k,hk⟩:=List.getElem?_of_mem hy;obtain⟨p1,p2,_⟩:=pg_of h hm hk hf;exact hni _ p1 (by rw[p2];exact q)
 unfold PrS.access;rw[hof];simp only
 cases e:s.ofG id with
 |none=>
  simp only;have hpk:PK n n {s with pg:=upd s.pg a id}:=⟨h.hl,h.uq,h.el,h.ng,h.gl,h.n1⟩;refine⟨hpk.lay ⟨⟨by show(-1:Int)<=(a:Int);omega,by show(a:Int)<n;omega⟩,⟨h1,h2⟩,fun q=>by have q:(a:Int)<0:=q;omega,fun q=>by cases q⟩ (by show(0:Int)<=a;omega) (fun y hy=>⟨fun q=>?_,fun q=>ofF_none hof y hy q⟩),?_,lay_pg.1,lay_pg.2.1⟩
  .by_cases hg:0<=y.fr
   .exact hfr y hy hg q
   .exact ofG_none e y hy (by have:=(h.el y hy).1;omega) q
  .refine come_PM hm (a:=a) (id:=id) lay_pg.1 lay_pg.2.1 (fun c b=>?_) ha hp hno
   rw[lay_K];constructor
   .rintro(⟨q1,q2⟩|q)
    .have q1:(a:Int)=c:=q1
     exact .inl ⟨by omega,q2⟩
    .exact .inr q
   .rintro(⟨q1,q2⟩|q)
    .exact .inl ⟨by show(a:Int)=c;omega,q2⟩
    .exact .inr q
 |some i=>
  obtain⟨g,hg,g1,g2⟩:=ofG_some e;simp only;have hpk:PK n n {s with pg:=upd s.pg a id,goal:=min (s.goal+1) (max (n-1) 1)}:=⟨h.hl,h.uq,h.el,h.ng,by have:=h.gl;show 1<=min (s.goal+1) (max (n-1) 1)∧min (s.goal+1) (max (n-1) 1)<=_;omega,h.n1⟩;have hd:=hpk.drop (i:=i) (x:=g) hg
  have hl:PK n n (({s with pg:=upd s.pg a id,goal:=min (s.goal+1) (max (n-1) 1)}.drop i).lay ⟨id,a,true,false,false⟩):=by
   refine hd.lay ⟨⟨by show(-1:Int)<=(a:Int);omega,by show(a:Int)<n;omega⟩,⟨h1,h2⟩,fun q=>by have q:(a:Int)<0:=q;omega,fun q=>rfl⟩ (by show(0:Int)<=a;omega) (fun y hy=>⟨fun q=>?_,fun q=>ofF_none hof y (List.mem_of_mem_eraseIdx hy) q⟩);have hyL:y∈s.L:=List.mem_of_mem_eraseIdx hy;obtain⟨k,hk⟩:=List.getElem?_of_mem hy;have hk:(s.L.eraseIdx i)[k]?=some y:=hk;rw[eraseIdx_get]at hk;have q:y.pg=id:=q
   split at hk
   .have:=h.uq i k g y hg hk (.inl (by omega));omega
   .have:=h.uq i (k+1) g y hg hk (.inl (by omega));omega
  obtain⟨_,c1,c2⟩:=cool_ok hl;refine⟨c1,?_,c2.pg.trans lay_pg.1,c2.on.trans lay_pg.2.1⟩;refine PM.kept (come_PM (s1:=({s with pg:=upd s.pg a id,goal:=min (s.goal+1) (max (n-1) 1)}.drop i).lay ⟨id,a,true,false,false⟩) hm (a:=a) (id:=id) lay_pg.1 lay_pg.2.1 (fun c b=>?_) ha hp hno) c2;rw[lay_K,drop_K hpk hg];constructor
  .rintro(⟨q1,q2⟩|⟨q,_⟩)
   .have q1:(a:Int)=c:=q1
    exact .inl ⟨by omega,q2⟩
   .exact .inr q
  .rintro(⟨q1,q2⟩|q)
   .exact .inl ⟨by show(a:Int)=c;omega,q2⟩
   .exact .inr ⟨q,by omega⟩
theorem nd_frames(h:PK n m s):((s.L.filter (fun e=>decide (0<=e.fr))).map (fun e=>e.fr.toNat)).Nodup:=by
 have hp:s.L.Pairwise (fun x y=>0<=x.fr->¬x.fr=y.fr):=by
  rw[List.pairwise_iff_getElem];intro i j hi hj hij hf e;have:=h.uq i j _ _ (List.getElem?_eq_getElem hi) (List.getElem?_eq_getElem hj) (.inr ⟨e,hf⟩);omega
 have h2:=hp.sublist (List.filter_sublist (p:=fun e:En=>decide (0<=e.fr)));refine List.pairwise_map.2 (h2.imp_of_mem (fun{a b} ha hb hab e=>?_));have:=(List.mem_filter.1 ha).2;have:=(List.mem_filter.1 hb).2;simp at*;exact hab (by omega) (by omega)
theorem countP_two(l:List En):l.countP (fun e=>decide (0<=e.fr))+l.countP (fun e=>decide (e.fr<0))=l.length:=by
 induction l with
 |nil=>rfl
 |cons a l ih=>
  by_cases q:0<=a.fr
  .have q2:¬a.fr<0:=by omega
   simp[List.countP_cons,q,q2];omega
  .have q2:a.fr<0:=by omega
   simp[List.countP_cons,q,q2];omega
theorem empty_lt(h:PK n n s)(hm:PM n s){a:Nat}(ha:a<n)(hp:s.pg a=0):s.L.length<2*n:=by
 have h1:=nd_frames h;have hno:=no_K h hm hp
 have h2:((s.L.filter (fun e=>decide (0<=e.fr))).map (fun e=>e.fr.toNat)).length+1<=n:=by
  have:=List.Nodup.length_le_of_subset (l₁:=a::(s.L.filter (fun e=>decide (0<=e.fr))).map (fun e=>e.fr.toNat)) (l₂:=List.range n) (List.nodup_cons.2 ⟨fun q=>by
   obtain⟨e,he,q⟩:=List.mem_map.1 q;obtain⟨h1,h2⟩:=List.mem_filter.1 he;simp at h2;exact hno e.pg ⟨e,h1,by omega,rfl⟩,h1⟩) (fun y hy=>by
   rcases List.mem_cons.1 hy with rfl|hy
   .exact List.mem_range.2 ha
   .obtain⟨e,he,rfl⟩:=List.mem_map.1 hy
    obtain⟨h1,h2⟩:=List.mem_filter.1 he;simp at h2;have:=(h.el e h1).1;exact List.mem_range.2 (by omega))
  simpa using this
 have:=countP_two s.L;have h4:=h.ng;unfold PrS.gone at h4;rw[List.length_map,<-List.countP_eq_length_filter]at h2;omega
end
end
end Go.Proofs.YtoenclhimbpfeaaGreatDoor
