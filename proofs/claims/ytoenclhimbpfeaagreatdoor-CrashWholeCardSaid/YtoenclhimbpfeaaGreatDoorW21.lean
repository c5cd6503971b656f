/- Part 21. -/
import Derived.Test.YtoenclhimbpfeaaGreatDoorW20
namespace Go.Proofs.YtoenclhimbpfeaaGreatDoor
set_option linter.all false
set_option maxHeartbeats 16000000
set_option maxRecDepth 100000
section
open Go.RowKit
def PrS.rot(s:PrS)(j:Nat):List En:=s.L.drop (s.hd j)++s.L.take (s.hd j)
structure Kept(s s':PrS):Prop where
 pg:s'.pg=s.pg
 on:s'.on=s.on
 gn:s'.gone<=s.gone
 K:∀(a b:Nat),s'.K a b↔s.K a b
theorem Kept.refl(s:PrS):Kept s s:=⟨rfl,rfl,Nat.le_refl _,λ_ _=>Iff.rfl⟩
theorem Kept.trans{a b c:PrS}(h:Kept a b)(k:Kept b c):Kept a c:=⟨k.pg.trans h.pg,k.on.trans h.on,Nat.le_trans k.gn h.gn,λx y=>(k.K x y).trans (h.K x y)⟩
theorem PM.kept{n:Nat}{s s':PrS}(h:PM n s)(k:Kept s s'):PM n s':=h.of k.pg k.on k.K
section
variable{n m:Nat}{s s' fin:PrS}{i j:Nat}{x y:En}
theorem ip(hx:s.L[s.hd j]?=some x):s.rot j=x::(s.L.drop (s.hd j+1)++s.L.take (s.hd j)):=by
 unfold PrS.rot;have:=aX hx;rw[List.drop_eq_getElem_cons this];rw[List.getElem?_eq_getElem this]at hx;simp only[Option.some.injEq]at hx;rw[hx];rfl
theorem eA(hi:s.hd j<s.L.length)(y:En):((s.put (s.hd j) y).mv j).rot j=s.L.drop (s.hd j+1)++s.L.take (s.hd j)++[y]:=by
 unfold PrS.rot PrS.put PrS.mv;simp only[upd_same,List.length_set];generalize s.hd j=h at*
 have tk:(s.L.set h y).take (h+1)=s.L.take h++[y]:=by
  apply List.ext_getElem?;intro k;rw[List.getElem?_take,List.getElem?_set];have hl:(s.L.take h).length=h:=by rw[List.length_take];omega
  by_cases e:k<h
  .rw[if_pos (by omega),if_neg (by omega),List.getElem?_append_left (by omega),List.getElem?_take,if_pos e]
  .by_cases e2:k=h
   .subst e2;rw[if_pos (by omega),if_pos rfl,if_pos hi,List.getElem?_append_right (by omega),hl];simp
   .rw[if_neg (by omega),List.getElem?_append_right (by omega),hl,List.getElem?_eq_none (by simp;omega)]
 by_cases e:h+1<s.L.length
 .rw[Nat.mod_eq_of_lt e,tk,List.drop_set_of_lt (by omega),List.append_assoc]
 .have:h+1=s.L.length:=by omega
  rw[this,Nat.mod_self,List.drop_zero,List.take_zero,List.append_nil,List.drop_length,List.nil_append,<-tk,this,List.take_of_length_le (by simp)]
theorem AO(hx:s.L[s.hd j]?=some x):(s.mv j).rot j=s.L.drop (s.hd j+1)++s.L.take (s.hd j)++[x]:=by
 have h:=eA (j:=j) (aX hx) x
 have e:s.L.set (s.hd j) x=s.L:=by
  apply List.ext_getElem?;intro k;rw[List.getElem?_set];by_cases q:s.hd j=k
  .rw[<-q,if_pos rfl,if_pos (aX hx),hx]
  .rw[if_neg q]
 have e2:s.put (s.hd j) x=s:=by unfold PrS.put;rw[e]
 rw[e2]at h;exact h
theorem BB(hi:s.hd j<s.L.length):(s.drop (s.hd j)).rot j=s.L.drop (s.hd j+1)++s.L.take (s.hd j):=by
 unfold PrS.rot PrS.drop cK;simp only[Nat.lt_irrefl,if_false];generalize s.hd j=h at*;rw[List.eraseIdx_eq_take_drop_succ];have hl:(s.L.take h).length=h:=by rw[List.length_take];omega
 by_cases e:s.L.length-1<=h
 .rw[if_pos e,List.drop_zero,List.take_zero,List.append_nil,List.drop_eq_nil_of_le (by omega),List.append_nil,List.nil_append]
 .rw[if_neg e,List.drop_append_of_le_length (by omega),List.drop_eq_nil_of_le (by omega),List.nil_append,List.take_append_of_le_length (by omega),List.take_of_length_le (by omega)]
theorem jw(p:En->Bool):(s.rot j).countP p=s.L.countP p:=by
 unfold PrS.rot;rw[List.countP_append,Nat.add_comm,<-List.countP_append,List.take_append_drop]
theorem nu(h:PK n m s)(hx:s.L[i]?=some x):PK n m (s.ends i x)/\Kept s (s.ends i x):=by
 obtain⟨q1,q2,q3,q4⟩:=h.el x (aB hx);unfold PrS.ends;by_cases hg:x.fr<0
 .rw[if_pos hg]
  have hx':s.less.L[i]?=some x:=hx;exact⟨h.less.drop hx',rfl,rfl,by have:=cV hx';have e:s.less.gone=s.gone:=rfl;omega,λa b=>by rw[oC h.less hx'];exact⟨λq=>q.1,λq=>⟨q,by omega⟩⟩⟩
 .rw[if_neg hg]
  have hx':s.less.L[i]?=some x:=hx;exact⟨h.less.put (y:={x with test:=false}) hx' rfl rfl (λq=>(hg q).elim) (λ_=>rfl),rfl,rfl,Nat.le_of_eq (dR (s:=s.less) (y:={x with test:=false}) hx' rfl),λa b=>vm (y:={x with test:=false}) hx' rfl rfl a b⟩
theorem yX(hx:s.L[i]?=some x)(hc:x.hot=false):(s.ends i x).hotN=s.hotN:=by
 have hx':s.less.L[i]?=some x:=hx;unfold PrS.ends
 split
 .have h1:=kG hx'
  rw[hc]at h1;have h2:s.less.hotN=s.hotN:=rfl;simp at h1;omega
 .have h1:=i9 (y:={x with test:=false}) hx'
  have h2:s.less.hotN=s.hotN:=rfl;have h3:({x with test:=false}:En).hot=x.hot:=rfl;rw[h3]at h1;omega
theorem cM(h:PK n m s)(hx:s.L[s.hd 0]?=some x):PK n m (aF s x).1/\Kept s (aF s x).1/\(aF s x).1.hotN+(if(aF s x).2=true then 1 else 0)=s.hotN:=by
 obtain⟨q1,q2,q3,q4⟩:=h.el x (aB hx);have hi:=aX hx;unfold aF;by_cases hh:x.hot=true
 .rw[if_pos hh]
  have hnf:¬x.fr<0:=λq=>by have:=(q3 q).1;rw[q4 hh]at this;cases this
  by_cases hr:x.ref=true
  .rw[if_pos hr]
   refine⟨(h.put (y:={x with ref:=false}) hx rfl rfl (λq=>(hnf q).elim) q4).mv (by show 0<(s.L.set _ _).length;rw[List.length_set];omega) 0,⟨rfl,rfl,Nat.le_of_eq (dR (y:={x with ref:=false}) hx rfl),λa b=>vm (y:={x with ref:=false}) hx rfl rfl a b⟩,?_⟩;have h1:=i9 (y:={x with ref:=false}) hx;have h2:((s.put (s.hd 0) {x with ref:=false}).mv 0).hotN=(s.put (s.hd 0) {x with ref:=false}).hotN:=rfl;have h3:({x with ref:=false}:En).hot=x.hot:=rfl;rw[h3]at h1;simp only[h2,Bool.false_eq_true,if_false];omega
  .rw[if_neg hr]
   refine⟨(h.put (y:={x with hot:=false}) hx rfl rfl (λq=>(hnf q).elim) (λq=>(by cases q))).mv (by show 0<(s.L.set _ _).length;rw[List.length_set];omega) 0,⟨rfl,rfl,Nat.le_of_eq (dR (y:={x with hot:=false}) hx rfl),λa b=>vm (y:={x with hot:=false}) hx rfl rfl a b⟩,?_⟩;have h1:=i9 (y:={x with hot:=false}) hx;have h2:((s.put (s.hd 0) {x with hot:=false}).mv 0).hotN=(s.put (s.hd 0) {x with hot:=false}).hotN:=rfl;have h3:({x with hot:=false}:En).hot=false:=rfl;rw[h3,hh]at h1;simp only[Bool.false_eq_true,if_false,if_true]at h1;simp only[h2,if_true];omega
 .rw[if_neg hh]
  have hc:x.hot=false:=by simpa using hh
  by_cases ht:x.test=true
  .rw[if_pos ht]
   obtain⟨k1,k2⟩:=nu h hx;have k3:=yX hx hc;by_cases hg:x.fr<0
   .rw[if_pos hg];exact⟨k1,k2,by simpa using k3⟩
   .rw[if_neg hg]
    have hlen:0<(s.ends (s.hd 0) x).L.length:=by unfold PrS.ends;rw[if_neg hg];show 0<(s.L.set _ _).length;rw[List.length_set];omega
    exact⟨k1.mv hlen 0,⟨k2.pg,k2.on,k2.gn,k2.K⟩,by simp only[Bool.false_eq_true,if_false];exact k3⟩
  .rw[if_neg ht]
   exact⟨h.mv (by omega) 0,⟨rfl,rfl,Nat.le_refl _,λ_ _=>Iff.rfl⟩,by simp;rfl⟩
theorem gY:∀{k:Nat} {s fin:PrS},PK n m s->cz k s=some fin->PK n m fin/\Kept s fin/\fin.hotN=s.hotN-1
 |0,s,fin,_,e=>by cases e
 |k+1,s,fin,h,e=>by
  unfold cz at e;by_cases h0:s.hotN=0
  .rw[if_pos h0]at e;cases e;exact⟨h,Kept.refl _,by omega⟩
  .rw[if_neg h0]at e
   obtain⟨x,hx⟩:=h.at (ir h0) (j:=0) (by omega);obtain⟨k1,k2,k3⟩:=cM h hx;rw[hx]at e;simp only at e;by_cases hd:(aF s x).2=true
   .rw[if_pos hd]at e k3;cases e;exact⟨k1,k2,by omega⟩
   .rw[if_neg hd]at e k3
    obtain⟨j1,j2,j3⟩:=gY (k:=k) k1 e;exact⟨j1,k2.trans j2,by omega⟩
theorem iT{p:En->Bool}:∀{l:List En},(∃x∈l,p x=true)->∃A x B,l=A++x::B/\(∀a∈A,p a=false)/\p x=true
 |[],⟨_,h,_⟩=>by cases h
 |a::l,⟨x,h,q⟩=>by
  by_cases ha:p a=true
  .exact⟨[],a,l,rfl,λ_ q=>(by cases q),ha⟩
  .have:∃x∈l,p x=true:=by
    rcases List.mem_cons.1 h with rfl|h
    .exact(ha q).elim
    .exact⟨x,h,q⟩
   obtain⟨A,y,B,e,q1,q2⟩:=iT this;refine⟨a::A,y,B,by rw[e];rfl,λb hb=>?_,q2⟩;rcases List.mem_cons.1 hb with rfl|hb
   .simpa using ha
   .exact q1 b hb
def hr(e:En):Bool:=e.hot&&e.ref
theorem lJ(hx:x∈s.rot 0)(hh:x.hot=true):¬s.hotN=0:=by
 intro e;have:(s.rot 0).countP (λe=>e.hot)=0:=by rw[jw];exact e
 have:=List.countP_eq_zero.1 this x hx;exact this hh
theorem yc:∀(c:Nat) (A:List En) {s:PrS} {x:En} {B:List En},PK n m s->s.rot 0=A++x::B->(∀a∈A,a.hot=false)->x.hot=true->(s.rot 0).countP hr=c->∃k fin,cz k s=some fin:=by
 intro c
 induction c using Nat.strongRecOn with
 |_ c ih=>
  intro A
  induction A with
  |nil=>
   intro s x B h hr1 hA hh hc;have h0:=lJ (s:=s) (x:=x) (by rw[hr1];simp) hh;obtain⟨x',hx⟩:=h.at (ir h0) (j:=0) (by omega);have e:=ip hx;rw[hr1]at e;simp only[List.nil_append,List.cons.injEq]at e;obtain⟨rfl,eB⟩:=e;by_cases hrf:x.ref=true
   .have hs:aF s x=((s.put (s.hd 0) {x with ref:=false}).mv 0,false):=by unfold aF;rw[if_pos hh,if_pos hrf]
    have hk:=(cM h hx).1;rw[hs]at hk;have e2:=eA (j:=0) (aX hx) {x with ref:=false};rw[<-eB]at e2;obtain⟨A',x',B',q1,q2,q3⟩:=iT (p:=λe:En=>e.hot) (l:=B++[{x with ref:=false}]) ⟨{x with ref:=false},List.mem_append.2 (.inr (List.mem_singleton.2 rfl)),hh⟩
    have hc2:(B++[{x with ref:=false}]).countP hr<c:=by
     rw[<-hc,hr1];simp[List.countP_append,List.countP_cons,hr,hh,hrf]
    obtain⟨k,fin,hk2⟩:=ih _ hc2 A' (s:=(s.put (s.hd 0) {x with ref:=false}).mv 0) (x:=x') (B:=B') hk (by rw[e2];exact q1) q2 q3 (by rw[e2]);refine⟨k+1,fin,?_⟩;rw[cz,if_neg h0,hx];simp only[hs];exact hk2
   .refine⟨1,(s.put (s.hd 0) {x with hot:=false}).mv 0,?_⟩
    have hs:aF s x=((s.put (s.hd 0) {x with hot:=false}).mv 0,true):=by unfold aF;rw[if_pos hh,if_neg hrf]
    rw[cz,if_neg h0,hx];simp only[hs,if_true]
  |cons a A ihA=>
   intro s x B h hr1 hA hh hc;have h0:=lJ (s:=s) (x:=x) (by rw[hr1];simp) hh;obtain⟨a',hx⟩:=h.at (ir h0) (j:=0) (by omega);have e:=ip hx;rw[hr1]at e;simp only[List.cons_append,List.cons.injEq]at e;obtain⟨rfl,eB⟩:=e;have hna:a.hot=false:=hA a (List.mem_cons_self ..);have hk:=(cM h hx).1;have hra:hr a=false:=by simp[hr,hna]
   have step:∀(t:PrS) (T:List En),aF s a=(t,false)->t.rot 0=A++x::(B++T)->T.countP hr=0->∃k fin,cz k s=some fin:=by
    intro t T hs ht hT;rw[hs]at hk
    have hc2:(t.rot 0).countP hr=c:=by
     rw[<-hc,hr1,ht];simp[List.countP_append,List.countP_cons,hra,hT]
    obtain⟨k,fin,hk2⟩:=ihA (s:=t) (x:=x) (B:=B++T) hk ht (λb hb=>hA b (List.mem_cons_of_mem _ hb)) hh hc2;refine⟨k+1,fin,?_⟩;rw[cz,if_neg h0,hx];simp only[hs];exact hk2
   by_cases ht:a.test=true
   .by_cases hg:a.fr<0
    .refine step (s.less.drop (s.hd 0)) [] ?_ ?_ rfl
     .unfold aF PrS.ends;simp only[hna,ht,hg,if_true,if_false,Bool.false_eq_true]
     .have:=BB (s:=s.less) (j:=0) (aX hx)
      rw[List.append_nil,eB];exact this
    .refine step ((s.less.put (s.hd 0) {a with test:=false}).mv 0) [{a with test:=false}] ?_ ?_ (by simp[hr,hna])
     .unfold aF PrS.ends;simp only[hna,ht,hg,if_true,if_false,Bool.false_eq_true]
     .have:=eA (s:=s.less) (j:=0) (aX hx) {a with test:=false}
      rw[show A++x::(B++[{a with test:=false}])=(A++x::B)++[{a with test:=false}]from by simp,eB];exact this
   .refine step (s.mv 0) [a] ?_ ?_ (by simp[hr,hna])
    .unfold aF;simp only[hna,ht,if_true,if_false,Bool.false_eq_true]
    .have:=AO (s:=s) (j:=0) hx
     rw[show A++x::(B++[a])=(A++x::B)++[a]from by simp,eB];exact this
theorem jo(h:PK n m s)(h0:¬s.hotN=0):∃k,cz k s=some s.work:=by
 have:∃x∈s.rot 0,x.hot=true:=by
  have h1:¬(s.rot 0).countP (λe=>e.hot)=0:=by rw[jw];exact h0
  rw[List.countP_eq_zero]at h1;exact Classical.byContradiction λq=>h1 (λa ha hh=>q ⟨a,ha,hh⟩)
 obtain⟨A,x,B,e,q1,q2⟩:=iT (p:=λe:En=>e.hot) this;obtain⟨k,fin,hk⟩:=yc _ A h e q1 q2 rfl;have hex:∃p:Nat×PrS,cz p.1 s=some p.2:=⟨(k,fin),hk⟩;refine⟨hex.choose.1,?_⟩;have:s.work=hex.choose.2:=by unfold PrS.work;rw[dif_pos hex]
 rw[this];exact hex.choose_spec
theorem pW:∀{k:Nat} {s:PrS},PK n m s->s.hotN<k->∃fin,coolO n k s=some fin/\PK n m fin/\Kept s fin
 |0,s,_,hk=>by omega
 |k+1,s,h,hk=>by
  unfold coolO;by_cases hc:s.hotN<=n-s.goal
  .exact⟨s,by rw[if_pos hc],h,Kept.refl _⟩
  .rw[if_neg hc]
   obtain⟨j,hj⟩:=jo h (by omega);obtain⟨j1,j2,j3⟩:=gY h hj;obtain⟨fin,q1,q2,q3⟩:=pW (k:=k) j1 (by omega);exact⟨fin,q1,q2,j2.trans q3⟩
theorem nS(h:PK n m s):coolO n (s.hotN+1) s=some (s.cool n)/\PK n m (s.cool n)/\Kept s (s.cool n):=by
 obtain⟨fin,q1,q2,q3⟩:=pW (n:=n) h (Nat.lt_succ_self s.hotN);have:s.cool n=fin:=by unfold PrS.cool;rw[q1];rfl
 rw[this];exact⟨q1,q2,q3⟩
theorem dI(h:PK n m s)(hx:s.L[s.hd 2]?=some x):PK n m (bf s x)/\Kept s (bf s x):=by
 have hi:=aX hx;obtain⟨k1,k2⟩:=nu h hx;unfold bf;by_cases ht:x.test=true
 .rw[if_pos ht]
  by_cases hg:x.fr<0
  .rw[if_pos hg];exact⟨k1,k2⟩
  .rw[if_neg hg]
   have hlen:0<(s.ends (s.hd 2) x).L.length:=by unfold PrS.ends;rw[if_neg hg];show 0<(s.L.set _ _).length;rw[List.length_set];omega
   exact⟨k1.mv hlen 2,⟨k2.pg,k2.on,k2.gn,k2.K⟩⟩
 .rw[if_neg ht];exact⟨h.mv (by omega) 2,⟨rfl,rfl,Nat.le_refl _,λ_ _=>Iff.rfl⟩⟩
theorem PK.le{m':Nat}(h:PK n m s)(hm:s.gone<=m'):PK n m' s:=⟨h.hl,h.uq,h.el,hm,h.gl,h.n1⟩
theorem xU:∀(A:List En) {s:PrS} {x:En} {B:List En},PK n (n+1) s->s.rot 2=A++x::B->(∀a∈A,¬a.fr<0)->x.fr<0->∃k fin,br n k s=some fin/\PK n n fin/\Kept s fin:=by
 intro A
 induction A with
 |nil=>
  intro s x B h hr1 hA hg;by_cases h1:s.gone<=n
  .exact⟨1,s,by rw[br,if_pos h1],h.le h1,Kept.refl _⟩
  .obtain⟨x',hx⟩:=h.at (iD (by omega)) (j:=2) (by omega)
   have e:=ip hx;rw[hr1]at e;simp only[List.nil_append,List.cons.injEq]at e;obtain⟨rfl,eB⟩:=e;obtain⟨k1,k2⟩:=dI h hx;have hd:bf s x=s.less.drop (s.hd 2):=by unfold bf PrS.ends;rw[if_pos ((h.el x (aB hx)).2.2.1 hg).1,if_pos hg,if_pos hg]
   have hgn:(bf s x).gone<=n:=by
    have h2:=cV (s:=s.less) (i:=s.hd 2) (x:=x) hx;rw[if_pos hg]at h2;have h3:s.less.gone=s.gone:=rfl;have h4:=h.ng;rw[hd];omega
   refine⟨2,bf s x,?_,k1.le hgn,k2⟩;rw[br,if_neg h1,hx];simp only;rw[br,if_pos hgn]
 |cons a A ih=>
  intro s x B h hr1 hA hg;by_cases h1:s.gone<=n
  .exact⟨1,s,by rw[br,if_pos h1],h.le h1,Kept.refl _⟩
  .obtain⟨a',hx⟩:=h.at (iD (by omega)) (j:=2) (by omega)
   have e:=ip hx;rw[hr1]at e;simp only[List.cons_append,List.cons.injEq]at e;obtain⟨rfl,eB⟩:=e;have hna:¬a.fr<0:=hA a (List.mem_cons_self ..);obtain⟨k1,k2⟩:=dI h hx
   have hrot:∃T,(bf s a).rot 2=A++x::(B++T):=by
    unfold bf PrS.ends;rw[if_neg hna,if_neg hna];by_cases ht:a.test=true
    .rw[if_pos ht]
     have:=eA (s:=s.less) (j:=2) (aX hx) {a with test:=false};exact⟨[{a with test:=false}],by rw[show A++x::(B++[{a with test:=false}])=(A++x::B)++[{a with test:=false}]from by simp,eB];exact this⟩
    .rw[if_neg ht]
     have:=AO (s:=s) (j:=2) hx;exact⟨[a],by rw[show A++x::(B++[a])=(A++x::B)++[a]from by simp,eB];exact this⟩
   obtain⟨T,hT⟩:=hrot;obtain⟨k,fin,q1,q2,q3⟩:=ih k1 hT (λb hb=>hA b (List.mem_cons_of_mem _ hb)) hg;refine⟨k+1,fin,?_,q2,k2.trans q3⟩;rw[br,if_neg h1,hx];exact q1
theorem mO:∀{k k':Nat} {s fin fin':PrS},br n k s=some fin->br n k' s=some fin'->fin=fin'
 |0,_,s,_,_,e,_=>by cases e
 |_+1,0,s,_,_,_,e=>by cases e
 |k+1,k'+1,s,fin,fin',e,e'=>by
  unfold br at e e';by_cases h0:s.gone<=n
  .rw[if_pos h0]at e e';cases e;cases e';rfl
  .rw[if_neg h0]at e e'
   cases hx:s.L[s.hd 2]? with
   |none=>rw[hx]at e;cases e
   |some x=>
    rw[hx]at e e';exact mO (k:=k) (k':=k') e e'
theorem kV(h:PK n (n+1) s):(∃k,br n k s=some (s.tests n))/\PK n n (s.tests n)/\Kept s (s.tests n):=by
 have hex:∃k fin,br n k s=some fin/\PK n n fin/\Kept s fin:=by
  by_cases h1:s.gone<=n
  .exact⟨1,s,by rw[br,if_pos h1],h.le h1,Kept.refl _⟩
  .have:∃x∈s.rot 2,decide (x.fr<0)=true:=by
    have h1:¬(s.rot 2).countP (λe=>decide (e.fr<0))=0:=by rw[jw];unfold PrS.gone at h1;omega
    rw[List.countP_eq_zero]at h1;exact Classical.byContradiction λq=>h1 (λa ha hh=>q ⟨a,ha,hh⟩)
   obtain⟨A,x,B,e,q1,q2⟩:=iT (p:=λe:En=>decide (e.fr<0)) this;exact xU A h e (λa ha=>by have:=q1 a ha;simpa using this) (by simpa using q2)
 obtain⟨k,fin,q1,q2,q3⟩:=hex;have hx2:∃p:Nat×PrS,br n p.1 s=some p.2:=⟨(k,fin),q1⟩;have:s.tests n=hx2.choose.2:=by unfold PrS.tests;rw[dif_pos hx2]
 have e2:s.tests n=fin:=by rw[this];exact mO hx2.choose_spec q1
 rw[e2];exact⟨⟨k,q1⟩,q2,q3⟩
end
section
variable{n m:Nat}{s s' fin:PrS}{i j:Nat}{x y:En}
theorem Cy(h:PK n m s)(hx:s.L[i]?=some x)(e1:y.pg=x.pg)(e2:y.fr=x.fr)(a b:Nat):((s.drop i).lay y).K a b↔s.K a b:=by
 rw[zC,oC h hx];constructor
 .rintro(⟨q1,q2⟩|⟨q,_⟩)
  .exact⟨x,aB hx,by rw[<-e2];exact q1,by rw[<-e1];exact q2⟩
  .exact q
 .rintro⟨z,hz,q1,q2⟩
  by_cases e:x.fr=a
  .left
   obtain⟨k,hk⟩:=List.getElem?_of_mem hz;have:=h.uq i k x z hx hk (.inr ⟨by rw[e,q1],by omega⟩);subst this;rw[hx]at hk;cases hk
   exact⟨by rw[e2];exact q1,by rw[e1];exact q2⟩
  .exact .inr ⟨⟨z,hz,q1,q2⟩,e⟩
def En.turn(x:En):En:={x with ref:=false,hot:=x.test,test:=!x.test}
theorem rk(h:PK n m s)(hx:s.L[i]?=some x)(hf:0<=x.fr):PK n m (((s.mv 1).drop i).lay x.turn)/\Kept s (((s.mv 1).drop i).lay x.turn):=by
 have h1:=h.mv (by have:=aX hx;omega) 1;have hx':(s.mv 1).L[i]?=some x:=hx;refine⟨h1.again (y:=x.turn) hx' rfl rfl hf (λq=>?_),cF.1,cF.2.1,?_,λa b=>Cy (y:=x.turn) h1 hx' rfl rfl a b⟩
 .have q:x.test=true:=q
  show(!x.test)=false
  rw[q];rfl
 .have e1:=iE (s:=(s.mv 1).drop i) (x:=x.turn)
  have e2:=cV hx';have e3:x.turn.fr=x.fr:=rfl;have e4:(s.mv 1).gone=s.gone:=rfl;rw[e3]at e1;omega
theorem uD(h:PK n m s)(hx:s.L[i]?=some x)(hf:0<=x.fr):PK n m (s.turn n i x)/\Kept s (s.turn n i x):=by
 obtain⟨k1,k2⟩:=rk h hx hf;obtain⟨_,k3,k4⟩:=nS k1;exact⟨k3,k2.trans k4⟩
theorem qM(h:PK n n s)(hm:PM n s)(hx:s.L[i]?=some x)(hf:0<=x.fr)(hr:x.ref=false)(ht:x.test=true):
  PK n (n+1) (((s.mv 1).empty x.fr.toNat).put i {x with fr:= -1})/\PM n (((s.mv 1).empty x.fr.toNat).put i {x with fr:= -1}):=by
 have hi:=aX hx;have h1:=h.mv (by omega) 1;obtain⟨q1,q2,q3,q4⟩:=h.el x (aB hx)
 have hh:x.hot=false:=by cases e:x.hot with
  |false=>rfl
  |true=>have:=q4 e;rw[ht]at this;cases this
 have hx':((s.mv 1).empty x.fr.toNat).L[i]?=some x:=hx
 have hk:∀(a b:Nat),(((s.mv 1).empty x.fr.toNat).put i {x with fr:= -1}).K a b↔s.K a b/\¬x.fr=a:=by
  intro a b;constructor
  .rintro⟨z,hz,p1,p2⟩
   obtain⟨k,hk⟩:=List.getElem?_of_mem hz;have hk:(s.L.set i {x with fr:= -1})[k]?=some z:=hk;rw[List.getElem?_set]at hk;by_cases e:i=k
   .rw[if_pos e,if_pos (by omega)]at hk
    cases hk
    have p1:(-1:Int)=a:=p1;omega
   .rw[if_neg e]at hk
    exact⟨⟨z,aB hk,p1,p2⟩,λq=>e (h.uq i k x z hx hk (.inr ⟨by rw[q,p1],hf⟩))⟩
  .rintro⟨⟨z,hz,p1,p2⟩,hne⟩
   obtain⟨k,hk⟩:=List.getElem?_of_mem hz;have e:¬i=k:=by rintro rfl;rw[hx]at hk;cases hk;exact hne p1
   exact⟨z,List.mem_of_getElem? (i:=k) (by show(s.L.set i _)[k]?=_;rw[List.getElem?_set,if_neg e];exact hk),p1,p2⟩
 have ex:((x.fr.toNat:Nat):Int)=x.fr:=by omega
 refine⟨⟨λj hj=>.inl ?_,yk h.uq hx rfl (.inr (by show(-1:Int)<0;omega)),λz hz=>?_,?_,h.gl,h.n1⟩,λa b k=>?_,λf hf' k=>?_⟩
 .show(s.mv 1).hd j<(s.L.set i _).length
  rw[List.length_set];exact h1.lt (by show 0<s.L.length;omega) hj
 .rcases set_mem hz with rfl|hz
  .exact⟨⟨by show(-1:Int)<=-1;omega,by show(-1:Int)<n;omega⟩,q2,λ_=>⟨ht,hr⟩,q4⟩
  .exact h.el z hz
 .have e:=cm (p:=λe:En=>decide (e.fr<0)) (y:={x with fr:= -1}) hx
  have h2:=h.ng;unfold PrS.gone at h2⊢
  show(s.L.set i _).countP _<=n+1
  simp only[show decide (x.fr<0)=false from by simp;omega]at e;simp at e;omega
 .obtain⟨k1,k2⟩:=(hk a b).1 k
  show upd s.pg x.fr.toNat 0 a=b
  rw[aa _ _ (by omega)];exact hm.pf a b k1
 .show upd s.pg x.fr.toNat 0 f=0/\upd s.on x.fr.toNat false f=false
  by_cases e:f=x.fr.toNat
  .subst e;exact⟨upd_same ..,upd_same ..⟩
  .rw[aa _ _ e,aa _ _ e]
   exact hm.p0 f hf' (λb q=>k b ((hk f b).2 ⟨q,by omega⟩))
theorem DJ(h:PK n n s)(hm:PM n s)(hx:s.L[i]?=some x)(hf:0<=x.fr)(hr:x.ref=false):
  PK n n (s.send n i x)/\PM n (s.send n i x)/\(s.send n i x).pg=upd s.pg x.fr.toNat 0/\(s.send n i x).on=upd s.on x.fr.toNat false:=by
 unfold PrS.send;by_cases ht:x.test=true
 .rw[if_pos ht]
  obtain⟨k1,k2⟩:=qM h hm hx hf hr ht;obtain⟨_,k3,k4⟩:=kV k1;exact⟨k3,k2.kept k4,k4.pg,k4.on⟩
 .rw[if_neg ht]
  have h1:=h.mv (by have:=aX hx;omega) 1;have hm1:PM n (s.mv 1):=hm.of rfl rfl (λ_ _=>Iff.rfl);exact⟨(h1.empty _).drop hx,hm1.out h1 hx hf,rfl,rfl⟩
theorem zQ(h:PK n m s)(hx:s.L[i]?=some x)(hi:¬s.idle x=true):0<=x.fr/\x.hot=false/\(x.ref=false->s.on x.fr.toNat=true):=by
 unfold PrS.idle at hi
 cases h1:x.hot
 .cases h2:decide (x.fr<0)
  .refine⟨by simpa using h2,rfl,λh3=>?_⟩
   rw[h1,h2,h3]at hi;simpa using hi
  .rw[h2]at hi;simp at hi
 .rw[h1]at hi;simp at hi
def Ge(n:Nat)(s:PrS)(r:PrS×Option Nat):Prop:=
 PK n n r.1/\PM n r.1/\match r.2 with
 |none=>Kept s r.1
 |some f=>f<n/\¬s.pg f=0/\s.on f=true/\r.1.pg=upd s.pg f 0/\r.1.on=upd s.on f false
theorem uA(h:PK n m s)(hm:PM n s)(hx:s.L[i]?=some x)(hf:0<=x.fr):x.fr.toNat<n/\s.pg x.fr.toNat=x.pg/\1<=x.pg:=by
 obtain⟨q1,q2,_,_⟩:=h.el x (aB hx);exact⟨by omega,hm.pf _ _ ⟨x,aB hx,by omega,rfl⟩,q2.1⟩
theorem og:∀(k:Nat) {s:PrS},PK n n s->PM n s->Ge n s (vicL n k s)
 |0,s,h,hm=>⟨h,hm,Kept.refl s⟩
 |k+1,s,h,hm=>by
  unfold vicL
  cases hx:s.L[s.hd 1]? with
  |none=>exact⟨h,hm,Kept.refl s⟩
  |some x=>
   have hi:=aX hx;simp only;by_cases hd:s.idle x=true
   .rw[if_pos hd]
    have hm1:PM n (s.mv 1):=hm.of rfl rfl (λ_ _=>Iff.rfl);obtain⟨q1,q2,q3⟩:=og k (h.mv (by omega) 1) hm1;refine⟨q1,q2,?_⟩
    cases e:(vicL n k (s.mv 1)).2 with
    |none=>rw[e]at q3;exact⟨q3.pg,q3.on,q3.gn,q3.K⟩
    |some f=>rw[e]at q3;exact q3
   .rw[if_neg hd]
    obtain⟨hf,hh,ho⟩:=zQ h hx hd;by_cases hr:x.ref=true
    .rw[if_pos hr]
     obtain⟨t1,t2⟩:=uD h hx hf;obtain⟨q1,q2,q3⟩:=og k t1 (hm.kept t2);refine⟨q1,q2,?_⟩
     cases e:(vicL n k (s.turn n (s.hd 1) x)).2 with
     |none=>rw[e]at q3;exact t2.trans q3
     |some f=>rw[e]at q3;simp only at q3⊢;rw[t2.pg,t2.on]at q3;exact q3
    .rw[if_neg hr]
     have hr':x.ref=false:=by simpa using hr
     obtain⟨k1,k2,k3,k4⟩:=DJ h hm hx hf hr';obtain⟨p1,p2,p3⟩:=uA h hm hx hf;exact⟨k1,k2,p1,by omega,ho hr',k3,k4⟩
theorem Ef(hm:PM n s){f:Nat}(hf:f<n)(hp:¬s.pg f=0):s.K f (s.pg f):=by
 refine Classical.byContradiction λq=>hp (hm.p0 f hf (λb k=>?_)).1
 have:=hm.pf f b k;rw[this]at q;exact q k
theorem AQ(h:¬s.sizeN n=0):∃f,f<n/\(¬s.pg f=0)/\s.on f=true:=by
 unfold PrS.sizeN at h;rw[List.countP_eq_zero]at h;refine Classical.byContradiction λq=>h (λf hf hd=>q ⟨f,List.mem_range.1 hf,?_⟩)
 simpa using hd
theorem wJ(h:s.sizeN n=0){f:Nat}(hf:f<n)(hp:¬s.pg f=0):s.on f=false:=by
 unfold PrS.sizeN at h;rw[List.countP_eq_zero]at h;have:=h f (List.mem_range.2 hf);simpa[hp]using this
theorem iz(h:PK n m s)(hm:PM n s)(hz:¬s.sizeN n=0):∃e∈s.L,(s.rot 1).find? s.mayGo=some e/\s.first=e.fr.toNat/\0<=e.fr/\s.first<n/\(¬s.pg s.first=0)/\s.on s.first=true:=by
 obtain⟨f,hf,hp,ho⟩:=AQ hz;obtain⟨x,hx,e1,e2⟩:=Ef hm hf hp
 have hmr:x∈s.rot 1:=by
  unfold PrS.rot;rw[<-List.take_append_drop (s.hd 1) s.L]at hx;exact List.mem_append.2 ((List.mem_append.1 hx).symm)
 have hgo:s.mayGo x=true:=by
  unfold PrS.mayGo;rw[e1];simp[ho]
 cases e:(s.rot 1).find? s.mayGo with
 |none=>rw[List.find?_eq_none]at e;exact(e x hmr hgo).elim
 |some y=>
  have hy:=List.mem_of_find?_eq_some e;have hg:=List.find?_some e
  have hyL:y∈s.L:=by
   unfold PrS.rot at hy;rw[<-List.take_append_drop (s.hd 1) s.L];exact List.mem_append.2 ((List.mem_append.1 hy).symm)
  have hfirst:s.first=y.fr.toNat:=by
   unfold PrS.first;unfold PrS.rot at e;rw[e]
  unfold PrS.mayGo at hg;simp only[Bool.and_eq_true,decide_eq_true_eq]at hg;obtain⟨k,hk⟩:=List.getElem?_of_mem hyL;obtain⟨p1,p2,p3⟩:=uA h hm hk hg.1;exact⟨y,hyL,rfl,hfirst,hg.1,by omega,by rw[hfirst];omega,by rw[hfirst];exact hg.2⟩
theorem pr{f:Nat}(e:s.ofF f=some i):∃x,s.L[i]?=some x/\x.fr=f:=by
 obtain⟨h1,h2,_⟩:=List.findIdx?_eq_some_iff_getElem.1 e;exact⟨_,List.getElem?_eq_getElem h1,by simpa using h2⟩
theorem iF{f:Nat}(e:s.ofF f=none):∀x∈s.L,¬x.fr=f:=by
 intro x hx q;have:=List.findIdx?_eq_none_iff.1 e x hx;simp[q]at this
theorem qL{p:Nat}(e:s.ofG p=some i):∃x,s.L[i]?=some x/\x.fr= -1/\x.pg=p:=by
 obtain⟨h1,h2,_⟩:=List.findIdx?_eq_some_iff_getElem.1 e;exact⟨_,List.getElem?_eq_getElem h1,by simpa using h2⟩
theorem pG{p:Nat}(e:s.ofG p=none):∀x∈s.L,x.fr= -1->¬x.pg=p:=by
 intro x hx q q2;have:=List.findIdx?_eq_none_iff.1 e x hx;simp[q,q2]at this
theorem kP(hm:PM n s){f:Nat}(hf:f<n)(hp:¬s.pg f=0):∃i x,s.ofF f=some i/\s.L[i]?=some x/\x.fr=f:=by
 obtain⟨x,hx,e1,_⟩:=Ef hm hf hp
 cases e:s.ofF f with
 |none=>exact(iF e x hx e1).elim
 |some i=>obtain⟨y,h1,h2⟩:=pr e;exact⟨i,y,rfl,h1,h2⟩
theorem th(h:PK n n s)(hm:PM n s){f:Nat}(hf:f<n)(hp:¬s.pg f=0):PK n n (s.rem f)/\PM n (s.rem f)/\(s.rem f).pg=upd s.pg f 0/\(s.rem f).on=upd s.on f false:=by
 obtain⟨i,x,e,hx,ef⟩:=kP hm hf hp;have e2:f=x.fr.toNat:=by omega
 unfold PrS.rem;rw[e];simp only;refine⟨(h.empty f).drop hx,?_,rfl,rfl⟩;rw[e2];exact hm.out h hx (by omega)
theorem Bz{α:Type}(c:Nat->α)(i:Nat)(v:α)(h:c i=v):upd c i v=c:=by
 funext j
 by_cases e:j=i
 .subst e;rw[upd_same,h]
 .rw[aa _ _ e]
theorem kB(h:PK n n s)(hm:PM n s){a id:Nat}(ha:a<n)(hp:s.pg a=id)(h1:1<=id):
  PK n n (s.access n a id)/\PM n (s.access n a id)/\(s.access n a id).pg=upd s.pg a id/\(s.access n a id).on=s.on/\∃i x,s.ofF a=some i/\s.L[i]?=some x/\x.fr=a/\s.access n a id={s with pg:=upd s.pg a id}.put i {x with ref:=true}:=by
 obtain⟨i,x,e,hx,ef⟩:=kP hm ha (by omega);obtain⟨q1,q2,q3,q4⟩:=h.el x (aB hx)
 have ea:s.access n a id={s with pg:=upd s.pg a id}.put i {x with ref:=true}:=by
  unfold PrS.access;simp only[e,hx]
 have es:({s with pg:=upd s.pg a id}:PrS)=s:=by rw[Bz _ _ _ hp]
 refine⟨?_,?_,by rw[ea];rfl,by rw[ea];rfl,i,x,e,hx,ef,ea⟩
 .rw[ea,es];exact h.put (y:={x with ref:=true}) hx rfl rfl (λq=>by have q:x.fr<0:=q;omega) q4
 .rw[ea,es];exact hm.put (y:={x with ref:=true}) hx rfl rfl
theorem vF(hm:PM n s){a id:Nat}{s1:PrS}(e1:s1.pg=upd s.pg a id)(e2:s1.on=s.on)(hk:∀(c b:Nat),s1.K c b↔(a=c/\id=b)\/s.K c b)(ha:a<n)(hp:s.pg a=0)(hno:∀b,¬s.K a b):PM n s1:=by
 refine⟨λc b k=>?_,λf hf k=>?_⟩
 .rw[e1]
  rcases(hk c b).1 k with⟨q1,q2⟩|q
  .subst q1 q2;exact upd_same ..
  .have:¬c=a:=λe=>hno b (e▸q)
   rw[aa _ _ this];exact hm.pf c b q
 .have:¬f=a:=λe=>k id ((hk f id).2 (.inl ⟨e.symm,rfl⟩))
  rw[e1,e2,aa _ _ this];exact hm.p0 f hf (λb q=>k b ((hk f b).2 (.inr q)))
theorem Be(h:PK n m s)(hm:PM n s){a:Nat}(hp:s.pg a=0):∀b,¬s.K a b:=by
 intro b k;have e:=hm.pf a b k;obtain⟨x,hx,e1,e2⟩:=k;have:=(h.el x hx).2.1.1;omega
theorem yJ(h:PK n m s)(hm:PM n s){a:Nat}(hp:s.pg a=0):s.ofF a=none:=by
 cases e:s.ofF a with
 |none=>rfl
 |some i=>
  obtain⟨x,hx,e1⟩:=pr e;exact(Be h hm hp x.pg ⟨x,aB hx,e1,rfl⟩).elim
theorem lK(h:PK n n s)(hm:PM n s){a id:Nat}(ha:a<n)(hp:s.pg a=0)(h1:1<=id)(h2:id<4294967296)(hni:∀f,f<n->¬s.pg f=id):
  PK n n (s.access n a id)/\PM n (s.access n a id)/\(s.access n a id).pg=upd s.pg a id/\(s.access n a id).on=s.on:=by
 have hof:=yJ h hm hp;have hno:=Be h hm hp
 have hfr:∀y∈s.L,0<=y.fr->¬y.pg=id:=λy hy hf q=>by
  obtain⟨k,hk⟩:=List.getElem?_of_mem hy;obtain⟨p1,p2,_⟩:=uA h hm hk hf;exact hni _ p1 (by rw[p2];exact q)
 unfold PrS.access;rw[hof];simp only
 cases e:s.ofG id with
 |none=>
  simp only;have hpk:PK n n {s with pg:=upd s.pg a id}:=⟨h.hl,h.uq,h.el,h.ng,h.gl,h.n1⟩;refine⟨hpk.lay ⟨⟨by show(-1:Int)<=(a:Int);omega,by show(a:Int)<n;omega⟩,⟨h1,h2⟩,λq=>by have q:(a:Int)<0:=q;omega,λq=>by cases q⟩ (by show(0:Int)<=a;omega) (λy hy=>⟨λq=>?_,λq=>iF hof y hy q⟩),?_,cF.1,cF.2.1⟩
  .by_cases hg:0<=y.fr
   .exact hfr y hy hg q
   .exact pG e y hy (by have:=(h.el y hy).1;omega) q
  .refine vF hm (a:=a) (id:=id) cF.1 cF.2.1 (λc b=>?_) ha hp hno
   rw[zC];constructor
   .rintro(⟨q1,q2⟩|q)
    .have q1:(a:Int)=c:=q1
     exact .inl ⟨by omega,q2⟩
    .exact .inr q
   .rintro(⟨q1,q2⟩|q)
    .exact .inl ⟨by show(a:Int)=c;omega,q2⟩
    .exact .inr q
 |some i=>
  obtain⟨g,hg,g1,g2⟩:=qL e;simp only;have hpk:PK n n {s with pg:=upd s.pg a id,goal:=min (s.goal+1) (max (n-1) 1)}:=⟨h.hl,h.uq,h.el,h.ng,by have:=h.gl;show 1<=min (s.goal+1) (max (n-1) 1)/\min (s.goal+1) (max (n-1) 1)<=_;omega,h.n1⟩;have hd:=hpk.drop (i:=i) (x:=g) hg
  have hl:PK n n (({s with pg:=upd s.pg a id,goal:=min (s.goal+1) (max (n-1) 1)}.drop i).lay ⟨id,a,true,false,false⟩):=by
   refine hd.lay ⟨⟨by show(-1:Int)<=(a:Int);omega,by show(a:Int)<n;omega⟩,⟨h1,h2⟩,λq=>by have q:(a:Int)<0:=q;omega,λq=>rfl⟩ (by show(0:Int)<=a;omega) (λy hy=>⟨λq=>?_,λq=>iF hof y (List.mem_of_mem_eraseIdx hy) q⟩);have hyL:y∈s.L:=List.mem_of_mem_eraseIdx hy;obtain⟨k,hk⟩:=List.getElem?_of_mem hy;have hk:(s.L.eraseIdx i)[k]?=some y:=hk;rw[bc]at hk;have q:y.pg=id:=q
   split at hk
   .have:=h.uq i k g y hg hk (.inl (by omega));omega
   .have:=h.uq i (k+1) g y hg hk (.inl (by omega));omega
  obtain⟨_,c1,c2⟩:=nS hl;refine⟨c1,?_,c2.pg.trans cF.1,c2.on.trans cF.2.1⟩;refine PM.kept (vF (s1:=({s with pg:=upd s.pg a id,goal:=min (s.goal+1) (max (n-1) 1)}.drop i).lay ⟨id,a,true,false,false⟩) hm (a:=a) (id:=id) cF.1 cF.2.1 (λc b=>?_) ha hp hno) c2;rw[zC,oC hpk hg];constructor
  .rintro(⟨q1,q2⟩|⟨q,_⟩)
   .have q1:(a:Int)=c:=q1
    exact .inl ⟨by omega,q2⟩
   .exact .inr q
  .rintro(⟨q1,q2⟩|q)
   .exact .inl ⟨by show(a:Int)=c;omega,q2⟩
   .exact .inr ⟨q,by omega⟩
theorem xR(h:PK n m s):((s.L.filter (λe=>decide (0<=e.fr))).map (λe=>e.fr.toNat)).Nodup:=by
 have hp:s.L.Pairwise (λx y=>0<=x.fr->¬x.fr=y.fr):=by
  rw[List.pairwise_iff_getElem];intro i j hi hj hij hf e;have:=h.uq i j _ _ (List.getElem?_eq_getElem hi) (List.getElem?_eq_getElem hj) (.inr ⟨e,hf⟩);omega
 have h2:=hp.sublist (List.filter_sublist (p:=λe:En=>decide (0<=e.fr)));refine List.pairwise_map.2 (h2.imp_of_mem (λ{a b} ha hb hab e=>?_));have:=(List.mem_filter.1 ha).2;have:=(List.mem_filter.1 hb).2;simp at*;exact hab (by omega) (by omega)
theorem tJ(l:List En):l.countP (λe=>decide (0<=e.fr))+l.countP (λe=>decide (e.fr<0))=l.length:=by
 induction l with
 |nil=>rfl
 |cons a l ih=>
  by_cases q:0<=a.fr
  .have q2:¬a.fr<0:=by omega
   simp[List.countP_cons,q,q2];omega
  .have q2:a.fr<0:=by omega
   simp[List.countP_cons,q,q2];omega
theorem zf(h:PK n n s)(hm:PM n s){a:Nat}(ha:a<n)(hp:s.pg a=0):s.L.length<2*n:=by
 have h1:=xR h;have hno:=Be h hm hp
 have h2:((s.L.filter (λe=>decide (0<=e.fr))).map (λe=>e.fr.toNat)).length+1<=n:=by
  have:=List.Nodup.length_le_of_subset (l₁:=a::(s.L.filter (λe=>decide (0<=e.fr))).map (λe=>e.fr.toNat)) (l₂:=List.range n) (List.nodup_cons.2 ⟨λq=>by
   obtain⟨e,he,q⟩:=List.mem_map.1 q;obtain⟨h1,h2⟩:=List.mem_filter.1 he;simp at h2;exact hno e.pg ⟨e,h1,by omega,rfl⟩,h1⟩) (λy hy=>by
   rcases List.mem_cons.1 hy with rfl|hy
   .exact List.mem_range.2 ha
   .obtain⟨e,he,rfl⟩:=List.mem_map.1 hy
    obtain⟨h1,h2⟩:=List.mem_filter.1 he;simp at h2;have:=(h.el e h1).1;exact List.mem_range.2 (by omega))
  simpa using this
 have:=tJ s.L;have h4:=h.ng;unfold PrS.gone at h4;rw[List.length_map,<-List.countP_eq_length_filter]at h2;omega
end
theorem iU{l:List Nat}{i x:Nat}(h:l[i]?=some x):l=l.take i++x::l.drop (i+1):=by
 have hi:i<l.length:=(List.getElem?_eq_some_iff.1 h).1;have e:l[i]=x:=by rw[List.getElem?_eq_getElem hi]at h;simpa using h
 have:=List.take_append_drop i l;rw[List.drop_eq_getElem_cons hi,e]at this;exact this.symm
theorem gS{l:List Nat}{i x:Nat}(hn:l.Nodup)(h:l[i]?=some x):(¬x∈l.take i)/\¬x∈l.drop (i+1):=by
 rw[iU h,List.nodup_append]at hn;exact⟨λq=>hn.2.2 x q x (List.mem_cons_self ..) rfl,(List.nodup_cons.1 hn.2.1).1⟩
theorem ri{l:List Nat}{i x:Nat}(hn:l.Nodup)(h:l[i]?=some x):ac l x=l.eraseIdx i:=by
 obtain⟨q1,q2⟩:=gS hn h;rw[List.eraseIdx_eq_take_drop_succ];have e:=iU h
 have:ac (l.take i++x::l.drop (i+1)) x=l.take i++l.drop (i+1):=by
  have a1:=ah q1;have a2:=ah q2;unfold ac at*;rw[List.filter_append,List.filter_cons,a1,a2];simp
 rw[<-e]at this;exact this
theorem Dl{l:List Nat}{i x o:Nat}(hn:l.Nodup)(h:l[i]?=some o):insL l x o=l.take i++x::l.drop i:=by
 have e:=iU h;have hi:i<l.length:=(List.getElem?_eq_some_iff.1 h).1;have q:=(gS hn h).1;have h1:insL (l.take i++o::l.drop (i+1)) x o=l.take i++x::o::l.drop (i+1):=ve q;rw[<-e]at h1;rw[h1];have e2:l[i]=o:=by rw[List.getElem?_eq_getElem hi]at h;simpa using h
 rw[List.drop_eq_getElem_cons hi,e2]
theorem sX{l:List Nat}{i x:Nat}(hn:l.Nodup)(h:l[i]?=some x):l.idxOf x=i:=by
 have hi:i<l.length:=(List.getElem?_eq_some_iff.1 h).1;have e:=iU h;have q:=(gS hn h).1;have:(l.take i++x::l.drop (i+1)).idxOf x=(l.take i).length:=nF q;rw[<-e,List.length_take]at this;omega
theorem zX{l:List Nat}{i j x:Nat}(hn:l.Nodup)(h:l[i]?=some x)(k:l[j]?=some x):i=j:=by
 rw[<-sX hn h,<-sX hn k]
theorem rO{l:List Nat}{i x:Nat}(hn:l.Nodup)(h:l[i]?=some x):l[(i+1)%l.length]?=some (nxt l x):=by
 have hi:i<l.length:=(List.getElem?_eq_some_iff.1 h).1;unfold nxt;rw[sX hn h];by_cases e:i+1<l.length
 .rw[Nat.mod_eq_of_lt e,List.getElem?_eq_getElem e]
 .have:i+1=l.length:=by omega
  rw[this,Nat.mod_self,List.getElem?_eq_none (Nat.le_refl _)]
  cases l with
  |nil=>simp at hi
  |cons a l=>simp
structure RL(ids:List Nat)(h:Nat->Nat)(e:Nat->En)(L:List En)(hd:Nat->Nat):Prop where
 L:L=ids.map e
 nd:ids.Nodup
 hd:ids=[]\/∀j,j<3->ids[hd j]?=some (h j)
section
variable{ids:List Nat}{h:Nat->Nat}{e:Nat->En}{L:List En}{hd:Nat->Nat}{i x:Nat}{r:Raw}{s:PrS}
theorem RL.len(q:RL ids h e L hd):L.length=ids.length:=by rw[q.L,List.length_map]
theorem RL.get(q:RL ids h e L hd)(hx:ids[i]?=some x):L[i]?=some (e x):=by rw[q.L,List.getElem?_map,hx];rfl
theorem RL.id(q:RL ids h e L hd){y:En}(hy:L[i]?=some y):∃x,ids[i]?=some x/\e x=y:=by
 rw[q.L,List.getElem?_map]at hy
 cases hx:ids[i]? with
 |none=>rw[hx]at hy;cases hy
 |some x=>rw[hx]at hy;exact⟨x,rfl,by simpa using hy⟩
theorem RL.hands(q:RL ids h e L hd){j:Nat}(hj:j<3)(hne:¬ids=[]):ids[hd j]?=some (h j):=(q.hd.resolve_left hne) j hj
theorem RL.at(q:RL ids h e L hd){j:Nat}(hj:j<3){y:En}(hy:L[hd j]?=some y):h j∈ids/\ids[hd j]?=some (h j)/\e (h j)=y:=by
 obtain⟨x,hx,ex⟩:=q.id hy;have hne:¬ids=[]:=λc=>by rw[c]at hx;cases hx
 have:=q.hands hj hne;rw[this]at hx;simp only[Option.some.injEq]at hx;exact⟨List.mem_of_getElem? this,this,by rw[hx];exact ex⟩
theorem RL.move(q:RL r.ids r.h r.e s.L s.hd)(j:Nat):RL (r.move j).ids (r.move j).h (r.move j).e (s.mv j).L (s.mv j).hd:=by
 refine⟨q.L,q.nd,?_⟩;rcases q.hd with c|c
 .exact .inl c
 .right
  intro k hk
  show r.ids[upd s.hd j ((s.hd j+1)%s.L.length) k]?=some (upd r.h j (nxt r.ids (r.h j)) k)
  by_cases ek:k=j
  .subst ek
   rw[upd_same,upd_same,q.len];exact rO q.nd (c k hk)
  .rw[aa _ _ ek,aa _ _ ek];exact c k hk
theorem RL.put(q:RL ids h e L hd)(hx:ids[i]?=some x)(y:En):RL ids h (upd e x y) (L.set i y) hd:=by
 refine⟨?_,q.nd,q.hd⟩;rw[q.L];apply List.ext_getElem?;intro k;rw[List.getElem?_set,List.getElem?_map,List.getElem?_map,List.length_map];by_cases ek:i=k
 .subst ek
  rw[if_pos rfl,if_pos (List.getElem?_eq_some_iff.1 hx).1,hx];simp[upd_same]
 .rw[if_neg ek]
  cases hz:ids[k]? with
  |none=>rfl
  |some z=>
   have:¬z=x:=λc=>ek (zX q.nd hx (by rw[hz,c]))
   simp[aa _ _ this]
theorem RL.leave(q:RL r.ids r.h r.e s.L s.hd)(hx:r.ids[i]?=some x):RL (r.leave x).ids (r.leave x).h (r.leave x).e (s.drop i).L (s.drop i).hd:=by
 have hi:i<r.ids.length:=(List.getElem?_eq_some_iff.1 hx).1;have ea:ac r.ids x=r.ids.eraseIdx i:=ri q.nd hx;refine⟨?_,?_,?_⟩
 .show s.L.eraseIdx i=(ac r.ids x).map r.e
  rw[ea,q.L,List.eraseIdx_eq_take_drop_succ,List.eraseIdx_eq_take_drop_succ,List.map_append,List.map_take,List.map_drop]
 .show(ac r.ids x).Nodup
  unfold ac;exact q.nd.filter _
 .by_cases h1:r.ids.length=1
  .left
   show ac r.ids x=[]
   rw[ea];exact List.eq_nil_of_length_eq_zero (by rw[List.length_eraseIdx_of_lt hi];omega)
  .right
   intro j hj;have hne:¬r.ids=[]:=λc=>by rw[c]at hi;simp at hi
   have c:=q.hands hj hne;have hk:s.hd j<r.ids.length:=(List.getElem?_eq_some_iff.1 c).1
   show(ac r.ids x)[cK i (s.L.length-1) (s.hd j)]?=some (if r.h j=x then nxt r.ids x else r.h j)
   rw[ea,List.getElem?_eraseIdx,q.len];have key:r.h j=x↔s.hd j=i:=⟨λe=>zX q.nd (by rw[c,e]) hx,λe=>by rw[e,hx]at c;simpa using c.symm⟩;by_cases ek:s.hd j=i
   .rw[if_pos (key.2 ek),ek]
    have hn:=rO q.nd hx;by_cases el:r.ids.length-1<=i
    .have e1:cK i (r.ids.length-1) i=0:=by unfold cK;simp only[Nat.lt_irrefl,if_false];rw[if_pos el]
     have:i+1=r.ids.length:=by omega
     rw[this,Nat.mod_self]at hn;rw[e1,if_pos (by omega)];exact hn
    .have e1:cK i (r.ids.length-1) i=i:=by unfold cK;simp only[Nat.lt_irrefl,if_false];rw[if_neg el]
     rw[e1,if_neg (by omega)];rw[Nat.mod_eq_of_lt (by omega)]at hn;exact hn
   .rw[if_neg (λe=>ek (key.1 e))]
    by_cases el:i<s.hd j
    .have e1:cK i (r.ids.length-1) (s.hd j)=s.hd j-1:=by unfold cK;simp only[el,if_true];rw[if_neg (by omega)]
     rw[e1,if_neg (by omega),show s.hd j-1+1=s.hd j from by omega];exact c
    .have e1:cK i (r.ids.length-1) (s.hd j)=s.hd j:=by unfold cK;simp only[el,if_false];rw[if_neg (by omega)]
     rw[e1,if_pos (by omega)];exact c
theorem cW(x:Nat):(r.lay x).e=r.e/\(r.lay x).v=r.v/\(r.lay x).goal=r.goal/\(r.lay x).hot=r.hot/\(r.lay x).size=r.size/\(r.lay x).fm=r.fm/\(r.lay x).mp=r.mp/\(r.lay x).mc=r.mc/\(r.lay x).sp=ac r.sp x:=by
 unfold Raw.lay;split<;>exact⟨rfl,rfl,rfl,rfl,rfl,rfl,rfl,rfl,rfl⟩
theorem zD{l:List Nat}{x o y:Nat}:y∈insL l x o↔y=x\/y∈l:=by
 unfold insL;have e:l=l.takeWhile (λy=>!decide (y=o))++l.dropWhile (λy=>!decide (y=o)):=List.takeWhile_append_dropWhile.symm;constructor
 .intro h
  rcases List.mem_append.1 h with h|h
  .right;rw[e];exact List.mem_append.2 (.inl h)
  .rcases List.mem_cons.1 h with h|h
   .exact .inl h
   .right;rw[e];exact List.mem_append.2 (.inr h)
 .rintro(h|h)
  .exact List.mem_append.2 (.inr (List.mem_cons.2 (.inl h)))
  .rw[e]at h
   rcases List.mem_append.1 h with h|h
   .exact List.mem_append.2 (.inl h)
   .exact List.mem_append.2 (.inr (List.mem_cons.2 (.inr h)))
theorem uX{y:Nat}:y∈(r.lay x).ids↔y=x\/y∈r.ids:=by
 unfold Raw.lay
 split
 .rename_i c;rw[c];simp
 .exact zD
theorem RL.lay(q:RL r.ids r.h r.e s.L s.hd)(hni:¬x∈r.ids):RL (r.lay x).ids (r.lay x).h (r.lay x).e (s.lay (r.e x)).L (s.lay (r.e x)).hd:=by
 by_cases c:r.ids=[]
 .have cL:s.L=[]:=by rw[q.L,c];rfl
  have e1:r.lay x={r with ids:=[x],sp:=ac r.sp x,h:=λ_=>x}:=by unfold Raw.lay;rw[if_pos c]
  have e2:s.lay (r.e x)={s with L:=[r.e x],hd:=λ_=>0}:=by unfold PrS.lay;rw[if_pos cL]
  rw[e1,e2];exact⟨rfl,by simp,.inr (λj hj=>rfl)⟩
 .have cL:¬s.L=[]:=λe=>c (by rw[q.L]at e;simpa using e)
  have h0:=q.hands (j:=0) (by omega) c;have hi:s.hd 0<r.ids.length:=(List.getElem?_eq_some_iff.1 h0).1;have ei:insL r.ids x (r.h 0)=r.ids.take (s.hd 0)++x::r.ids.drop (s.hd 0):=Dl q.nd h0;have e1:r.lay x={r with ids:=insL r.ids x (r.h 0),sp:=ac r.sp x}:=by unfold Raw.lay;rw[if_neg c]
  have e2:s.lay (r.e x)={s with L:=jv s.L (s.hd 0) (r.e x),hd:=λj=>if s.hd 0<=s.hd j then s.hd j+1 else s.hd j}:=by unfold PrS.lay;rw[if_neg cL]
  rw[e1,e2];refine⟨?_,?_,.inr (λj hj=>?_)⟩
  .show jv s.L (s.hd 0) (r.e x)=(insL r.ids x (r.h 0)).map r.e
   rw[ei,List.map_append,List.map_cons,List.map_take,List.map_drop,<-q.L];rfl
  .show(insL r.ids x (r.h 0)).Nodup
   rw[ei]
   have hp:(r.ids.take (s.hd 0)++x::r.ids.drop (s.hd 0)).Perm (x::r.ids):=by
    refine List.perm_middle.trans (List.Perm.cons _ ?_);rw[List.take_append_drop]
   rw[hp.nodup_iff];exact List.nodup_cons.2 ⟨hni,q.nd⟩
  .have cj:=q.hands hj c
   show(insL r.ids x (r.h 0))[if s.hd 0<=s.hd j then s.hd j+1 else s.hd j]?=some (r.h j)
   have hl:(r.ids.take (s.hd 0)).length=s.hd 0:=by rw[List.length_take];omega
   rw[ei];by_cases el:s.hd 0<=s.hd j
   .rw[if_pos el,List.getElem?_append_right (by omega),hl,show s.hd j+1-s.hd 0=(s.hd j-s.hd 0)+1 from by omega,List.getElem?_cons_succ,List.getElem?_drop,show s.hd 0+(s.hd j-s.hd 0)=s.hd j from by omega]
    exact cj
   .rw[if_neg el,List.getElem?_append_left (by omega),List.getElem?_take,if_pos (by omega)]
    exact cj
end
end
end Go.Proofs.YtoenclhimbpfeaaGreatDoor
