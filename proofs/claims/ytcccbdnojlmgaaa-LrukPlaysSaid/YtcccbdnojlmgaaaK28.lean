/- Part 28. -/
import Derived.Test.YtcccbdnojlmgaaaK27
namespace Go.Proofs.Ytcccbdnojlmgaaa
set_option linter.all false
set_option maxHeartbeats 16000000
set_option maxRecDepth 100000
section
open Go.RowKit
structure Pa where
 p:Nat
 l:Nat
 ts:List Nat
def getP(ps:List Pa)(x:Nat):Option Pa:=ps.find? fun q=>decide (q.p=x)
def dropP(ps:List Pa)(x:Nat):List Pa:=ps.filter fun q=>!decide (q.p=x)
def setP(ps:List Pa)(q':Pa):List Pa:=ps.map fun q=>if q.p=q'.p then q' else q
def idxP(ps:List Pa)(x:Nat):Option Nat:=ps.findIdx? fun q=>decide (q.p=x)
def OneP(ps:List Pa):Prop:=(ps.map (·.p)).Nodup
theorem nd_at{α:Type}{l:List α}(h:l.Nodup){i j:Nat}{a:α}(hi:l[i]?=some a)(hj:l[j]?=some a):i=j:=by
 obtain⟨li,ei⟩:=List.getElem?_eq_some_iff.1 hi;obtain⟨lj,ej⟩:=List.getElem?_eq_some_iff.1 hj;rcases Nat.lt_trichotomy i j with q|q|q
 .exact(List.pairwise_iff_getElem.1 h i j li lj q (ei.trans ej.symm)).elim
 .exact q
 .exact(List.pairwise_iff_getElem.1 h j i lj li q (ej.trans ei.symm)).elim
theorem getP_mem{ps:List Pa}{x:Nat}{q:Pa}(h:getP ps x=some q):q∈ps∧q.p=x:=by
 unfold getP at h;exact⟨List.mem_of_find?_eq_some h,by simpa using List.find?_some h⟩
theorem getP_none{ps:List Pa}{x:Nat}(h:getP ps x=none):∀q∈ps,¬q.p=x:=by
 unfold getP at h;intro q hq e;have:=(List.find?_eq_none.1 h) q hq;simp[e]at this
theorem getP_no{ps:List Pa}{x:Nat}(h:∀q∈ps,¬q.p=x):getP ps x=none:=by
 unfold getP;rw[List.find?_eq_none];intro q hq;simpa using h q hq
theorem getP_some{ps:List Pa}(ho:OneP ps){q:Pa}(hq:q∈ps):getP ps q.p=some q:=by
 cases e:getP ps q.p with
 |none=>exact(getP_none e q hq rfl).elim
 |some r=>
  obtain⟨h1,h2⟩:=getP_mem e;obtain⟨i,hi,e1⟩:=List.mem_iff_getElem.1 hq;obtain⟨j,hj,e2⟩:=List.mem_iff_getElem.1 h1;have hij:i=j:=nd_at ho (a:=q.p) (by simp[hi,e1]) (by simp[hj,e2,h2]);subst hij;rw[<-e1,<-e2]
theorem dropP_mem{ps:List Pa}{x:Nat}{q:Pa}:q∈dropP ps x↔q∈ps∧¬q.p=x:=by simp[dropP]
theorem getP_drop_same(ps:List Pa)(x:Nat):getP (dropP ps x) x=none:=getP_no fun q hq=>(dropP_mem.1 hq).2
theorem getP_drop_other(ps:List Pa){x y:Nat}(h:¬y=x):getP (dropP ps x) y=getP ps y:=by
 unfold getP dropP;rw[List.find?_filter]
 congr 1
 funext q
 by_cases e:q.p=y
 .have:¬q.p=x:=fun e2=>h (e▸e2)
  simp[e,h]
 .simp[e]
theorem getP_set_same{ps:List Pa}{q':Pa}(h:(getP ps q'.p).isSome=true):getP (setP ps q') q'.p=some q':=by
 induction ps with
 |nil=>simp[getP]at h
 |cons a ps ih=>
  by_cases e:a.p=q'.p
  .simp[getP,setP,e]
  .have h2:(getP ps q'.p).isSome=true:=by
    have:getP (a::ps) q'.p=getP ps q'.p:=by simp[getP,e]
    rw[this]at h;exact h
   have h3:=ih h2;have:getP (setP (a::ps) q') q'.p=getP (setP ps q') q'.p:=by simp[getP,setP,e]
   rw[this];exact h3
theorem getP_set_other(ps:List Pa)(q':Pa){y:Nat}(h:¬y=q'.p):getP (setP ps q') y=getP ps y:=by
 induction ps with
 |nil=>rfl
 |cons a ps ih=>
  have e1:setP (a::ps) q'=(if a.p=q'.p then q' else a)::setP ps q':=rfl;rw[e1];by_cases e:a.p=q'.p
  .rw[if_pos e]
   have h1:¬q'.p=y:=fun q=>h q.symm
   have h2:¬a.p=y:=fun q=>h1 (e▸q)
   have g1:getP (q'::setP ps q') y=getP (setP ps q') y:=by simp[getP,h1]
   have g2:getP (a::ps) y=getP ps y:=by simp[getP,h2]
   rw[g1,g2,ih]
  .rw[if_neg e]
   by_cases h2:a.p=y
   .simp[getP,h2]
   .have g1:getP (a::setP ps q') y=getP (setP ps q') y:=by simp[getP,h2]
    have g2:getP (a::ps) y=getP ps y:=by simp[getP,h2]
    rw[g1,g2,ih]
theorem getP_snoc(ps:List Pa)(q':Pa)(y:Nat):getP (ps++[q']) y=(getP ps y).or (if q'.p=y then some q' else none):=by
 unfold getP;rw[List.find?_append]
 congr 1
 by_cases e:q'.p=y<;>simp[e]
theorem setP_mem{ps:List Pa}{q' q:Pa}(h:q∈setP ps q'):q=q'∨q∈ps:=by
 obtain⟨r,h1,h2⟩:=List.mem_map.1 h;by_cases e:r.p=q'.p
 .rw[if_pos e]at h2;exact .inl h2.symm
 .rw[if_neg e]at h2;exact .inr (h2▸h1)
theorem setP_p(ps:List Pa)(q':Pa):(setP ps q').map (·.p)=ps.map (·.p):=by
 unfold setP;rw[List.map_map];apply List.map_congr_left;intro a _;simp only[Function.comp]
 split
 .rename_i e;exact e.symm
 .rfl
theorem setP_len(ps:List Pa)(q':Pa):(setP ps q').length=ps.length:=by simp[setP]
theorem OneP.at{ps:List Pa}(h:OneP ps){i j:Nat}{a b:Pa}(hi:ps[i]?=some a)(hj:ps[j]?=some b)(e:a.p=b.p):i=j:=by
 exact nd_at (show(ps.map (·.p)).Nodup from h) (a:=a.p) (by simp[hi]) (by simp[hj,e])
theorem set_setP{ps:List Pa}(h:OneP ps){i:Nat}{a q':Pa}(hi:ps[i]?=some a)(e:a.p=q'.p):ps.set i q'=setP ps q':=by
 apply List.ext_getElem?;intro j;unfold setP;rw[List.getElem?_set,List.getElem?_map];have li:=(List.getElem?_eq_some_iff.1 hi).1;by_cases ej:i=j
 .subst ej
  rw[if_pos rfl,if_pos li,hi];simp[e]
 .rw[if_neg ej]
  cases hj:ps[j]? with
  |none=>rfl
  |some b=>
   have:¬b.p=q'.p:=fun q=>ej (h.at hi hj (e.trans q.symm))
   simp[this]
theorem cut_dropP{ps:List Pa}(h:OneP ps){i:Nat}{a:Pa}(hi:ps[i]?=some a):ps.take i++ps.drop (i+1)=dropP ps a.p:=by
 have li:=(List.getElem?_eq_some_iff.1 hi).1;have ea:=(List.getElem?_eq_some_iff.1 hi).2;have hs:ps=ps.take i++ps[i]::ps.drop (i+1):=by simp
 have k1:∀q∈ps.take i,¬q.p=a.p:=by
  intro q hq e;obtain⟨j,hj,e2⟩:=List.mem_iff_getElem.1 hq;have hj':j<i:=by simp at hj;omega
  have:ps[j]?=some q:=by rw[<-e2];simp
  have:=h.at this hi e;omega
 have k2:∀q∈ps.drop (i+1),¬q.p=a.p:=by
  intro q hq e;obtain⟨j,hj,e2⟩:=List.mem_iff_getElem.1 hq;have:ps[i+1+j]?=some q:=by rw[<-e2];simp at hj⊢
  have:=h.at this hi e;omega
 unfold dropP
 conv=>rhs;rw[hs]
 rw[List.filter_append,List.filter_cons,ea];rw[List.filter_eq_self.2 (fun q hq=>by simpa using k1 q hq),List.filter_eq_self.2 (fun q hq=>by simpa using k2 q hq)];simp
theorem idxP_some{ps:List Pa}{x i:Nat}(h:idxP ps x=some i):∃a,ps[i]?=some a∧a.p=x∧i<ps.length:=by
 unfold idxP at h;obtain⟨hi,hp,_⟩:=List.findIdx?_eq_some_iff_getElem.1 h;exact⟨ps[i],by simp[hi],by simpa using hp,hi⟩
theorem idxP_none{ps:List Pa}{x:Nat}(h:idxP ps x=none):∀q∈ps,¬q.p=x:=by
 unfold idxP at h;intro q hq e;have:=(List.findIdx?_eq_none_iff.1 h) q hq;simp[e]at this
theorem idxP_is{ps:List Pa}{x i:Nat}(hi:i<ps.length)(h:ps[i].p=x)(hn:∀q∈ps.take i,¬q.p=x):idxP ps x=some i:=by
 unfold idxP;rw[List.findIdx?_eq_some_iff_getElem];refine⟨hi,by simpa using h,fun j hj=>?_⟩;have:ps[j]∈ps.take i:=List.mem_iff_getElem.2 ⟨j,by simp;omega,by simp⟩;simpa using hn _ this
theorem idxP_no{ps:List Pa}{x:Nat}(h:∀q∈ps,¬q.p=x):idxP ps x=none:=by
 unfold idxP;rw[List.findIdx?_eq_none_iff];intro q hq;simpa using h q hq
theorem idxP_get{ps:List Pa}{x i:Nat}(h:idxP ps x=some i)(ho:OneP ps):ps[i]?=getP ps x:=by
 obtain⟨a,h1,h2,_⟩:=idxP_some h;rw[h1,<-h2];exact(getP_some ho (List.mem_of_getElem? h1)).symm
theorem getP_idx{ps:List Pa}{x:Nat}{a:Pa}(h:getP ps x=some a):∃i,idxP ps x=some i:=by
 cases e:idxP ps x with
 |some i=>exact⟨i,rfl⟩
 |none=>exact(idxP_none e a (getP_mem h).1 (getP_mem h).2).elim
structure S5 where
 page:List Nat
 on:Nat->Bool
 ps:List Pa
 old:List Nat
 T:Nat
def moreT(ts:List Nat)(l:Nat)(j:Nat):Nat:=if ts.getD j 0=0 then 0 else ts.getD j 0+l-ts.getD 0 0
def farT(K T:Nat)(ts:List Nat)(l:Nat):List Nat:=T::(List.range (K-1)).map (moreT ts l)
def newT(K T:Nat):List Nat:=T::List.replicate (K-1) 0
def touch(K near T:Nat)(a:Pa):Pa:=⟨a.p,T,if near<T-a.l then farT K T a.ts a.l else a.ts⟩
def accP(K near T:Nat)(ps:List Pa)(id:Nat):List Pa:=
 match getP ps id with
 |none=>ps++[⟨id,T,newT K T⟩]
 |some a=>setP ps (touch K near T a)
def S5.access(K near:Nat)(s:S5)(a id:Nat):S5:=⟨s.page.set a id,s.on,accP K near (s.T+1) s.ps id,awayN s.old id,s.T+1⟩
def S5.pg(s:S5)(f:Nat):Nat:=s.page.getD f 0
def S5.pa(s:S5)(f:Nat):Pa:=(getP s.ps (s.pg f)).getD ⟨0,0,[]⟩
def S5.key(K:Nat)(s:S5)(f:Nat):Nat×Nat:=((s.pa f).ts.getD (K-1) 0,(s.pa f).l)
def S5.may(near:Nat)(s:S5)(all:Bool)(f:Nat):Bool:=okF s.page s.on f&&(all||decide (near<s.T+1-(s.pa f).l))
def S5.worse(K:Nat)(s:S5)(f o:Nat):Bool:=decide ((s.key K o).1<(s.key K f).1)||(decide ((s.key K f).1=(s.key K o).1)&&decide ((s.key K o).2<(s.key K f).2))
def S5.bestF(K near:Nat)(s:S5)(all:Bool):Nat->Option Nat
 |0=>none
 |m+1=>if s.may near all m=true then(match S5.bestF K near s all m with
   |none=>some m
   |some o=>if s.worse K m o=true then some o else some m)else S5.bestF K near s all m
def S5.vic(K near n:Nat)(s:S5):Option Nat:=match s.bestF K near false n with|some f=>some f|none=>s.bestF K near true n
def S5.gone(kept:Nat)(s:S5)(f:Nat):S5:=
 ⟨s.page.set f 0,upd s.on f false,if kept<s.old.length+1 then dropP s.ps ((s.old++[s.pg f]).getD 0 0)else s.ps,if kept<s.old.length+1 then(s.old++[s.pg f]).drop 1 else s.old++[s.pg f],s.T⟩
def S5.remove(s:S5)(f:Nat):S5:=⟨s.page.set f 0,upd s.on f false,dropP s.ps (s.pg f),s.old,s.T⟩
def polD(K near kept n:Nat):Pol S5 where
 miss s _:=s
 access s a id:=s.access K near a id
 set s a v:=⟨s.page,upd s.on a v,s.ps,s.old,s.T⟩
 victim s _:=s.vic K near n
 gone s _:=match s.vic K near n with|none=>s|some f=>s.gone kept f
 remove s a:=s.remove a
 size s:=cntF s.page s.on s.page.length
 ghosts s:=s.old
structure PaOk(K T:Nat)(a:Pa):Prop where
 len:a.ts.length=K
 l1:1<=a.l
 lT:a.l<=T
 t0:a.ts.getD 0 0<=a.l
 tj:∀j,a.ts.getD j 0<=a.ts.getD 0 0
structure Inv5(K kept n:Nat)(s:S5):Prop where
 pn:s.page.length=n
 k1:1<=K
 ok:∀a∈s.ps,PaOk K s.T a
 len:s.ps.length<=s.T
 one:OneP s.ps
 ls:(s.ps.map (·.l)).Nodup
 fp:∀f,¬s.pg f=0->(getP s.ps (s.pg f)).isSome=true
 op:∀x∈s.old,1<=x∧(getP s.ps x).isSome=true∧∀f,¬s.pg f=x
 inj:∀f g,s.pg f=s.pg g->¬s.pg f=0->f=g
 on:∀f,s.on f=true->¬s.pg f=0
 od:s.old.Nodup
 ok2:s.old.length<=kept
theorem pg_set{l:List Nat}{a x f:Nat}(ha:a<l.length):(l.set a x).getD f 0=if f=a then x else l.getD f 0:=getD_setA ha
theorem PaOk.mono{K T T':Nat}{a:Pa}(h:PaOk K T a)(ht:T<=T'):PaOk K T' a:=⟨h.len,h.l1,Nat.le_trans h.lT ht,h.t0,h.tj⟩
theorem farT_get(K T:Nat)(ts:List Nat)(l j:Nat):(farT K T ts l).getD j 0=if j=0 then T else if j<K then moreT ts l (j-1)else 0:=by
 unfold farT
 cases j with
 |zero=>rfl
 |succ j=>
  rw[if_neg (by omega)];by_cases h:j+1<K
  .rw[if_pos h]
   simp[show j<K-1 from by omega]
  .rw[if_neg h]
   simp[show¬j<K-1 from by omega]
theorem newT_get(K T j:Nat):(newT K T).getD j 0=if j=0 then T else 0:=by
 unfold newT
 cases j with
 |zero=>rfl
 |succ j=>
  rw[if_neg (by omega)];simp[List.getElem?_replicate]
  split<;>rfl
theorem moreT_le{K T:Nat}{a:Pa}(h:PaOk K T a)(j:Nat):moreT a.ts a.l j<=a.l:=by
 unfold moreT;have:=h.tj j;have:=h.t0
 split<;>omega
theorem touch_ok{K near T:Nat}{a:Pa}(h:PaOk K T a)(hk:1<=K):PaOk K (T+1) (touch K near (T+1) a):=by
 unfold touch;by_cases e:near<T+1-a.l
 .rw[if_pos e]
  refine⟨by simp[farT];omega,by simp,Nat.le_refl _,?_,fun j=>?_⟩
  .show(farT K (T+1) a.ts a.l).getD 0 0<=T+1
   rw[farT_get];simp
  .show(farT K (T+1) a.ts a.l).getD j 0<=(farT K (T+1) a.ts a.l).getD 0 0
   rw[farT_get,farT_get,if_pos rfl];have:=moreT_le h (j-1);have:=h.lT
   split
   .omega
   .split<;>omega
 .rw[if_neg e]
  have h1:=h.t0;have h2:=h.lT;exact⟨h.len,by simp,Nat.le_refl _,by show a.ts.getD 0 0<=T+1;omega,h.tj⟩
theorem new_ok(K T id:Nat)(hk:1<=K):PaOk K (T+1) ⟨id,T+1,newT K (T+1)⟩:=by
 refine⟨by simp[newT];omega,by simp,Nat.le_refl _,?_,fun j=>?_⟩
 .show(newT K (T+1)).getD 0 0<=T+1
  rw[newT_get];simp
 .show(newT K (T+1)).getD j 0<=(newT K (T+1)).getD 0 0
  rw[newT_get,newT_get,if_pos rfl]
  split<;>omega
theorem accP_get(K near T:Nat)(ps:List Pa)(id y:Nat):getP (accP K near T ps id) y=if y=id then some (match getP ps id with|none=>⟨id,T,newT K T⟩|some a=>touch K near T a)else getP ps y:=by
 unfold accP
 cases e:getP ps id with
 |none=>
  simp only;rw[getP_snoc];by_cases ey:y=id
  .subst ey;rw[e,if_pos rfl];simp
  .rw[if_neg ey,if_neg (fun q=>ey q.symm)];simp
 |some a=>
  simp only;have hp:=(getP_mem e).2;by_cases ey:y=id
  .subst ey
   rw[if_pos rfl];have:(touch K near T a).p=y:=hp;rw[<-this];exact getP_set_same (by rw[this,e];rfl)
  .rw[if_neg ey]
   exact getP_set_other _ _ (by show¬y=a.p;rw[hp];exact ey)
theorem accP_mem{K near T:Nat}{ps:List Pa}{id:Nat}{q:Pa}(h:q∈accP K near T ps id):q∈ps∨q=⟨id,T,newT K T⟩∨∃a∈ps,a.p=id∧q=touch K near T a:=by
 unfold accP at h
 cases e:getP ps id with
 |none=>
  rw[e]at h;rcases List.mem_append.1 h with h|h
  .exact .inl h
  .exact .inr (.inl (List.mem_singleton.1 h))
 |some a=>
  rw[e]at h;rcases setP_mem h with h|h
  .exact .inr (.inr ⟨a,(getP_mem e).1,(getP_mem e).2,h⟩)
  .exact .inl h
theorem setP_l{ps:List Pa}{q':Pa}(ho:OneP ps)(h:(ps.map (·.l)).Nodup)(hl:∀q∈ps,¬q.l=q'.l):((setP ps q').map (·.l)).Nodup:=by
 induction ps with
 |nil=>exact List.nodup_nil
 |cons a ps ih=>
  have ho':OneP ps:=(List.nodup_cons.1 ho).2;have hp:=(List.nodup_cons.1 ho).1;have h':=(List.nodup_cons.1 h).2;have hl':=(List.nodup_cons.1 h).1;have ih:=ih ho' h' (fun q hq=>hl q (List.mem_cons_of_mem _ hq));have e1:setP (a::ps) q'=(if a.p=q'.p then q' else a)::setP ps q':=rfl;rw[e1,List.map_cons,List.nodup_cons];refine⟨fun hm=>?_,ih⟩;obtain⟨r,hr,er⟩:=List.mem_map.1 hm;by_cases e:a.p=q'.p
  .rw[if_pos e]at er
   have:setP ps q'=ps:=by
    unfold setP
    conv=>rhs;rw[<-List.map_id ps]
    apply List.map_congr_left;intro z hz;have:¬z.p=q'.p:=fun q=>hp (List.mem_map.2 ⟨z,hz,q.trans e.symm⟩)
    simp[this]
   rw[this]at hr;exact hl r (List.mem_cons_of_mem _ hr) er
  .rw[if_neg e]at er
   rcases setP_mem hr with rfl|q
   .exact hl a (List.mem_cons_self ..) er.symm
   .exact hl' (List.mem_map.2 ⟨r,q,er⟩)
theorem away_mem{l:List Nat}{f x:Nat}:x∈awayN l f↔x∈l∧¬x=f:=by simp[awayN]
theorem Inv5.access{K near kept n:Nat}{s:S5}(h:Inv5 K kept n s){a id:Nat}(ha:a<n)(hf:s.pg a=id∨s.pg a=0∧∀f,¬s.pg f=id)(h1:1<=id):Inv5 K kept n (s.access K near a id):=by
 have hal:a<s.page.length:=by rw[h.pn];exact ha
 have hpg:∀f,(s.access K near a id).pg f=if f=a then id else s.pg f:=fun f=>pg_set hal
 have hget:=accP_get K near (s.T+1) s.ps id
 have hoth:∀f,¬f=a->¬s.pg f=id:=fun f e q=>by
  rcases hf with q2|⟨_,q2⟩
  .exact e (h.inj f a (q.trans q2.symm) (by omega))
  .exact q2 f q
 have hlsT:∀q∈s.ps,¬q.l=s.T+1:=fun q hq e=>by have:=(h.ok q hq).lT;omega
 refine⟨by simp[S5.access,h.pn],h.k1,fun q hq=>?_,?_,?_,?_,fun f=>?_,fun x hx=>?_,fun f g=>?_,fun f hf=>?_,?_,?_⟩
 .rcases accP_mem hq with q1|rfl|⟨b,q1,_,rfl⟩
  .exact(h.ok q q1).mono (Nat.le_succ _)
  .exact new_ok K s.T id h.k1
  .exact touch_ok (h.ok b q1) h.k1
 .show(accP K near (s.T+1) s.ps id).length<=s.T+1
  have:=h.len;unfold accP
  split
  .simp;omega
  .rw[setP_len];omega
 .show OneP (accP K near (s.T+1) s.ps id)
  unfold accP
  split
  .rename_i e
   unfold OneP;rw[List.map_append,List.nodup_append];refine⟨h.one,by simp,fun x hx y hy e2=>?_⟩;obtain⟨q,q1,q2⟩:=List.mem_map.1 hx;simp at hy;exact getP_none e q q1 (q2.trans (e2.trans hy))
  .unfold OneP;rw[setP_p];exact h.one
 .show((accP K near (s.T+1) s.ps id).map (·.l)).Nodup
  unfold accP
  split
  .rw[List.map_append,List.nodup_append]
   refine⟨h.ls,by simp,fun x hx y hy e2=>?_⟩;obtain⟨q,q1,q2⟩:=List.mem_map.1 hx;simp at hy;exact hlsT q q1 (q2.trans (e2.trans hy))
  .exact setP_l h.one h.ls hlsT
 .rw[hpg]
  intro h0
  show(getP (accP K near (s.T+1) s.ps id) _).isSome=true
  rw[hget];by_cases e2:f=a
  .rw[if_pos e2,if_pos rfl];rfl
  .rw[if_neg e2]at h0⊢
   by_cases e:s.pg f=id
   .rw[if_pos e];rfl
   .rw[if_neg e];exact h.fp f h0
 .obtain⟨hx1,hx2⟩:=away_mem.1 hx
  obtain⟨o1,o2,o3⟩:=h.op x hx1;refine⟨o1,?_,fun f=>?_⟩
  .show(getP (accP K near (s.T+1) s.ps id) x).isSome=true
   rw[hget,if_neg hx2];exact o2
  .rw[hpg]
   split
   .exact fun e=>hx2 e.symm
   .exact o3 f
 .rw[hpg,hpg]
  intro e e0;by_cases ef:f=a
  .by_cases eg:g=a
   .rw[ef,eg]
   .rw[if_pos ef,if_neg eg]at e
    exact(hoth g eg e.symm).elim
  .by_cases eg:g=a
   .rw[if_neg ef,if_pos eg]at e
    exact(hoth f ef e).elim
   .rw[if_neg ef,if_neg eg]at e
    rw[if_neg ef]at e0;exact h.inj f g e e0
 .rw[hpg]
  split
  .omega
  .exact h.on f hf
 .exact h.od.filter _
 .exact Nat.le_trans (awayN_le _ _) h.ok2
theorem dropP_ok{K kept n:Nat}{s:S5}(h:Inv5 K kept n s)(x:Nat):(∀a∈dropP s.ps x,PaOk K s.T a)∧(dropP s.ps x).length<=s.T∧OneP (dropP s.ps x)∧((dropP s.ps x).map (·.l)).Nodup:=by
 refine⟨fun a ha=>h.ok a (dropP_mem.1 ha).1,Nat.le_trans (List.length_filter_le _ _) h.len,?_,?_⟩
 .exact List.Nodup.sublist (List.Sublist.map _ List.filter_sublist) h.one
 .exact List.Nodup.sublist (List.Sublist.map _ List.filter_sublist) h.ls
theorem Inv5.setOn{K kept n:Nat}{s:S5}(h:Inv5 K kept n s){a:Nat}(ha:¬s.pg a=0)(v:Bool):Inv5 K kept n ⟨s.page,upd s.on a v,s.ps,s.old,s.T⟩:=
 ⟨h.pn,h.k1,h.ok,h.len,h.one,h.ls,h.fp,h.op,h.inj,fun f hf=>by
  by_cases e:f=a
  .rw[e];exact ha
  .have:upd s.on a v f=true:=hf
   rw[upd_other _ _ e]at this;exact h.on f this,h.od,h.ok2⟩
theorem on_off{s:S5}(h:∀f,s.on f=true->¬s.pg f=0){a:Nat}{pg':Nat->Nat}(hp:∀f,pg' f=if f=a then 0 else s.pg f):∀f,upd s.on a false f=true->¬pg' f=0:=fun f hf=>by
 by_cases e:f=a
 .subst e;rw[upd_same]at hf;cases hf
 .rw[upd_other _ _ e]at hf;rw[hp,if_neg e];exact h f hf
theorem Inv5.remove{K kept n:Nat}{s:S5}(h:Inv5 K kept n s){a:Nat}(ha:a<n)(h0:¬s.pg a=0):Inv5 K kept n (s.remove a):=by
 have hal:a<s.page.length:=by rw[h.pn];exact ha
 have hpg:∀f,(s.remove a).pg f=if f=a then 0 else s.pg f:=fun f=>pg_set hal
 obtain⟨d1,d2,d3,d4⟩:=dropP_ok h (s.pg a);refine⟨by simp[S5.remove,h.pn],h.k1,d1,d2,d3,d4,fun f=>?_,fun x hx=>?_,fun f g=>?_,on_off h.on hpg,h.od,h.ok2⟩
 .rw[hpg]
  split
  .exact fun q=>(q rfl).elim
  .rename_i e
   intro q
   show(getP (dropP s.ps (s.pg a)) _).isSome=true
   rw[getP_drop_other _ (fun q2=>e (h.inj f a q2 q))];exact h.fp f q
 .obtain⟨o1,o2,o3⟩:=h.op x hx
  refine⟨o1,?_,fun f=>?_⟩
  .show(getP (dropP s.ps (s.pg a)) x).isSome=true
   rw[getP_drop_other _ (fun q=>o3 a q.symm)];exact o2
  .rw[hpg]
   split
   .omega
   .exact o3 f
 .rw[hpg,hpg]
  intro e e0;by_cases ef:f=a
  .rw[if_pos ef]at e0;exact(e0 rfl).elim
  .by_cases eg:g=a
   .rw[if_neg ef,if_pos eg]at e;rw[if_neg ef]at e0;exact(e0 e).elim
   .rw[if_neg ef,if_neg eg]at e;rw[if_neg ef]at e0;exact h.inj f g e e0
theorem Inv5.gone{K kept n:Nat}{s:S5}(h:Inv5 K kept n s){a:Nat}(ha:a<n)(h0:¬s.pg a=0):Inv5 K kept n (s.gone kept a):=by
 have hal:a<s.page.length:=by rw[h.pn];exact ha
 have hpg:∀f,(s.gone kept a).pg f=if f=a then 0 else s.pg f:=fun f=>pg_set hal
 have hnew:¬s.pg a∈s.old:=fun q=>(h.op _ q).2.2 a rfl
 have hnd:(s.old++[s.pg a]).Nodup:=by
  rw[List.nodup_append];exact⟨h.od,by simp,fun x hx y hy e=>by rw[List.mem_singleton.1 hy]at e;exact hnew (e▸hx)⟩
 have hall:∀x∈s.old++[s.pg a],1<=x∧(getP s.ps x).isSome=true∧∀f,¬f=a->¬s.pg f=x:=fun x hx=>by
  rcases List.mem_append.1 hx with q|q
  .obtain⟨o1,o2,o3⟩:=h.op x q
   exact⟨o1,o2,fun f _=>o3 f⟩
  .rw[List.mem_singleton.1 q]
   exact⟨by omega,h.fp a h0,fun f e q2=>e (h.inj f a q2 (by rw[q2];exact h0))⟩
 have hinj:∀f g,(s.gone kept a).pg f=(s.gone kept a).pg g->¬(s.gone kept a).pg f=0->f=g:=by
  intro f g;rw[hpg,hpg];intro e e0;by_cases ef:f=a
  .rw[if_pos ef]at e0;exact(e0 rfl).elim
  .by_cases eg:g=a
   .rw[if_neg ef,if_pos eg]at e;rw[if_neg ef]at e0;exact(e0 e).elim
   .rw[if_neg ef,if_neg eg]at e;rw[if_neg ef]at e0;exact h.inj f g e e0
 by_cases hk:kept<s.old.length+1
 .have e1:(s.gone kept a).ps=dropP s.ps ((s.old++[s.pg a]).getD 0 0):=if_pos hk
  have e2:(s.gone kept a).old=(s.old++[s.pg a]).drop 1:=if_pos hk;have hx0:(s.old++[s.pg a]).getD 0 0∈s.old++[s.pg a]:=by cases s.old<;>simp
  have hsp:s.old++[s.pg a]=(s.old++[s.pg a]).getD 0 0::(s.old++[s.pg a]).drop 1:=by cases s.old<;>simp
  generalize(s.old++[s.pg a]).getD 0 0=x0 at*;obtain⟨d1,d2,d3,d4⟩:=dropP_ok h x0;refine⟨by simp[S5.gone,h.pn],h.k1,by rw[e1];exact d1,by rw[e1];exact d2,by rw[e1];exact d3,by rw[e1];exact d4,fun f=>?_,fun x hx=>?_,hinj,on_off h.on hpg,?_,?_⟩
  .rw[hpg,e1]
   split
   .exact fun q=>(q rfl).elim
   .rename_i e
    intro q;rw[getP_drop_other _ ((hall x0 hx0).2.2 f e)];exact h.fp f q
  .rw[e2]at hx
   rw[e1];have hxm:=List.mem_of_mem_drop hx;obtain⟨o1,o2,o3⟩:=hall x hxm
   have hne:¬x=x0:=by
    rintro rfl;rw[hsp]at hnd;exact(List.nodup_cons.1 hnd).1 hx
   refine⟨o1,by rw[getP_drop_other _ hne];exact o2,fun f=>?_⟩;rw[hpg]
   split
   .omega
   .rename_i e;exact o3 f e
  .rw[e2];exact hnd.sublist (List.drop_sublist _ _)
  .rw[e2];have:=h.ok2;simp
   omega
 .have e1:(s.gone kept a).ps=s.ps:=if_neg hk
  have e2:(s.gone kept a).old=s.old++[s.pg a]:=if_neg hk;refine⟨by simp[S5.gone,h.pn],h.k1,by rw[e1];exact h.ok,by rw[e1];exact h.len,by rw[e1];exact h.one,by rw[e1];exact h.ls,fun f=>?_,fun x hx=>?_,hinj,on_off h.on hpg,by rw[e2];exact hnd,by rw[e2];simp;omega⟩
  .rw[hpg,e1]
   split
   .exact fun q=>(q rfl).elim
   .exact h.fp f
  .rw[e2]at hx
   rw[e1];obtain⟨o1,o2,o3⟩:=hall x hx;refine⟨o1,o2,fun f=>?_⟩;rw[hpg]
   split
   .omega
   .rename_i e;exact o3 f e
end
end Go.Proofs.Ytcccbdnojlmgaaa
