/- Part 2. -/
import Derived.Test.YtoenclhimbpfeaaGreatDoorW01
import Derived.BigQuiet
import Derived.Deep.RegionWith
namespace Go.Proofs.YtoenclhimbpfeaaGreatDoor
set_option linter.all false
set_option maxHeartbeats 16000000
set_option maxRecDepth 100000
section
def Lk(nx pv:Nat->Nat):Nat->List Nat->Nat->Prop
 |a,[],b=>nx a=b/\pv b=a
 |a,x::l,b=>nx a=x/\pv x=a/\Lk nx pv x l b
theorem Lk.append{nx pv:Nat->Nat}:∀{a:Nat} {l1:List Nat} {x:Nat} {l2:List Nat} {b:Nat},Lk nx pv a (l1++x::l2) b↔Lk nx pv a l1 x/\Lk nx pv x l2 b
 |a,[],x,l2,b=>by simp[Lk,and_assoc]
 |a,y::l1,x,l2,b=>by simp[Lk,Lk.append (l1:=l1),and_assoc]
theorem Lk.congr{nx pv nx' pv':Nat->Nat}:∀{a:Nat} {l:List Nat} {b:Nat},Lk nx pv a l b->(∀i,i=a\/i∈l->nx' i=nx i)->(∀i,i∈l\/i=b->pv' i=pv i)->Lk nx' pv' a l b
 |a,[],b,h,h1,h2=>by
  obtain⟨e1,e2⟩:=h;exact⟨by rw[h1 a (.inl rfl)];exact e1,by rw[h2 b (.inr rfl)];exact e2⟩
 |a,x::l,b,h,h1,h2=>by
  obtain⟨e1,e2,r⟩:=h;refine⟨by rw[h1 a (.inl rfl)];exact e1,by rw[h2 x (.inl (List.mem_cons_self ..))];exact e2,Lk.congr r ?_ ?_⟩
  .intro i hi;exact h1 i (.inr (by rcases hi with rfl|hi<;>simp[*]))
  .intro i hi;exact h2 i (by rcases hi with hi|rfl<;>simp[*])
theorem Lk.last{nx pv:Nat->Nat}:∀{a:Nat} {l:List Nat} {b:Nat},Lk nx pv a l b->pv b=l.getLast?.getD a
 |a,[],b,h=>h.2
 |a,[x],b,h=>by simpa[Lk]using h.2.2.2
 |a,x::y::l,b,h=>by
  have:=Lk.last (l:=y::l) h.2.2;rw[this];cases l<;>simp[List.getLast?_cons]
theorem Lk.first{nx pv:Nat->Nat}:∀{a:Nat} {l:List Nat} {b:Nat},Lk nx pv a l b->nx a=l.head?.getD b
 |a,[],b,h=>h.1
 |a,x::l,b,h=>h.1
structure RInv(n m:Nat)(rw nx pv ls:Nat->Nat)(L:List (List Nat)):Prop where
 len:L.length=m
 lk:∀(k:Nat) (l:List Nat),L[k]?=some l->Lk nx pv (n+k) l (n+k)
 lsz:∀(k:Nat) (l:List Nat),L[k]?=some l->ls k=l.length
 nd:∀(k:Nat) (l:List Nat),L[k]?=some l->l.Nodup
 mem:∀(k:Nat) (l:List Nat),L[k]?=some l->∀x,x∈l->x<n/\rw x=k+1
 cl:∀k,k<m->rw (n+k)=k+1
 out:∀x,x<n->rw x=0\/∃(k:Nat) (l:List Nat),L[k]?=some l/\x∈l
theorem Lk.at{nx pv:Nat->Nat}{a:Nat}{l1:List Nat}{x:Nat}{l2:List Nat}{b:Nat}(h:Lk nx pv a (l1++x::l2) b):pv x=l1.getLast?.getD a/\nx x=l2.head?.getD b:=by
 obtain⟨h1,h2⟩:=Lk.append.1 h;exact⟨h1.last,h2.first⟩
section
variable{n m:Nat}{rw nx pv ls:Nat->Nat}{L:List (List Nat)}
theorem dh{l:List Nat}{a:Nat}:l.getLast?.getD a=a/\l=[]\/l.getLast?.getD a∈l:=by
 rcases List.eq_nil_or_concat l with rfl|⟨l',y,rfl⟩
 .exact .inl ⟨rfl,rfl⟩
 .right;simp
theorem fU{l:List Nat}{a:Nat}:l.head?.getD a=a/\l=[]\/l.head?.getD a∈l:=by
 cases l with
 |nil=>exact .inl ⟨rfl,rfl⟩
 |cons x l=>right;simp
theorem RInv.near(h:RInv n m rw nx pv ls L){k:Nat}{l1:List Nat}{x:Nat}{l2:List Nat}(hl:L[k]?=some (l1++x::l2)):
  (pv x=n+k/\l1=[]\/pv x∈l1)/\(nx x=n+k/\l2=[]\/nx x∈l2):=by
 obtain⟨e1,e2⟩:=(h.lk k _ hl).at;exact⟨e1▸dh,e2▸fU⟩
theorem RInv.k_lt(h:RInv n m rw nx pv ls L){k:Nat}{l:List Nat}(hl:L[k]?=some l):k<m:=by
 have:=(List.getElem?_eq_some_iff.1 hl).1;have:=h.len;omega
theorem RInv.set_get{k j:Nat}{l l':List Nat}(hl:(L.set k l)[j]?=some l'):j=k/\l'=l\/¬j=k/\L[j]?=some l':=by
 rw[List.getElem?_set]at hl;by_cases e:k=j
 .rw[if_pos e]at hl
  split at hl
  .exact .inl ⟨e.symm,(Option.some.inj hl).symm⟩
  .cases hl
 .rw[if_neg e]at hl
  exact .inr ⟨λq=>e q.symm,hl⟩
theorem RInv.bounds(h:RInv n m rw nx pv ls L){k:Nat}{l1:List Nat}{x:Nat}{l2:List Nat}(hl:L[k]?=some (l1++x::l2)):
  x<n/\rw x=k+1/\pv x<n+m/\nx x<n+m/\¬pv x=x/\¬nx x=x:=by
 have hk:=h.k_lt hl;have hx:=h.mem k _ hl x (by simp);have hnd:=h.nd k _ hl;obtain⟨hp,hn⟩:=h.near hl;rw[List.nodup_append]at hnd;obtain⟨_,d2,d3⟩:=hnd;rw[List.nodup_cons]at d2;refine⟨hx.1,hx.2,?_,?_,?_,?_⟩
 .rcases hp with⟨e,_⟩|e
  .omega
  .have:=(h.mem k _ hl (pv x) (by simp[e])).1;omega
 .rcases hn with⟨e,_⟩|e
  .omega
  .have:=(h.mem k _ hl (nx x) (by simp[e])).1;omega
 .rcases hp with⟨e,_⟩|e
  .omega
  .intro q;exact d3 _ e _ (List.mem_cons_self ..) q
 .rcases hn with⟨e,_⟩|e
  .omega
  .intro q;rw[q]at e;exact d2.1 e
theorem RInv.take(h:RInv n m rw nx pv ls L){k:Nat}{l1:List Nat}{x:Nat}{l2:List Nat}(hl:L[k]?=some (l1++x::l2)):
  RInv n m (upd rw x 0) (upd (upd nx (pv x) (nx x)) x 0) (upd (upd pv (nx x) (pv x)) x 0) (upd ls k (ls k-1)) (L.set k (l1++l2)):=by
 have hk:=h.k_lt hl;obtain⟨hxn,hrx,b1,b2,b3,b4⟩:=h.bounds hl;obtain⟨hp,hn⟩:=h.near hl;have hnd:=h.nd k _ hl;have hlk:=h.lk k _ hl;have hmem:=h.mem k _ hl;rw[List.nodup_append]at hnd;obtain⟨d1,d2,d3⟩:=hnd;rw[List.nodup_cons]at d2;have nx1:∀i,i∈l1->¬i=x:=λi hi e=>d3 i hi x (List.mem_cons_self ..) e
 have nx2:∀i,i∈l2->¬i=x:=λi hi e=>d2.1 (e▸hi)
 have n12:∀i,i∈l1->¬i∈l2:=λi hi hj=>d3 i hi i (List.mem_cons_of_mem _ hj) rfl
 have ltn:∀i,i∈l1\/i∈l2->i<n:=λi hi=>(hmem i (by rcases hi with hi|hi<;>simp[hi])).1
 have oth:∀j l,¬j=k->L[j]?=some l->∀i,i=n+j\/i∈l->¬i=x/\¬i=pv x/\¬i=nx x:=by
  intro j l hjk hj i hi
  have notin:∀y,y∈l1++x::l2->¬i=y:=by
   intro y hy e;have h1:=hmem y hy;rcases hi with hi|hi
   .omega
   .have h2:=h.mem j l hj i hi;rw[e]at h2;omega
  refine⟨notin x (by simp),?_,?_⟩
  .rcases hp with⟨e,_⟩|e
   .rcases hi with hi|hi
    .omega
    .have h2:=h.mem j l hj i hi;omega
   .exact notin _ (by simp[e])
  .rcases hn with⟨e,_⟩|e
   .rcases hi with hi|hi
    .omega
    .have h2:=h.mem j l hj i hi;omega
   .exact notin _ (by simp[e])
 refine⟨by simp[h.len],?_,?_,?_,?_,?_,?_⟩
 .intro j l' hj
  rcases RInv.set_get hj with⟨rfl,rfl⟩|⟨hjk,hj'⟩
  .obtain⟨k1,k2⟩:=Lk.append.1 hlk
   have e1:pv x=l1.getLast?.getD (n+j):=k1.last;have e2:nx x=l2.head?.getD (n+j):=k2.first;rcases List.eq_nil_or_concat l1 with rfl|⟨l1',y,rfl⟩
   .have e1':pv x=n+j:=by simpa using e1
    cases l2 with
    |nil=>
     have e2':nx x=n+j:=by simpa using e2
     simp[Lk,upd,e1',e2'];omega
    |cons z l2=>
     have e2':nx x=z:=by simpa using e2
     have hz:=ltn z (.inr (by simp));have hzx:=nx2 z (by simp);refine⟨by simp[upd,e1',e2'];omega,by simp[upd,e1',e2',hzx],?_⟩;refine Lk.congr k2.2.2 ?_ ?_
     .intro i hi
      have hi':i∈z::l2:=by rcases hi with rfl|hi<;>simp[*]
      have:=ltn i (.inr hi');rw[aa _ _ (nx2 i hi'),aa _ _ (by omega)]
     .intro i hi
      have hix:¬i=x:=by rcases hi with hi|rfl;exact nx2 i (by simp[hi]);omega
      have hiz:¬i=nx x:=by
       rw[e2'];rcases hi with hi|rfl
       .intro e;subst e;exact(List.nodup_cons.1 d2.2).1 hi
       .omega
      rw[aa _ _ hix,aa _ _ hiz]
   .have e1':pv x=y:=by simpa using e1
    rw[List.concat_eq_append]at*;have hy:=ltn y (.inl (by simp));have hyx:=nx1 y (by simp);obtain⟨q1,q2⟩:=Lk.append.1 k1
    have dy:¬y∈l1':=by
     rw[List.nodup_append]at d1;exact λhm=>d1.2.2 y hm y (by simp) rfl
    have tail:Lk (upd (upd nx (pv x) (nx x)) x 0) (upd (upd pv (nx x) (pv x)) x 0) y l2 (n+j):=by
     cases l2 with
     |nil=>
      have e2':nx x=n+j:=by simpa using e2
      exact⟨by simp[upd,e1',e2',hyx],by simp[upd,e1',e2'];omega⟩
     |cons z l2=>
      have e2':nx x=z:=by simpa using e2
      have hz:=ltn z (.inr (by simp));have hzx:=nx2 z (by simp);have hyz:∀i,i∈z::l2->¬i=y:=λi hi e=>n12 y (by simp) (e▸hi)
      refine⟨by simp[upd,e1',e2',hyx],by simp[upd,e1',e2',hzx],?_⟩;refine Lk.congr k2.2.2 ?_ ?_
      .intro i hi
       have hi':i∈z::l2:=by rcases hi with rfl|hi<;>simp[*]
       rw[aa _ _ (nx2 i hi'),aa _ _ (by rw[e1'];exact hyz i hi')]
      .intro i hi
       have hix:¬i=x:=by rcases hi with hi|rfl;exact nx2 i (by simp[hi]);omega
       have hiz:¬i=nx x:=by
        rw[e2'];rcases hi with hi|rfl
        .intro e;subst e;exact(List.nodup_cons.1 d2.2).1 hi
        .omega
       rw[aa _ _ hix,aa _ _ hiz]
    rw[List.append_assoc];refine Lk.append.2 ⟨?_,tail⟩;refine Lk.congr q1 ?_ ?_
    .intro i hi
     have hix:¬i=x:=by rcases hi with rfl|hi;omega;exact nx1 i (by simp[hi])
     have hiy:¬i=pv x:=by
      rw[e1'];rcases hi with rfl|hi;omega;exact λe=>dy (e▸hi)
     rw[aa _ _ hix,aa _ _ hiy]
    .intro i hi
     have hi':i∈l1'++[y]:=by rcases hi with hi|rfl<;>simp[*]
     have hiz:¬i=nx x:=by
      rcases hn with⟨e,_⟩|e
      .have:=ltn i (.inl hi');omega
      .intro q;exact n12 i hi' (q▸e)
     rw[aa _ _ (nx1 i hi'),aa _ _ hiz]
  .refine Lk.congr (h.lk j l' hj') ?_ ?_
   .intro i hi
    have:=oth j l' hjk hj' i hi;rw[aa _ _ this.1,aa _ _ this.2.1]
   .intro i hi
    have:=oth j l' hjk hj' i hi.symm;rw[aa _ _ this.1,aa _ _ this.2.2]
 .intro j l' hj
  rcases RInv.set_get hj with⟨rfl,rfl⟩|⟨hjk,hj'⟩
  .rw[upd_same,h.lsz j _ hl];simp
  .rw[aa _ _ hjk,h.lsz j _ hj']
 .intro j l' hj
  rcases RInv.set_get hj with⟨rfl,rfl⟩|⟨hjk,hj'⟩
  .rw[List.nodup_append]
   exact⟨d1,d2.2,λa ha b hb=>d3 a ha b (List.mem_cons_of_mem _ hb)⟩
  .exact h.nd j _ hj'
 .intro j l' hj y hy
  rcases RInv.set_get hj with⟨rfl,rfl⟩|⟨hjk,hj'⟩
  .have hyx:¬y=x:=by rcases List.mem_append.1 hy with q|q;exact nx1 y q;exact nx2 y q
   rw[aa _ _ hyx];exact hmem y (by rcases List.mem_append.1 hy with q|q<;>simp[q])
  .rw[aa _ _ (oth j l' hjk hj' y (.inr hy)).1]
   exact h.mem j l' hj' y hy
 .intro j hj
  rw[aa _ _ (by omega)];exact h.cl j hj
 .intro y hy
  by_cases e:y=x
  .subst e;left;exact upd_same ..
  .rw[aa _ _ e]
   rcases h.out y hy with q|⟨j,l,hj,hm⟩
   .exact .inl q
   .right
    by_cases ej:j=k
    .subst ej
     rw[hl]at hj;obtain rfl:=Option.some.inj hj;refine⟨j,l1++l2,by rw[List.getElem?_set,if_pos rfl,if_pos (by have:=h.len;omega)],?_⟩;simp only[List.mem_append,List.mem_cons]at hm⊢;rcases hm with q|q|q
     .exact .inl q
     .exact(e q).elim
     .exact .inr q
    .exact⟨j,l,by rw[List.getElem?_set,if_neg (λq=>ej q.symm)];exact hj,hm⟩
theorem RInv.give(h:RInv n m rw nx pv ls L){k:Nat}{l1 l2:List Nat}(hl:L[k]?=some (l1++l2)){x:Nat}(hx:x<n)(hrx:rw x=0){t p:Nat}(ht:t=l2.head?.getD (n+k))(hp:p=pv t):
  RInv n m (upd rw x (k+1)) (upd (upd nx x t) p x) (upd (upd pv x p) t x) (upd ls k (ls k+1)) (L.set k (l1++x::l2)):=by
 have hk:=h.k_lt hl;have hnd:=h.nd k _ hl;have hlk:=h.lk k _ hl;have hmem:=h.mem k _ hl;rw[List.nodup_append]at hnd;obtain⟨d1,d2,d3⟩:=hnd
 have notin:∀(j:Nat) (l:List Nat),L[j]?=some l->∀(i:Nat),i∈l->¬i=x:=by
  intro j l hj i hi e;have:=(h.mem j l hj i hi).2;rw[e,hrx]at this;omega
 have nx1:∀i,i∈l1->¬i=x:=λi hi=>notin k _ hl i (by simp[hi])
 have nx2:∀i,i∈l2->¬i=x:=λi hi=>notin k _ hl i (by simp[hi])
 have n12:∀i,i∈l1->¬i∈l2:=λi hi hj=>d3 i hi i hj rfl
 have ltn:∀i,i∈l1\/i∈l2->i<n:=λi hi=>(hmem i (by rcases hi with hi|hi<;>simp[hi])).1
 have hpp:p=l1.getLast?.getD (n+k):=by
  rw[hp,ht]
  cases l2 with
  |nil=>simp only[List.append_nil]at hlk;simpa using hlk.last
  |cons z l2=>simpa using(Lk.append.1 hlk).1.last
 have ptcase:(t=n+k/\l2=[])\/t∈l2:=ht▸fU;have ppcase:(p=n+k/\l1=[])\/p∈l1:=hpp▸dh;have htx:¬t=x:=by rcases ptcase with⟨e,_⟩|e;omega;exact nx2 _ e
 have hpx:¬p=x:=by rcases ppcase with⟨e,_⟩|e;omega;exact nx1 _ e
 have oth:∀j l,¬j=k->L[j]?=some l->∀i,i=n+j\/i∈l->¬i=x/\¬i=p/\¬i=t:=by
  intro j l hjk hj i hi
  have ne:∀y,y∈l1++l2->¬i=y:=by
   intro y hy e;have h1:=hmem y hy;rcases hi with hi|hi
   .omega
   .have h2:=h.mem j l hj i hi;rw[e]at h2;omega
  refine⟨?_,?_,?_⟩
  .rcases hi with hi|hi
   .omega
   .exact notin j l hj i hi
  .rcases ppcase with⟨e,_⟩|e
   .rcases hi with hi|hi
    .omega
    .have h2:=h.mem j l hj i hi;omega
   .exact ne _ (by simp[e])
  .rcases ptcase with⟨e,_⟩|e
   .rcases hi with hi|hi
    .omega
    .have h2:=h.mem j l hj i hi;omega
   .exact ne _ (by simp[e])
 refine⟨by simp[h.len],?_,?_,?_,?_,?_,?_⟩
 .intro j l' hj
  rcases RInv.set_get hj with⟨rfl,rfl⟩|⟨hjk,hj'⟩
  .refine Lk.append.2 ⟨?_,?_⟩
   ·
    rcases List.eq_nil_or_concat l1 with rfl|⟨l1',y,rfl⟩
    .have e:p=n+j:=by simpa using hpp
     exact⟨by rw[e];simp[upd],by rw[aa _ _ (λq=>htx q.symm)];simp[upd,e]⟩
    .rw[List.concat_eq_append]at*
     have e:p=y:=by simpa using hpp
     have q1:Lk nx pv (n+j) l1' y:=by
      rw[List.append_assoc]at hlk;exact(Lk.append.1 hlk).1
     have dy:¬y∈l1':=by
      rw[List.nodup_append]at d1;exact λhm=>d1.2.2 y hm y (by simp) rfl
     have hy:=ltn y (.inl (by simp));refine Lk.append.2 ⟨Lk.congr q1 ?_ ?_,?_⟩
     .intro i hi
      have h1:¬i=p:=by rw[e];rcases hi with rfl|hi;omega;exact λq=>dy (q▸hi)
      have h2:¬i=x:=by rcases hi with rfl|hi;omega;exact nx1 i (by simp[hi])
      rw[aa _ _ h1,aa _ _ h2]
     .intro i hi
      have hi':i∈l1'++[y]:=by rcases hi with hi|rfl<;>simp[*]
      have h1:¬i=t:=by
       rcases ptcase with⟨e,_⟩|e
       .have:=ltn i (.inl hi');omega
       .exact λq=>n12 i hi' (q▸e)
      rw[aa _ _ h1,aa _ _ (nx1 i hi')]
     .exact⟨by rw[e];simp[upd],by rw[aa _ _ (λq=>htx q.symm)];simp[upd,e]⟩
   .cases l2 with
    |nil=>
     have e:t=n+j:=by simpa using ht
     exact⟨by rw[aa _ _ (λq=>hpx q.symm)];simp[upd,e],by rw[e];simp[upd]⟩
    |cons z l2=>
     have e:t=z:=by simpa using ht
     have k2:=(Lk.append.1 hlk).2;refine⟨by rw[aa _ _ (λq=>hpx q.symm)];simp[upd,e],by rw[e];simp[upd],?_⟩;refine Lk.congr k2 ?_ ?_
     .intro i hi
      have hi':i∈z::l2:=by rcases hi with rfl|hi<;>simp[*]
      have h1:¬i=p:=by
       rcases ppcase with⟨e,_⟩|e
       .have:=ltn i (.inr hi');omega
       .exact λq=>n12 p e (q▸hi')
      rw[aa _ _ h1,aa _ _ (nx2 i hi')]
     .intro i hi
      have h2:¬i=x:=by rcases hi with hi|rfl;exact nx2 i (by simp[hi]);omega
      have h1:¬i=t:=by
       rw[e];rcases hi with hi|rfl
       .intro q;subst q;exact(List.nodup_cons.1 d2).1 hi
       .have:=ltn z (.inr (by simp));omega
      rw[aa _ _ h1,aa _ _ h2]
  .refine Lk.congr (h.lk j l' hj') ?_ ?_
   .intro i hi
    have:=oth j l' hjk hj' i hi;rw[aa _ _ this.2.1,aa _ _ this.1]
   .intro i hi
    have:=oth j l' hjk hj' i hi.symm;rw[aa _ _ this.2.2,aa _ _ this.1]
 .intro j l' hj
  rcases RInv.set_get hj with⟨rfl,rfl⟩|⟨hjk,hj'⟩
  .rw[upd_same,h.lsz j _ hl];simp;omega
  .rw[aa _ _ hjk,h.lsz j _ hj']
 .intro j l' hj
  rcases RInv.set_get hj with⟨rfl,rfl⟩|⟨hjk,hj'⟩
  .rw[List.nodup_append]
   refine⟨d1,List.nodup_cons.2 ⟨λq=>nx2 x q rfl,d2⟩,λa ha b hb=>?_⟩;rcases List.mem_cons.1 hb with rfl|hb
   .exact nx1 a ha
   .exact d3 a ha b hb
  .exact h.nd j _ hj'
 .intro j l' hj y hy
  rcases RInv.set_get hj with⟨rfl,rfl⟩|⟨hjk,hj'⟩
  .by_cases e:y=x
   .subst e;exact⟨hx,upd_same ..⟩
   .rw[aa _ _ e]
    exact hmem y (by simp only[List.mem_append,List.mem_cons]at hy⊢;rcases hy with q|q|q;exact .inl q;exact(e q).elim;exact .inr q)
  .rw[aa _ _ (notin j l' hj' y hy)]
   exact h.mem j l' hj' y hy
 .intro j hj
  rw[aa _ _ (by omega)];exact h.cl j hj
 .intro y hy
  by_cases e:y=x
  .subst e
   exact .inr ⟨k,_,by rw[List.getElem?_set,if_pos rfl,if_pos (by have:=h.len;omega)],by simp⟩
  .rw[aa _ _ e]
   rcases h.out y hy with q|⟨j,l,hj,hm⟩
   .exact .inl q
   .right
    by_cases ej:j=k
    .subst ej
     rw[hl]at hj;obtain rfl:=Option.some.inj hj;refine⟨j,l1++x::l2,by rw[List.getElem?_set,if_pos rfl,if_pos (by have:=h.len;omega)],?_⟩;simp only[List.mem_append,List.mem_cons]at hm⊢;rcases hm with q|q
     .exact .inl q
     .exact .inr (.inr q)
    .exact⟨j,l,by rw[List.getElem?_set,if_neg (λq=>ej q.symm)];exact hj,hm⟩
end
end
section
open Go.RowKit
def aG(L:List (List Nat))(x:Nat):Option Nat:=L.findIdx? (λl=>decide (x∈l))
def bO(L:List (List Nat))(x:Nat):List (List Nat):=match aG L x with
 |none=>L
 |some k=>L.set k ((L.getD k []).filter λy=>!decide (y=x))
def cH(L:List (List Nat))(k x:Nat)(front:Bool):List (List Nat):=
 (bO L x).set k (if front then x::(bO L x).getD k []else(bO L x).getD k []++[x])
def insL(l:List Nat)(x o:Nat):List Nat:=l.takeWhile (λy=>!decide (y=o))++x::l.dropWhile (λy=>!decide (y=o))
def sw(L:List (List Nat))(x o:Nat):List (List Nat):=match aG L o with
 |none=>L
 |some k=>(bO L x).set k (insL ((bO L x).getD k []) x o)
theorem ew{L:List (List Nat)}{x k:Nat}(h:aG L x=some k):∃l,L[k]?=some l/\x∈l:=by
 obtain⟨hk,h1,_⟩:=List.findIdx?_eq_some_iff_getElem.1 h;exact⟨_,List.getElem?_eq_getElem hk,by simpa using h1⟩
theorem ku{L:List (List Nat)}{x:Nat}(h:aG L x=none):∀(k:Nat) (l:List Nat),L[k]?=some l->¬x∈l:=by
 intro k l hl;have:=List.findIdx?_eq_none_iff.1 h l (List.mem_of_getElem? hl);simpa using this
section
variable{n m:Nat}{rw nx pv ls:Nat->Nat}{L:List (List Nat)}
theorem RInv.rowIx_of(h:RInv n m rw nx pv ls L){k:Nat}{l:List Nat}(hl:L[k]?=some l){x:Nat}(hx:x∈l):aG L x=some k:=by
 cases e:aG L x with
 |none=>exact(ku e k l hl hx).elim
 |some j=>
  obtain⟨l',hj,hx'⟩:=ew e;have h1:=(h.mem k l hl x hx).2;have h2:=(h.mem j l' hj x hx').2
  congr 1;omega
theorem RInv.rowIx_row(h:RInv n m rw nx pv ls L){k:Nat}{x:Nat}(e:aG L x=some k):x<n/\rw x=k+1/\k<m:=by
 obtain⟨l,hl,hx⟩:=ew e;exact⟨(h.mem k l hl x hx).1,(h.mem k l hl x hx).2,h.k_lt hl⟩
theorem RInv.row_none(h:RInv n m rw nx pv ls L){x:Nat}(hx:x<n)(e:aG L x=none):rw x=0:=by
 rcases h.out x hx with q|⟨k,l,hl,hm⟩
 .exact q
 .exact(ku e k l hl hm).elim
theorem RInv.split(h:RInv n m rw nx pv ls L){k:Nat}{x:Nat}(e:aG L x=some k):∃l1 l2,L[k]?=some (l1++x::l2):=by
 obtain⟨l,hl,hx⟩:=ew e;obtain⟨l1,l2,rfl⟩:=List.append_of_mem hx;exact⟨l1,l2,hl⟩
theorem RInv.split_not(h:RInv n m rw nx pv ls L){k:Nat}{x:Nat}{l1 l2:List Nat}(hl:L[k]?=some (l1++x::l2)):(¬x∈l1)/\¬x∈l2:=by
 have hnd:=h.nd k _ hl;rw[List.nodup_append]at hnd;exact⟨λq=>hnd.2.2 x q x (by simp) rfl,(List.nodup_cons.1 hnd.2.1).1⟩
theorem eM{l:List Nat}{x:Nat}(h:¬x∈l):(l.filter λy=>!decide (y=x))=l:=by
 rw[List.filter_eq_self];intro a ha;have:¬a=x:=λe=>h (e▸ha)
 simp[this]
theorem RInv.outL_eq(h:RInv n m rw nx pv ls L){k:Nat}{x:Nat}{l1 l2:List Nat}(hl:L[k]?=some (l1++x::l2)):bO L x=L.set k (l1++l2):=by
 have e:=h.rowIx_of hl (x:=x) (by simp);obtain⟨q1,q2⟩:=h.split_not hl;simp[bO,e,List.getD_eq_getElem?_getD,hl,List.filter_append,eM q1,eM q2]
theorem RInv.rowIx_out(h:RInv n m rw nx pv ls L)(x:Nat):aG (bO L x) x=none:=by
 cases e:aG L x with
 |none=>simp[bO,e]
 |some k=>
  obtain⟨l1,l2,hl⟩:=h.split e;rw[h.outL_eq hl];have q:=h.split_not hl;unfold aG;rw[List.findIdx?_eq_none_iff];intro l hm;obtain⟨j,hj⟩:=List.getElem?_of_mem hm;rcases RInv.set_get hj with⟨rfl,rfl⟩|⟨hjk,hj'⟩
  .simp[q]
  .have hx:¬x∈l:=by
    intro hx;have h1:=(h.mem j l hj' x hx).2;have h2:=(h.rowIx_row e).2.1;omega
   simpa using hx
theorem ve{l1 l2:List Nat}{x o:Nat}(h:¬o∈l1):insL (l1++o::l2) x o=l1++x::o::l2:=by
 have ha:∀(l:List Nat),(¬o∈l)->(l++o::l2).takeWhile (λy=>!decide (y=o))=l/\(l++o::l2).dropWhile (λy=>!decide (y=o))=o::l2:=by
  intro l
  induction l with
  |nil=>intro _;simp
  |cons a l ih=>
   intro hl;have ha:¬a=o:=λe=>hl (by simp[e])
   have:=ih (λq=>hl (by simp[q]));simp[ha,this]
 simp[insL,ha l1 h]
end
def hdF(n m nb lb:Nat):Nat->Value
 |0=>.int .i64 n
 |1=>.slice (some ⟨nb,0,none⟩) (n+m) (n+m)
 |_=>.slice (some ⟨lb,0,none⟩) m m
def ndF(rw nx pv:Nat->Nat)(i:Nat):Value:=.int .i64 (if i%3=0 then rw (i/3)else if i%3=1 then nx (i/3)else pv (i/3):Nat)
def lnF(ls:Nat->Nat)(i:Nat):Value:=.int .i64 (ls i:Nat)
theorem tZ(rw nx pv:Nat->Nat)(i:Nat):ndF rw nx pv (i*3)=.int .i64 (rw i:Nat):=by
 have h1:i*3%3=0:=by omega
 have h2:i*3/3=i:=by omega
 simp[ndF,h1,h2]
theorem pD(rw nx pv:Nat->Nat)(i:Nat):ndF rw nx pv (i*3+1)=.int .i64 (nx i:Nat):=by
 have h1:(i*3+1)%3=1:=by omega
 have h2:(i*3+1)/3=i:=by omega
 simp[ndF,h1,h2]
theorem pO(rw nx pv:Nat->Nat)(i:Nat):ndF rw nx pv (i*3+2)=.int .i64 (pv i:Nat):=by
 have h1:(i*3+2)%3=2:=by omega
 have h2:(i*3+2)/3=i:=by omega
 simp[ndF,h1,h2]
theorem sM(rw nx pv:Nat->Nat)(i v:Nat):upd (ndF rw nx pv) (i*3) (.int .i64 (v:Nat))=ndF (upd rw i v) nx pv:=by
 funext j
 by_cases e:j=i*3
 .subst e;rw[upd_same,tZ,upd_same]
 .rw[aa _ _ e]
  unfold ndF;by_cases h0:j%3=0
  .have:¬j/3=i:=by omega
   simp[h0,aa _ _ this]
  .simp[h0]
theorem qg(rw nx pv:Nat->Nat)(i v:Nat):upd (ndF rw nx pv) (i*3+1) (.int .i64 (v:Nat))=ndF rw (upd nx i v) pv:=by
 funext j
 by_cases e:j=i*3+1
 .subst e;rw[upd_same,pD,upd_same]
 .rw[aa _ _ e]
  unfold ndF;by_cases h0:j%3=0
  .simp[h0]
  .by_cases h1:j%3=1
   .have:¬j/3=i:=by omega
    simp[h1,aa _ _ this]
   .simp[h0,h1]
theorem qt(rw nx pv:Nat->Nat)(i v:Nat):upd (ndF rw nx pv) (i*3+2) (.int .i64 (v:Nat))=ndF rw nx (upd pv i v):=by
 funext j
 by_cases e:j=i*3+2
 .subst e;rw[upd_same,pO,upd_same]
 .rw[aa _ _ e]
  unfold ndF;by_cases h0:j%3=0
  .simp[h0]
  .by_cases h1:j%3=1
   .simp[h1]
   .have:¬j/3=i:=by omega
    simp[h0,h1,aa _ _ this]
structure RC(w:World)(b nb lb n m:Nat)(rw nx pv ls:Nat->Nat):Prop where
 hd:Blk w b 3 (hdF n m nb lb)
 nd:Blk w nb ((n+m)*3) (ndF rw nx pv)
 ln:Blk w lb m (lnF ls)
 d1:¬b=nb
 d2:¬b=lb
 d3:¬nb=lb
 hn:n<=200000
 hm:m<=16
section
variable{w w':World}{b nb lb n m:Nat}{rw nx pv ls:Nat->Nat}
theorem RC.c0(h:RC w b nb lb n m rw nx pv ls):w.cell? ⟨b,0,none⟩=some (.int .i64 n):=h.hd.cell (by omega)
theorem RC.c1(h:RC w b nb lb n m rw nx pv ls):w.cell? ⟨b,1,none⟩=some (.slice (some ⟨nb,0,none⟩) (n+m) (n+m)):=h.hd.cell (by omega)
theorem RC.c2(h:RC w b nb lb n m rw nx pv ls):w.cell? ⟨b,2,none⟩=some (.slice (some ⟨lb,0,none⟩) m m):=h.hd.cell (by omega)
theorem RC.row(h:RC w b nb lb n m rw nx pv ls){i:Nat}(hi:i<n+m):w.cell? ⟨nb,i*3,none⟩=some (.int .i64 (rw i:Nat)):=by
 rw[h.nd.cell (by omega),tZ]
theorem RC.next(h:RC w b nb lb n m rw nx pv ls){i:Nat}(hi:i<n+m):w.cell? ⟨nb,i*3+1,none⟩=some (.int .i64 (nx i:Nat)):=by
 rw[h.nd.cell (by omega),pD]
theorem RC.prev(h:RC w b nb lb n m rw nx pv ls){i:Nat}(hi:i<n+m):w.cell? ⟨nb,i*3+2,none⟩=some (.int .i64 (pv i:Nat)):=by
 rw[h.nd.cell (by omega),pO]
theorem RC.len(h:RC w b nb lb n m rw nx pv ls){i:Nat}(hi:i<m):w.cell? ⟨lb,i,none⟩=some (.int .i64 (ls i:Nat)):=h.ln.cell hi
theorem RC.setRow(h:RC w b nb lb n m rw nx pv ls)(i v:Nat){z:Int}(hz:z=(v:Int)):RC (w.setCell ⟨nb,i*3,none⟩ (.int .i64 z)) b nb lb n m (upd rw i v) nx pv ls:=by
 subst hz;exact⟨h.hd.other h.d1 _,by rw[<-sM];exact h.nd.set _ _,h.ln.other (λe=>h.d3 e.symm) _,h.d1,h.d2,h.d3,h.hn,h.hm⟩
theorem RC.setNext(h:RC w b nb lb n m rw nx pv ls)(i v:Nat){z:Int}(hz:z=(v:Int)):RC (w.setCell ⟨nb,i*3+1,none⟩ (.int .i64 z)) b nb lb n m rw (upd nx i v) pv ls:=by
 subst hz;exact⟨h.hd.other h.d1 _,by rw[<-qg];exact h.nd.set _ _,h.ln.other (λe=>h.d3 e.symm) _,h.d1,h.d2,h.d3,h.hn,h.hm⟩
theorem RC.setPrev(h:RC w b nb lb n m rw nx pv ls)(i v:Nat){z:Int}(hz:z=(v:Int)):RC (w.setCell ⟨nb,i*3+2,none⟩ (.int .i64 z)) b nb lb n m rw nx (upd pv i v) ls:=by
 subst hz;exact⟨h.hd.other h.d1 _,by rw[<-qt];exact h.nd.set _ _,h.ln.other (λe=>h.d3 e.symm) _,h.d1,h.d2,h.d3,h.hn,h.hm⟩
theorem BM(ls:Nat->Nat)(i v:Nat):upd (lnF ls) i (.int .i64 (v:Nat))=lnF (upd ls i v):=by
 funext j
 by_cases e:j=i
 .subst e;simp[upd_same,lnF]
 .rw[aa _ _ e];simp[lnF,aa _ _ e]
theorem RC.setLen(h:RC w b nb lb n m rw nx pv ls)(i v:Nat){z:Int}(hz:z=(v:Int)):RC (w.setCell ⟨lb,i,none⟩ (.int .i64 z)) b nb lb n m rw nx pv (upd ls i v):=by
 subst hz;exact⟨h.hd.other h.d2 _,h.nd.other h.d3 _,by rw[<-BM];exact h.ln.set _ _,h.d1,h.d2,h.d3,h.hn,h.hm⟩
theorem RC.alloc(h:RC w b nb lb n m rw nx pv ls)(o:Obj):RC (w.alloc o) b nb lb n m rw nx pv ls:=
 ⟨h.hd.alloc o,h.nd.alloc o,h.ln.alloc o,h.d1,h.d2,h.d3,h.hn,h.hm⟩
theorem RC.drew(h:RC w b nb lb n m rw nx pv ls):RC w.drew b nb lb n m rw nx pv ls:=
 ⟨h.hd.drew,h.nd.drew,h.ln.drew,h.d1,h.d2,h.d3,h.hn,h.hm⟩
theorem RC.fr(h:RC w b nb lb n m rw nx pv ls){F:Nat->Prop}(f:Fr F w w')(h1:¬F b)(h2:¬F nb)(h3:¬F lb):RC w' b nb lb n m rw nx pv ls:=
 ⟨h.hd.fr f h1,h.nd.fr f h2,h.ln.fr f h3,h.d1,h.d2,h.d3,h.hn,h.hm⟩
end
structure RR(w:World)(b n m:Nat)(L:List (List Nat))(F:Nat->Prop):Prop where
 ex:∃nb lb rw nx pv ls,RC w b nb lb n m rw nx pv ls/\RInv n m rw nx pv ls L/\∀i,F i↔i=b\/i=nb\/i=lb
theorem RR.fr{w w':World}{b n m:Nat}{L:List (List Nat)}{F G:Nat->Prop}(h:RR w b n m L F)(f:Fr G w w')(hd:∀i,F i->¬G i):RR w' b n m L F:=by
 obtain⟨nb,lb,rw,nx,pv,ls,hc,hi,hF⟩:=h.ex;exact⟨nb,lb,rw,nx,pv,ls,hc.fr f (hd b ((hF b).2 (.inl rfl))) (hd nb ((hF nb).2 (.inr (.inl rfl)))) (hd lb ((hF lb).2 (.inr (.inr rfl)))),hi,hF⟩
theorem RR.lt{w:World}{b n m:Nat}{L:List (List Nat)}{F:Nat->Prop}(h:RR w b n m L F):∀i,F i->i<w.heap.size:=by
 obtain⟨nb,lb,rw,nx,pv,ls,hc,hi,hF⟩:=h.ex;intro i hi;rcases(hF i).1 hi with rfl|rfl|rfl
 .exact hc.hd.lt
 .exact hc.nd.lt
 .exact hc.ln.lt
end
section
open Go.Proofs.Tryz Go.RowKit
def ixI(o:Option Nat):Int:=match o with|none=> -1|some k=>k
section
variable{w:World}{b nb lb n m:Nat}{rw nx pv ls:Nat->Nat}
theorem dx(h:RC w b nb lb n m rw nx pv ls){x:Int}(h0:0<=x)(hx:x<n):
  Calls prog 99 #[.pointer (some ⟨b,0,none⟩),.int .i64 x] w λe w'=>e=.returned (.bool true)/\w=w':=by
 have c0:=h.c0;go_enter func99,ntmps99;go_wp2
 go_ret
 exact⟨rfl,rfl⟩
theorem lO(h:RC w b nb lb n m rw nx pv ls){x:Int}(hx:x<0\/(n:Int)<=x):
  Calls prog 99 #[.pointer (some ⟨b,0,none⟩),.int .i64 x] w λe w'=>e=.returned (.bool false)/\w=w':=by
 have c0:=h.c0;by_cases h0:x<0
 .have hd:decide (0<=x)=false:=by simp;omega
  clear hx;go_enter func99,ntmps99;go_wp2
  go_ret
  exact⟨rfl,rfl⟩
 .have h1:0<=x:=by omega
  have h2:¬x<n:=by omega
  clear hx h0;go_enter func99,ntmps99;go_wp2
  go_ret
  exact⟨rfl,rfl⟩
theorem jt(h:RC w b nb lb n m rw nx pv ls){k:Int}(h0:0<=k)(hk:k<m):
  Calls prog 98 #[.pointer (some ⟨b,0,none⟩),.int .i64 k] w λe w'=>e=.returned (.bool true)/\w=w':=by
 have c2:=h.c2;have hm:=h.hm;go_enter func98,ntmps98;go_wp2
 go_ret
 exact⟨rfl,rfl⟩
theorem qv(h:RC w b nb lb n m rw nx pv ls){k:Int}(hk:k<0\/(m:Int)<=k):
  Calls prog 98 #[.pointer (some ⟨b,0,none⟩),.int .i64 k] w λe w'=>e=.returned (.bool false)/\w=w':=by
 have c2:=h.c2;have hm:=h.hm;by_cases h0:k<0
 .have hd:decide (0<=k)=false:=by simp;omega
  clear hk;go_enter func98,ntmps98;go_wp2
  go_ret
  exact⟨rfl,rfl⟩
 .have h1:0<=k:=by omega
  have h2:¬k<m:=by omega
  clear hk h0;go_enter func98,ntmps98;go_wp2
  go_ret
  exact⟨rfl,rfl⟩
theorem dp(h:RC w b nb lb n m rw nx pv ls){k:Int}(h0:0<=k)(hk:k<1000):
  Calls prog 73 #[.pointer (some ⟨b,0,none⟩),.int .i64 k] w λe w'=>e=.returned (.int .i64 (n+k))/\w=w':=by
 have c0:=h.c0;have hn:=h.hn;go_enter func73,ntmps73;go_wp2
 go_ret
 exact⟨rfl,rfl⟩
theorem qc(h:RC w b nb lb n m rw nx pv ls){x:Int}(h0:0<=x)(hx:x<n){r:Int}(hr:r=(rw x.toNat:Int))(hr1:r<1000):
  Calls prog 112 #[.pointer (some ⟨b,0,none⟩),.int .i64 x] w λe w'=>e=.returned (.int .i64 (r-1))/\w=w':=by
 obtain⟨x,rfl⟩:=Int.eq_ofNat_of_zero_le h0;have ht:=dx h h0 hx;have c1:=h.c1;have hn:=h.hn;have hm:=h.hm;have r0:0<=r:=by omega
 have c3:w.cell? ⟨nb,x*3,none⟩=some (.int .i64 r):=by
  rw[h.row (by omega),hr];simp
 clear hr;have HT:=Hd ht;clear ht;go_enter func112,ntmps112
 go_wp2_with(go_at_call 99;refine HT.out.mono ?_;rintro e w'⟨rfl,rfl⟩)
 go_ret
 exact⟨rfl,rfl⟩
theorem rL(h:RC w b nb lb n m rw nx pv ls){x:Int}(hx:x<0\/(n:Int)<=x):
  Calls prog 112 #[.pointer (some ⟨b,0,none⟩),.int .i64 x] w λe w'=>e=.returned (.int .i64 (-1))/\w=w':=by
 have HT:=Hd (lO h hx);clear hx;go_enter func112,ntmps112
 go_wp2_with(go_at_call 99;refine HT.out.mono ?_;rintro e w'⟨rfl,rfl⟩)
 go_ret
 exact⟨rfl,rfl⟩
theorem nE(h:RC w b nb lb n m rw nx pv ls){x:Nat}:
  Calls prog 175 #[.pointer (some ⟨b,0,none⟩),.int .i64 x] w λe w'=>e=.returned (.int .i64 (if x<n then(x:Int)else-1))/\w=w':=by
 by_cases hx:x<n
 .have HT:=Hd (dx h (x:=x) (by omega) (by omega))
  rw[if_pos hx];go_enter func175,ntmps175
  go_wp2_with(go_at_call 99;refine HT.out.mono ?_;rintro e w'⟨rfl,rfl⟩)
  go_ret
  exact⟨rfl,rfl⟩
 .have HT:=Hd (lO h (x:=x) (by omega))
  rw[if_neg hx];go_enter func175,ntmps175
  go_wp2_with(go_at_call 99;refine HT.out.mono ?_;rintro e w'⟨rfl,rfl⟩)
  go_ret
  exact⟨rfl,rfl⟩
theorem iX{L:List (List Nat)}(h:RC w b nb lb n m rw nx pv ls)(hi:RInv n m rw nx pv ls L)(x:Nat):
  Calls prog 112 #[.pointer (some ⟨b,0,none⟩),.int .i64 x] w λe w'=>e=.returned (.int .i64 (ixI (aG L x)))/\w=w':=by
 by_cases hx:x<n
 .cases e:aG L x with
  |none=>
   have h0:=hi.row_none hx e;exact(qc h (x:=x) (by omega) (by omega) (r:=0) (by simp[h0]) (by omega)).mono λe w' ⟨he,hw⟩=>⟨by rw[he];rfl,hw⟩
  |some k=>
   have h0:=hi.rowIx_row e;have hm:=h.hm;exact(qc h (x:=x) (by omega) (by omega) (r:=k+1) (by simp[h0.2.1]) (by omega)).mono λe w' ⟨he,hw⟩=>⟨by rw[he];simp[ixI],hw⟩
 .have e:aG L x=none:=by
   cases e:aG L x with
   |none=>rfl
   |some k=>exact(hx (hi.rowIx_row e).1).elim
  rw[e];exact rL h (by omega)
end
section
variable{w:World}{b nb lb n m:Nat}{rw nx pv ls:Nat->Nat}
theorem AR(x k q p l:Nat)(v1 v2:Int)(hbn:¬b=nb)(hbl:¬b=lb)(hnl:¬nb=lb)(hb:b<w.heap.size)(hnb:nb<w.heap.size)(hlb:lb<w.heap.size)
  (c0:w.cell? ⟨b,0,none⟩=some (.int .i64 n))(c1:w.cell? ⟨b,1,none⟩=some (.slice (some ⟨nb,0,none⟩) (n+m) (n+m)))(c2:w.cell? ⟨b,2,none⟩=some (.slice (some ⟨lb,0,none⟩) m m))
  (f1:∀i,w.frozen? ⟨nb,i,none⟩=false)(f2:∀i,w.frozen? ⟨lb,i,none⟩=false)(hn:n<=200000)(hm:m<=16)(hx:x<n)(hk:k<m)(hq:q<n+m)(hp:p<n+m)(hpx:¬p=x)(hqx:¬q=x)
  (r0:w.cell? ⟨nb,x*3,none⟩=some (.int .i64 (k+1)))(r1:w.cell? ⟨nb,x*3+1,none⟩=some (.int .i64 q))(r2:w.cell? ⟨nb,x*3+2,none⟩=some (.int .i64 p))
  (r3:w.cell? ⟨nb,p*3+1,none⟩=some (.int .i64 v1))(r4:w.cell? ⟨nb,q*3+2,none⟩=some (.int .i64 v2))(r5:w.cell? ⟨lb,k,none⟩=some (.int .i64 l))(hl:1<=l)(hl':l<1000000)
  (HI:Hid (Calls prog 112 #[.pointer (some ⟨b,0,none⟩),.int .i64 x] w λe w'=>e=.returned (.int .i64 k)/\w=w')):
  Calls prog 100 #[.pointer (some ⟨b,0,none⟩),.int .i64 x] w λe w'=>e=.returned (.bool true)/\
   w'=(((((((w.setCell ⟨nb,p*3+1,none⟩ (.int .i64 q)).setCell ⟨nb,q*3+2,none⟩ (.int .i64 p)).setCell ⟨nb,x*3,none⟩ (.int .i64 0)).setCell ⟨nb,x*3+1,none⟩ (.int .i64 0)).setCell
     ⟨nb,x*3+2,none⟩ (.int .i64 0)).setCell ⟨lb,k,none⟩ (.int .i64 (l-1))).alloc (.cells #[.int .i64 (k+1),.int .i64 q,.int .i64 p] 183)).drew.drew:=by
 go_enter func100,ntmps100
 go_wp2_with(go_at_call 112;refine HI.out.mono ?_;rintro e w'⟨rfl,rfl⟩)
 go_region
 go_wp2
 go_region
 go_wp2
 go_ret
 exact⟨rfl,rfl⟩
theorem yL{L:List (List Nat)}(h:RC w b nb lb n m rw nx pv ls)(hi:RInv n m rw nx pv ls L){x k:Nat}(e:aG L x=some k)(hn:n<=200000){F:Nat->Prop}(hF:∀i,i=nb\/i=lb->F i):
  Calls prog 100 #[.pointer (some ⟨b,0,none⟩),.int .i64 x] w λe w'=>e=.returned (.bool true)/\
   (∃rw' nx' pv' ls',RC w' b nb lb n m rw' nx' pv' ls'/\RInv n m rw' nx' pv' ls' (bO L x))/\Fr F w w':=by
 obtain⟨l1,l2,hl⟩:=hi.split e;obtain⟨b1,b2,b3,b4,b5,b6⟩:=hi.bounds hl;have hk:=hi.k_lt hl;have hlen:=hi.lsz k _ hl;have hnodup:=hi.nd k _ hl
 have hle:l1.length+l2.length+1<=n:=by
  have:=List.Nodup.length_le_of_subset (l₁:=l1++x::l2) (l₂:=List.range n) hnodup (λy hy=>List.mem_range.2 (hi.mem k _ hl y hy).1);simp at this;omega
 simp only[List.length_append,List.length_cons]at hlen;have HI:=iX h hi x;rw[e]at HI;have r0:=h.row (i:=x) (by omega);rw[b2]at r0;refine(AR x k (nx x) (pv x) (ls k) _ _ h.d1 h.d2 h.d3 h.hd.lt h.nd.lt h.ln.lt h.c0 h.c1 h.c2 h.nd.frozen h.ln.frozen h.hn h.hm b1 hk b4 b3 b5 b6 r0 (h.next (by omega)) (h.prev (by omega)) (h.next b3) (h.prev b4) (h.len hk) (by omega) (by omega) HI).mono ?_;rintro e w'⟨rfl,rfl⟩;refine⟨rfl,⟨_,_,_,_,((((((((h.setNext (pv x) (nx x) rfl).setPrev (nx x) (pv x) rfl).setRow x 0 rfl).setNext x 0 rfl).setPrev x 0 rfl).setLen k (ls k-1) (by omega)).alloc _).drew).drew,?_⟩,?_⟩
 .rw[hi.outL_eq hl]
  exact hi.take hl
 .have f1:F nb:=hF _ (.inl rfl)
  have f2:F lb:=hF _ (.inr rfl);exact((((((((Fr.refl F w).setCell (.inl f1) _).setCell (.inl f1) _).setCell (.inl f1) _).setCell (.inl f1) _).setCell (.inl f1) _).setCell (.inl f2) _).alloc _).drew.drew
theorem qo(x:Int)
  (HI:Hid (Calls prog 112 #[.pointer (some ⟨b,0,none⟩),.int .i64 x] w λe w'=>e=.returned (.int .i64 (-1))/\w=w')):
  Calls prog 100 #[.pointer (some ⟨b,0,none⟩),.int .i64 x] w λe w'=>e=.returned (.bool false)/\w=w':=by
 go_enter func100,ntmps100
 go_wp2_with(go_at_call 112;refine HI.out.mono ?_;rintro e w'⟨rfl,rfl⟩)
 go_ret
 exact⟨rfl,rfl⟩
end
section
variable{w:World}{b nb lb n m:Nat}{rw nx pv ls:Nat->Nat}
theorem tR(x t k p l:Nat)(v0 v1 v2 v3:Int)(hbn:¬b=nb)(hbl:¬b=lb)(hnl:¬nb=lb)(hb:b<w.heap.size)(hnb:nb<w.heap.size)(hlb:lb<w.heap.size)
  (c0:w.cell? ⟨b,0,none⟩=some (.int .i64 n))(c1:w.cell? ⟨b,1,none⟩=some (.slice (some ⟨nb,0,none⟩) (n+m) (n+m)))(c2:w.cell? ⟨b,2,none⟩=some (.slice (some ⟨lb,0,none⟩) m m))
  (f1:∀i,w.frozen? ⟨nb,i,none⟩=false)(f2:∀i,w.frozen? ⟨lb,i,none⟩=false)(hn:n<=200000)(hm:m<=16)(hx:x<n)(hk:k<m)(ht:t<n+m)(hp:p<n+m)(hpx:¬p=x)(htx:¬t=x)
  (r0:w.cell? ⟨nb,t*3,none⟩=some (.int .i64 (k+1)))(r1:w.cell? ⟨nb,t*3+2,none⟩=some (.int .i64 p))(r2:w.cell? ⟨nb,x*3,none⟩=some (.int .i64 v0))(r3:w.cell? ⟨nb,x*3+1,none⟩=some (.int .i64 v1))
  (r4:w.cell? ⟨nb,x*3+2,none⟩=some (.int .i64 v2))(r5:w.cell? ⟨nb,p*3+1,none⟩=some (.int .i64 v3))(r6:w.cell? ⟨lb,k,none⟩=some (.int .i64 l))(hl':l<1000000):
  Calls prog 101 #[.pointer (some ⟨b,0,none⟩),.int .i64 x,.int .i64 t] w λe w'=>e=.returned (.tuple #[])/\
   w'=((((((w.setCell ⟨nb,x*3,none⟩ (.int .i64 (k+1))).setCell ⟨nb,x*3+1,none⟩ (.int .i64 t)).setCell ⟨nb,x*3+2,none⟩ (.int .i64 p)).setCell ⟨nb,p*3+1,none⟩ (.int .i64 x)).setCell
     ⟨nb,t*3+2,none⟩ (.int .i64 x)).setCell ⟨lb,k,none⟩ (.int .i64 (l+1))).drew:=by
 go_enter func101,ntmps101;go_wp2
 go_region
 go_wp2
 go_end0
 exact⟨rfl,rfl⟩
theorem m6{L:List (List Nat)}(h:RC w b nb lb n m rw nx pv ls)(hi:RInv n m rw nx pv ls L){x k t:Nat}{l1 l2:List Nat}(hl:L[k]?=some (l1++l2))(hx:x<n)(hrx:rw x=0)(ht:t=l2.head?.getD (n+k))
  {F:Nat->Prop}(hF:∀i,i=nb\/i=lb->F i):
  Calls prog 101 #[.pointer (some ⟨b,0,none⟩),.int .i64 x,.int .i64 t] w λe w'=>e=.returned (.tuple #[])/\
   (∃rw' nx' pv' ls',RC w' b nb lb n m rw' nx' pv' ls'/\RInv n m rw' nx' pv' ls' (L.set k (l1++x::l2)))/\Fr F w w':=by
 have hk:=hi.k_lt hl;have hlen:=hi.lsz k _ hl;have hmem:=hi.mem k _ hl
 have hle:l1.length+l2.length<=n:=by
  have:=List.Nodup.length_le_of_subset (l₁:=l1++l2) (l₂:=List.range n) (hi.nd k _ hl) (λy hy=>List.mem_range.2 (hmem y hy).1);simp at this;omega
 simp only[List.length_append]at hlen;have hn:=h.hn;have hm:=h.hm
 have hp:pv t=l1.getLast?.getD (n+k):=by
  have hlk:=hi.lk k _ hl;rw[ht]
  cases l2 with
  |nil=>simp only[List.append_nil]at hlk;simpa using hlk.last
  |cons z l2=>simpa using(Lk.append.1 hlk).1.last
 have htc:(t=n+k/\l2=[])\/t∈l2:=ht▸fU;have hpc:(pv t=n+k/\l1=[])\/pv t∈l1:=hp▸dh
 have ht1:t<n+m/\¬t=x/\rw t=k+1:=by
  rcases htc with⟨e,_⟩|e
  .exact⟨by omega,by omega,by rw[e];exact hi.cl k hk⟩
  .have:=hmem t (by simp[e])
   exact⟨by omega,λq=>by rw[q]at this;omega,this.2⟩
 have hp1:pv t<n+m/\¬pv t=x:=by
  rcases hpc with⟨e,_⟩|e
  .exact⟨by omega,by omega⟩
  .have:=hmem (pv t) (by simp[e])
   exact⟨by omega,λq=>by rw[q]at this;omega⟩
 have r0:=h.row ht1.1;rw[ht1.2.2]at r0;have r1:=h.prev ht1.1;have r2:=h.row (i:=x) (by omega);have r3:=h.next (i:=x) (by omega);have r4:=h.prev (i:=x) (by omega);have r5:=h.next hp1.1;have r6:=h.len hk;have hl9:(ls k:Nat)<1000000:=by omega
 have HC:=tR x t k (pv t) (ls k) _ _ _ _ h.d1 h.d2 h.d3 h.hd.lt h.nd.lt h.ln.lt h.c0 h.c1 h.c2 h.nd.frozen h.ln.frozen h.hn h.hm hx hk ht1.1 hp1.1 hp1.2 ht1.2.1 r0 r1 r2 r3 r4 r5 r6 hl9;refine HC.mono ?_;rintro e w'⟨rfl,rfl⟩;refine⟨rfl,⟨_,_,_,_,((((((h.setRow x (k+1) rfl).setNext x t rfl).setPrev x (pv t) rfl).setNext (pv t) x rfl).setPrev t x rfl).setLen k (ls k+1) (by omega)).drew,?_⟩,?_⟩
 .exact hi.give hl hx hrx ht rfl
 .have f1:F nb:=hF _ (.inl rfl)
  have f2:F lb:=hF _ (.inr rfl);exact(((((((Fr.refl F w).setCell (.inl f1) _).setCell (.inl f1) _).setCell (.inl f1) _).setCell (.inl f1) _).setCell (.inl f1) _).setCell (.inl f2) _).drew
theorem nY{L:List (List Nat)}(h:RC w b nb lb n m rw nx pv ls)(hi:RInv n m rw nx pv ls L)(x:Nat){F:Nat->Prop}(hF:∀i,i=nb\/i=lb->F i):
  Calls prog 100 #[.pointer (some ⟨b,0,none⟩),.int .i64 x] w λe w'=>e=.returned (.bool (aG L x).isSome)/\
   (∃rw' nx' pv' ls',RC w' b nb lb n m rw' nx' pv' ls'/\RInv n m rw' nx' pv' ls' (bO L x))/\Fr F w w':=by
 cases e:aG L x with
 |none=>
  have HI:=iX h hi x;rw[e]at HI;refine(qo x HI).mono ?_;rintro e' w'⟨rfl,rfl⟩;exact⟨rfl,⟨rw,nx,pv,ls,h,by simpa[bO,e]using hi⟩,Fr.refl _ _⟩
 |some k=>exact yL h hi e h.hn hF
end
end
end Go.Proofs.YtoenclhimbpfeaaGreatDoor
