/- Part 27. -/
import Derived.Test.YtipopinjppjnfaaGreatDoorK25
namespace Go.Proofs.YtipopinjppjnfaaGreatDoor
set_option linter.all false
set_option maxHeartbeats 16000000
set_option maxRecDepth 100000
section
open Go.RowKit
structure PK(n m:Nat)(s:PrS):Prop where
 hl:∀j,j<3->s.hd j<s.L.length∨s.L=[]∧s.hd j=0
 uq:∀(i j:Nat) (x y:En),s.L[i]?=some x->s.L[j]?=some y->(x.pg=y.pg∨x.fr=y.fr∧0<=x.fr)->i=j
 el:∀x∈s.L,(-1<=x.fr∧x.fr<n)∧(1<=x.pg∧x.pg<4294967296)∧(x.fr<0->x.test=true∧x.ref=false)∧(x.hot=true->x.test=false)
 ng:s.gone<=m
 gl:1<=s.goal∧s.goal<=max (n-1) 1
 n1:1<=n
def PrS.K(s:PrS)(a:Int)(b:Nat):Prop:=∃x∈s.L,x.fr=a∧x.pg=b
structure PM(n:Nat)(s:PrS):Prop where
 pf:∀(a b:Nat),s.K a b->s.pg a=b
 p0:∀f,f<n->(∀b,¬s.K f b)->s.pg f=0∧s.on f=false
section
variable{n m:Nat}{s s':PrS}{i j:Nat}{x y:En}
theorem mem_get{l:List En}(h:l[i]?=some x):x∈l:=List.mem_of_getElem? h
theorem get_lt{l:List En}(h:l[i]?=some x):i<l.length:=(List.getElem?_eq_some_iff.1 h).1
theorem PK.lt(h:PK n m s)(hL:0<s.L.length){j:Nat}(hj:j<3):s.hd j<s.L.length:=by
 rcases h.hl j hj with q|⟨q,_⟩
 .exact q
 .rw[q]at hL;simp at hL
theorem PK.at(h:PK n m s)(hL:0<s.L.length){j:Nat}(hj:j<3):∃x,s.L[s.hd j]?=some x:=⟨_,List.getElem?_eq_getElem (h.lt hL hj)⟩
theorem hot_pos(h:¬s.hotN=0):0<s.L.length:=by
 unfold PrS.hotN at h;have:=List.countP_le_length (p:=fun e:En=>e.hot) (l:=s.L);omega
theorem gone_pos(h:¬s.gone=0):0<s.L.length:=by
 unfold PrS.gone at h;have:=List.countP_le_length (p:=fun e:En=>decide (e.fr<0)) (l:=s.L);omega
theorem PM.of(h:PM n s)(hp:s'.pg=s.pg)(ho:s'.on=s.on)(hk:∀(a b:Nat),s'.K a b↔s.K a b):PM n s':=
 ⟨fun a b k=>by rw[hp];exact h.pf a b ((hk a b).1 k),fun f hf k=>by rw[hp,ho];exact h.p0 f hf (fun b q=>k b ((hk f b).2 q))⟩
theorem PK.mv(h:PK n m s)(hL:0<s.L.length)(j:Nat):PK n m (s.mv j):=by
 refine⟨fun k hk=>.inl ?_,h.uq,h.el,h.ng,h.gl,h.n1⟩
 show upd s.hd j _ k<s.L.length
 by_cases e:k=j
 .subst e;rw[upd_same];exact Nat.mod_lt _ hL
 .rw[upd_other _ _ e];exact h.lt hL hk
theorem put_K(hx:s.L[i]?=some x)(e1:y.pg=x.pg)(e2:y.fr=x.fr)(a:Int)(b:Nat):(s.put i y).K a b↔s.K a b:=by
 have hi:=get_lt hx;constructor
 .rintro⟨z,hz,q1,q2⟩
  rcases set_mem hz with rfl|hz
  .exact⟨x,mem_get hx,by rw[<-e2];exact q1,by rw[<-e1];exact q2⟩
  .exact⟨z,hz,q1,q2⟩
 .rintro⟨z,hz,q1,q2⟩
  obtain⟨k,hk⟩:=List.getElem?_of_mem hz;by_cases e:i=k
  .subst e
   rw[hx]at hk;cases hk
   exact⟨y,List.mem_of_getElem? (i:=i) (by show(s.L.set i y)[i]?=_;rw[List.getElem?_set,if_pos rfl,if_pos hi]),by rw[e2];exact q1,by rw[e1];exact q2⟩
  .exact⟨z,List.mem_of_getElem? (i:=k) (by show(s.L.set i y)[k]?=_;rw[List.getElem?_set,if_neg e];exact hk),q1,q2⟩
theorem set_uq{l:List En}(h:∀(i j:Nat) (x y:En),l[i]?=some x->l[j]?=some y->(x.pg=y.pg∨x.fr=y.fr∧0<=x.fr)->i=j)(hx:l[i]?=some x)(e1:y.pg=x.pg)(e2:y.fr=x.fr∨y.fr<0):
  ∀(a b:Nat) (u v:En),(l.set i y)[a]?=some u->(l.set i y)[b]?=some v->(u.pg=v.pg∨u.fr=v.fr∧0<=u.fr)->a=b:=by
 intro a b u v hu hv q;have hi:=get_lt hx;rw[List.getElem?_set]at hu hv;by_cases ea:i=a
 .by_cases eb:i=b
  .omega
  .subst ea
   rw[if_pos rfl,if_pos hi]at hu;rw[if_neg eb]at hv
   cases hu
   refine h i b x v hx hv ?_;rcases q with q|⟨q,q'⟩
   .exact .inl (by rw[<-e1];exact q)
   .rcases e2 with e2|e2
    .exact .inr (by rw[<-e2];exact⟨q,q'⟩)
    .omega
 .by_cases eb:i=b
  .subst eb
   rw[if_neg ea]at hu;rw[if_pos rfl,if_pos hi]at hv
   cases hv
   refine h a i u x hu hx ?_;rcases q with q|⟨q,q'⟩
   .exact .inl (by rw[<-e1];exact q)
   .rcases e2 with e2|e2
    .exact .inr (by rw[<-e2];exact⟨q,q'⟩)
    .omega
  .rw[if_neg ea]at hu
   rw[if_neg eb]at hv;exact h a b u v hu hv q
theorem put_gone(hx:s.L[i]?=some x)(e2:y.fr=x.fr):(s.put i y).gone=s.gone:=by
 have:=countP_set (p:=fun e:En=>decide (e.fr<0)) (y:=y) hx;simp only[e2]at this;exact Nat.add_right_cancel this
theorem put_hot(hx:s.L[i]?=some x):(s.put i y).hotN+(if x.hot=true then 1 else 0)=s.hotN+(if y.hot=true then 1 else 0):=countP_set (p:=fun e:En=>e.hot) hx
theorem PK.put(h:PK n m s)(hx:s.L[i]?=some x)(e1:y.pg=x.pg)(e2:y.fr=x.fr)(e3:y.fr<0->y.test=true∧y.ref=false)(e4:y.hot=true->y.test=false):PK n m (s.put i y):=by
 refine⟨fun j hj=>.inl ?_,set_uq h.uq hx e1 (.inl e2),fun z hz=>?_,by rw[put_gone hx e2];exact h.ng,h.gl,h.n1⟩
 .show s.hd j<(s.L.set i y).length
  rw[List.length_set];exact h.lt (by have:=get_lt hx;omega) hj
 .rcases set_mem hz with rfl|hz
  .obtain⟨q1,q2,_,_⟩:=h.el x (mem_get hx)
   exact⟨by rw[e2];exact q1,by rw[e1];exact q2,e3,e4⟩
  .exact h.el z hz
theorem PM.put(h:PM n s)(hx:s.L[i]?=some x)(e1:y.pg=x.pg)(e2:y.fr=x.fr):PM n (s.put i y):=h.of rfl rfl (fun a b=>put_K hx e1 e2 a b)
theorem PK.less(h:PK n m s):PK n m s.less:=⟨h.hl,h.uq,h.el,h.ng,by have:=h.gl;show 1<=max (s.goal-1) 1∧max (s.goal-1) 1<=_;omega,h.n1⟩
theorem drop_len(hi:i<s.L.length):(s.drop i).L.length=s.L.length-1:=List.length_eraseIdx_of_lt hi
theorem PK.drop(h:PK n m s)(hx:s.L[i]?=some x):PK n m (s.drop i):=by
 have hi:=get_lt hx;refine⟨fun j hj=>?_,fun a b u v hu hv q=>?_,fun z hz=>h.el z (List.mem_of_mem_eraseIdx hz),?_,h.gl,h.n1⟩
 .have hd:=h.lt (by omega) hj
  have hl:=drop_len hi;by_cases e:s.L.length=1
  .right
   constructor
   .exact List.eq_nil_of_length_eq_zero (by omega)
   .show dropH i (s.L.length-1) (s.hd j)=0
    unfold dropH;rw[if_pos (by omega)]
  .left
   rw[hl]
   show dropH i (s.L.length-1) (s.hd j)<_
   unfold dropH
   (repeat' split)<;>omega
 .have hu:(s.L.eraseIdx i)[a]?=some u:=hu
  have hv:(s.L.eraseIdx i)[b]?=some v:=hv;rw[eraseIdx_get]at hu hv;by_cases ha:a<i<;>by_cases hb:b<i
  .rw[if_pos ha]at hu;rw[if_pos hb]at hv;exact h.uq a b u v hu hv q
  .rw[if_pos ha]at hu;rw[if_neg hb]at hv;have:=h.uq a (b+1) u v hu hv q;omega
  .rw[if_neg ha]at hu;rw[if_pos hb]at hv;have:=h.uq (a+1) b u v hu hv q;omega
  .rw[if_neg ha]at hu;rw[if_neg hb]at hv;have:=h.uq (a+1) (b+1) u v hu hv q;omega
 .have:=countP_erase (p:=fun e:En=>decide (e.fr<0)) hx
  have h2:=h.ng;unfold PrS.gone at h2⊢
  show(s.L.eraseIdx i).countP _<=m
  omega
theorem drop_gone(hx:s.L[i]?=some x):(s.drop i).gone+(if x.fr<0 then 1 else 0)=s.gone:=by
 have:=countP_erase (p:=fun e:En=>decide (e.fr<0)) hx;simp only[decide_eq_true_eq]at this;exact this
theorem drop_hot(hx:s.L[i]?=some x):(s.drop i).hotN+(if x.hot=true then 1 else 0)=s.hotN:=countP_erase (p:=fun e:En=>e.hot) hx
theorem drop_K(h:PK n m s)(hx:s.L[i]?=some x)(a b:Nat):(s.drop i).K a b↔s.K a b∧¬x.fr=a:=by
 constructor
 .rintro⟨z,hz,q1,q2⟩
  refine⟨⟨z,List.mem_of_mem_eraseIdx hz,q1,q2⟩,fun e=>?_⟩;obtain⟨k,hk⟩:=List.getElem?_of_mem hz;have hk:(s.L.eraseIdx i)[k]?=some z:=hk;rw[eraseIdx_get]at hk
  split at hk
  .have:=h.uq i k x z hx hk (.inr ⟨by rw[e,q1],by omega⟩);omega
  .have:=h.uq i (k+1) x z hx hk (.inr ⟨by rw[e,q1],by omega⟩);omega
 .rintro⟨⟨z,hz,q1,q2⟩,hne⟩
  obtain⟨k,hk⟩:=List.getElem?_of_mem hz;have hki:¬k=i:=by rintro rfl;rw[hx]at hk;cases hk;exact hne q1
  by_cases hlt:k<i
  .exact⟨z,List.mem_of_getElem? (i:=k) (by show(s.L.eraseIdx i)[k]?=_;rw[eraseIdx_get,if_pos hlt];exact hk),q1,q2⟩
  .exact⟨z,List.mem_of_getElem? (i:=k-1) (by show(s.L.eraseIdx i)[k-1]?=_;rw[eraseIdx_get,if_neg (by omega),show k-1+1=k from by omega];exact hk),q1,q2⟩
theorem PM.out(hm:PM n s)(h:PK n m s)(hx:s.L[i]?=some x)(hg:0<=x.fr):PM n ((s.empty x.fr.toNat).drop i):=by
 have hk:∀(a b:Nat),((s.empty x.fr.toNat).drop i).K a b↔s.K a b∧¬x.fr=a:=fun a b=>drop_K h hx a b
 have ex:((x.fr.toNat:Nat):Int)=x.fr:=by omega
 refine⟨fun a b k=>?_,fun f hf k=>?_⟩
 .obtain⟨k1,k2⟩:=(hk a b).1 k
  show upd s.pg x.fr.toNat 0 a=b
  rw[upd_other _ _ (by omega)];exact hm.pf a b k1
 .show upd s.pg x.fr.toNat 0 f=0∧upd s.on x.fr.toNat false f=false
  by_cases e:f=x.fr.toNat
  .subst e;exact⟨upd_same ..,upd_same ..⟩
  .rw[upd_other _ _ e,upd_other _ _ e]
   exact hm.p0 f hf (fun b q=>k b ((hk f b).2 ⟨q,by omega⟩))
theorem PK.empty(h:PK n m s)(f:Nat):PK n m (s.empty f):=⟨h.hl,h.uq,h.el,h.ng,h.gl,h.n1⟩
theorem lay_K(a:Int)(b:Nat):(s.lay x).K a b↔(x.fr=a∧x.pg=b)∨s.K a b:=by
 have hm:∀y,y∈(s.lay x).L↔y=x∨y∈s.L:=by
  intro y;unfold PrS.lay
  split
  .rename_i e;rw[e];simp
  .exact ins_mem
 unfold PrS.K;constructor
 .rintro⟨z,hz,q1,q2⟩
  rcases(hm z).1 hz with rfl|hz
  .exact .inl ⟨q1,q2⟩
  .exact .inr ⟨z,hz,q1,q2⟩
 .rintro(⟨q1,q2⟩|⟨z,hz,q1,q2⟩)
  .exact⟨x,(hm x).2 (.inl rfl),q1,q2⟩
  .exact⟨z,(hm z).2 (.inr hz),q1,q2⟩
theorem lay_gone:(s.lay x).gone=s.gone+(if x.fr<0 then 1 else 0):=by
 unfold PrS.lay PrS.gone
 split
 .rename_i e;rw[e];simp[List.countP_cons]
 .have:=countP_ins (p:=fun e:En=>decide (e.fr<0)) s.L (s.hd 0) x
  simp only[decide_eq_true_eq]at this;exact this
theorem lay_hot:(s.lay x).hotN=s.hotN+(if x.hot=true then 1 else 0):=by
 unfold PrS.lay PrS.hotN
 split
 .rename_i e;rw[e];simp[List.countP_cons]
 .exact countP_ins (p:=fun e:En=>e.hot) s.L (s.hd 0) x
theorem lay_len:(s.lay x).L.length=s.L.length+1:=by
 unfold PrS.lay
 split
 .rename_i e;rw[e];rfl
 .exact ins_len ..
theorem PK.lay(h:PK n m s)(hx:(-1<=x.fr∧x.fr<n)∧(1<=x.pg∧x.pg<4294967296)∧(x.fr<0->x.test=true∧x.ref=false)∧(x.hot=true->x.test=false))(hf:0<=x.fr)(hn:∀y∈s.L,¬y.pg=x.pg∧¬y.fr=x.fr):PK n m (s.lay x):=by
 refine⟨fun j hj=>.inl ?_,?_,?_,by rw[lay_gone,if_neg (by omega)];exact h.ng,?_,h.n1⟩
 .rw[lay_len]
  unfold PrS.lay
  split
  .show(0:Nat)<_;omega
  .rename_i e
   have:=h.lt (by cases hL:s.L with|nil=>exact(e hL).elim|cons a l=>simp) hj
   show(if s.hd 0<=s.hd j then s.hd j+1 else s.hd j)<_
   split<;>omega
 .by_cases e:s.L=[]
  .have eL:(s.lay x).L=[x]:=by unfold PrS.lay;rw[if_pos e]
   intro a b u v hu hv _;rw[eL]at hu hv;have:=get_lt hu;have:=get_lt hv;simp at*;omega
  .have eL:(s.lay x).L=insE s.L (s.hd 0) x:=by unfold PrS.lay;rw[if_neg e]
   have h0:=h.lt (by cases hL:s.L with|nil=>exact(e hL).elim|cons a l=>simp) (j:=0) (by omega);generalize s.hd 0=p at*
   have key:∀(a:Nat) (u:En),(insE s.L p x)[a]?=some u->(a=p∧u=x)∨(∃a',s.L[a']?=some u∧¬a=p∧a=if a'<p then a' else a'+1):=by
    intro a u hu;rw[ins_get _ (by omega)]at hu;by_cases ha:a<p
    .rw[if_pos ha]at hu;exact .inr ⟨a,hu,by omega,by rw[if_pos ha]⟩
    .rw[if_neg ha]at hu
     by_cases hb:a=p
     .rw[if_pos hb]at hu;cases hu;exact .inl ⟨hb,rfl⟩
     .rw[if_neg hb]at hu;exact .inr ⟨a-1,hu,hb,by rw[if_neg (by omega)];omega⟩
   intro a b u v hu hv q;rw[eL]at hu hv;rcases key a u hu with⟨ea,eu⟩|⟨a',ha,na,ea⟩
   .rcases key b v hv with⟨eb,ev⟩|⟨b',hb,nb,eb⟩
    .omega
    .subst eu
     have:=hn v (mem_get hb);rcases q with q|⟨q,_⟩
     .exact(this.1 q.symm).elim
     .exact(this.2 q.symm).elim
   .rcases key b v hv with⟨eb,ev⟩|⟨b',hb,nb,eb⟩
    .subst ev
     have:=hn u (mem_get ha);rcases q with q|⟨q,_⟩
     .exact(this.1 q).elim
     .exact(this.2 q).elim
    .have:=h.uq a' b' u v ha hb q
     subst this;omega
 .intro z hz
  have:z=x∨z∈s.L:=by
   unfold PrS.lay at hz
   split at hz
   .exact .inl (by simpa using hz)
   .exact ins_mem.1 hz
  rcases this with rfl|hz
  .exact hx
  .exact h.el z hz
 .show 1<=(s.lay x).goal∧(s.lay x).goal<=_
  have:(s.lay x).goal=s.goal:=by unfold PrS.lay;split<;>rfl
  rw[this];exact h.gl
theorem lay_pg:(s.lay x).pg=s.pg∧(s.lay x).on=s.on∧(s.lay x).goal=s.goal:=by unfold PrS.lay;split<;>exact⟨rfl,rfl,rfl⟩
theorem PK.again(h:PK n m s)(hx:s.L[i]?=some x)(e1:y.pg=x.pg)(e2:y.fr=x.fr)(hf:0<=x.fr)(e4:y.hot=true->y.test=false):PK n m ((s.drop i).lay y):=by
 obtain⟨q1,q2,_,_⟩:=h.el x (mem_get hx);refine(h.drop hx).lay ⟨by rw[e2];exact q1,by rw[e1];exact q2,fun q=>by omega,e4⟩ (by omega) (fun z hz=>?_);obtain⟨k,hk⟩:=List.getElem?_of_mem hz;have hk:(s.L.eraseIdx i)[k]?=some z:=hk;rw[eraseIdx_get]at hk;constructor
 .intro e
  split at hk
  .have:=h.uq i k x z hx hk (.inl (by rw[<-e1,e]));omega
  .have:=h.uq i (k+1) x z hx hk (.inl (by rw[<-e1,e]));omega
 .intro e
  split at hk
  .have:=h.uq i k x z hx hk (.inr ⟨by rw[<-e2,e],hf⟩);omega
  .have:=h.uq i (k+1) x z hx hk (.inr ⟨by rw[<-e2,e],hf⟩);omega
end
def PrS.rot(s:PrS)(j:Nat):List En:=s.L.drop (s.hd j)++s.L.take (s.hd j)
structure Kept(s s':PrS):Prop where
 pg:s'.pg=s.pg
 on:s'.on=s.on
 gn:s'.gone<=s.gone
 K:∀(a b:Nat),s'.K a b↔s.K a b
theorem Kept.refl(s:PrS):Kept s s:=⟨rfl,rfl,Nat.le_refl _,fun _ _=>Iff.rfl⟩
theorem Kept.trans{a b c:PrS}(h:Kept a b)(k:Kept b c):Kept a c:=⟨k.pg.trans h.pg,k.on.trans h.on,Nat.le_trans k.gn h.gn,fun x y=>(k.K x y).trans (h.K x y)⟩
theorem PM.kept{n:Nat}{s s':PrS}(h:PM n s)(k:Kept s s'):PM n s':=h.of k.pg k.on k.K
section
variable{n m:Nat}{s s' fin:PrS}{i j:Nat}{x y:En}
theorem rot_cons(hx:s.L[s.hd j]?=some x):s.rot j=x::(s.L.drop (s.hd j+1)++s.L.take (s.hd j)):=by
 unfold PrS.rot;have:=get_lt hx;rw[List.drop_eq_getElem_cons this];rw[List.getElem?_eq_getElem this]at hx;simp only[Option.some.injEq]at hx;rw[hx];rfl
theorem rot_put_mv(hi:s.hd j<s.L.length)(y:En):((s.put (s.hd j) y).mv j).rot j=s.L.drop (s.hd j+1)++s.L.take (s.hd j)++[y]:=by
 unfold PrS.rot PrS.put PrS.mv;simp only[upd_same,List.length_set];generalize s.hd j=h at*
 have tk:(s.L.set h y).take (h+1)=s.L.take h++[y]:=by
  apply List.ext_getElem?;intro k;rw[List.getElem?_take,List.getElem?_set];have hl:(s.L.take h).length=h:=by rw[List.length_take];omega
  by_cases e:k<h
  .rw[if_pos (by omega),if_neg (by omega),List.getElem?_append_left (by omega),List.getElem?_take,if_pos e]
  .by_cases e2:k=h
   .subst e2;rw[if_pos (by omega),if_pos rfl,if_pos hi,List.getElem?_append_right (by omega),hl];simp
   .rw[if_neg (by omega),List.getElem?_append_right (by omega),hl,List.getElem?_eq_none (by simp;omega)]
 by_cases e:h+1<s.L.length
 .rw[Nat.mod_eq_of_lt e,tk,List.drop_set_of_lt (by omega),List.append_assoc]
 .have:h+1=s.L.length:=by omega
  rw[this,Nat.mod_self,List.drop_zero,List.take_zero,List.append_nil,List.drop_length,List.nil_append,<-tk,this,List.take_of_length_le (by simp)]
theorem rot_mv(hx:s.L[s.hd j]?=some x):(s.mv j).rot j=s.L.drop (s.hd j+1)++s.L.take (s.hd j)++[x]:=by
 have h:=rot_put_mv (j:=j) (get_lt hx) x
 have e:s.L.set (s.hd j) x=s.L:=by
  apply List.ext_getElem?;intro k;rw[List.getElem?_set];by_cases q:s.hd j=k
  .rw[<-q,if_pos rfl,if_pos (get_lt hx),hx]
  .rw[if_neg q]
 have e2:s.put (s.hd j) x=s:=by unfold PrS.put;rw[e]
 rw[e2]at h;exact h
theorem rot_drop(hi:s.hd j<s.L.length):(s.drop (s.hd j)).rot j=s.L.drop (s.hd j+1)++s.L.take (s.hd j):=by
 unfold PrS.rot PrS.drop dropH;simp only[Nat.lt_irrefl,if_false];generalize s.hd j=h at*;rw[List.eraseIdx_eq_take_drop_succ];have hl:(s.L.take h).length=h:=by rw[List.length_take];omega
 by_cases e:s.L.length-1<=h
 .rw[if_pos e,List.drop_zero,List.take_zero,List.append_nil,List.drop_eq_nil_of_le (by omega),List.append_nil,List.nil_append]
 .rw[if_neg e,List.drop_append_of_le_length (by omega),List.drop_eq_nil_of_le (by omega),List.nil_append,List.take_append_of_le_length (by omega),List.take_of_length_le (by omega)]
theorem rot_count(p:En->Bool):(s.rot j).countP p=s.L.countP p:=by
 unfold PrS.rot;rw[List.countP_append,Nat.add_comm,<-List.countP_append,List.take_append_drop]
theorem ends_kept(h:PK n m s)(hx:s.L[i]?=some x):PK n m (s.ends i x)∧Kept s (s.ends i x):=by
 obtain⟨q1,q2,q3,q4⟩:=h.el x (mem_get hx);unfold PrS.ends;by_cases hg:x.fr<0
 .rw[if_pos hg]
  have hx':s.less.L[i]?=some x:=hx;exact⟨h.less.drop hx',rfl,rfl,by have:=drop_gone hx';have e:s.less.gone=s.gone:=rfl;omega,fun a b=>by rw[drop_K h.less hx'];exact⟨fun q=>q.1,fun q=>⟨q,by omega⟩⟩⟩
 .rw[if_neg hg]
  have hx':s.less.L[i]?=some x:=hx;exact⟨h.less.put (y:={x with test:=false}) hx' rfl rfl (fun q=>(hg q).elim) (fun _=>rfl),rfl,rfl,Nat.le_of_eq (put_gone (s:=s.less) (y:={x with test:=false}) hx' rfl),fun a b=>put_K (y:={x with test:=false}) hx' rfl rfl a b⟩
theorem ends_hot(hx:s.L[i]?=some x)(hc:x.hot=false):(s.ends i x).hotN=s.hotN:=by
 have hx':s.less.L[i]?=some x:=hx;unfold PrS.ends
 split
 .have h1:=drop_hot hx'
  rw[hc]at h1;have h2:s.less.hotN=s.hotN:=rfl;simp at h1;omega
 .have h1:=put_hot (y:={x with test:=false}) hx'
  have h2:s.less.hotN=s.hotN:=rfl;have h3:({x with test:=false}:En).hot=x.hot:=rfl;rw[h3]at h1;omega
theorem hotStep_kept(h:PK n m s)(hx:s.L[s.hd 0]?=some x):PK n m (hotStep s x).1∧Kept s (hotStep s x).1∧(hotStep s x).1.hotN+(if(hotStep s x).2=true then 1 else 0)=s.hotN:=by
 obtain⟨q1,q2,q3,q4⟩:=h.el x (mem_get hx);have hi:=get_lt hx;unfold hotStep;by_cases hh:x.hot=true
 .rw[if_pos hh]
  have hnf:¬x.fr<0:=fun q=>by have:=(q3 q).1;rw[q4 hh]at this;cases this
  by_cases hr:x.ref=true
  .rw[if_pos hr]
   refine⟨(h.put (y:={x with ref:=false}) hx rfl rfl (fun q=>(hnf q).elim) q4).mv (by show 0<(s.L.set _ _).length;rw[List.length_set];omega) 0,⟨rfl,rfl,Nat.le_of_eq (put_gone (y:={x with ref:=false}) hx rfl),fun a b=>put_K (y:={x with ref:=false}) hx rfl rfl a b⟩,?_⟩;have h1:=put_hot (y:={x with ref:=false}) hx;have h2:((s.put (s.hd 0) {x with ref:=false}).mv 0).hotN=(s.put (s.hd 0) {x with ref:=false}).hotN:=rfl;have h3:({x with ref:=false}:En).hot=x.hot:=rfl;rw[h3]at h1;simp only[h2,Bool.false_eq_true,if_false];omega
  .rw[if_neg hr]
   refine⟨(h.put (y:={x with hot:=false}) hx rfl rfl (fun q=>(hnf q).elim) (fun q=>(by cases q))).mv (by show 0<(s.L.set _ _).length;rw[List.length_set];omega) 0,⟨rfl,rfl,Nat.le_of_eq (put_gone (y:={x with hot:=false}) hx rfl),fun a b=>put_K (y:={x with hot:=false}) hx rfl rfl a b⟩,?_⟩;have h1:=put_hot (y:={x with hot:=false}) hx;have h2:((s.put (s.hd 0) {x with hot:=false}).mv 0).hotN=(s.put (s.hd 0) {x with hot:=false}).hotN:=rfl;have h3:({x with hot:=false}:En).hot=false:=rfl;rw[h3,hh]at h1;simp only[Bool.false_eq_true,if_false,if_true]at h1;simp only[h2,if_true];omega
 .rw[if_neg hh]
  have hc:x.hot=false:=by simpa using hh
  by_cases ht:x.test=true
  .rw[if_pos ht]
   obtain⟨k1,k2⟩:=ends_kept h hx;have k3:=ends_hot hx hc;by_cases hg:x.fr<0
   .rw[if_pos hg];exact⟨k1,k2,by simpa using k3⟩
   .rw[if_neg hg]
    have hlen:0<(s.ends (s.hd 0) x).L.length:=by unfold PrS.ends;rw[if_neg hg];show 0<(s.L.set _ _).length;rw[List.length_set];omega
    exact⟨k1.mv hlen 0,⟨k2.pg,k2.on,k2.gn,k2.K⟩,by simp only[Bool.false_eq_true,if_false];exact k3⟩
  .rw[if_neg ht]
   exact⟨h.mv (by omega) 0,⟨rfl,rfl,Nat.le_refl _,fun _ _=>Iff.rfl⟩,by simp;rfl⟩
theorem workO_kept:∀{k:Nat} {s fin:PrS},PK n m s->workO k s=some fin->PK n m fin∧Kept s fin∧fin.hotN=s.hotN-1
 |0,s,fin,_,e=>by cases e
 |k+1,s,fin,h,e=>by
  unfold workO at e;by_cases h0:s.hotN=0
  .rw[if_pos h0]at e;cases e;exact⟨h,Kept.refl _,by omega⟩
  .rw[if_neg h0]at e
   obtain⟨x,hx⟩:=h.at (hot_pos h0) (j:=0) (by omega);obtain⟨k1,k2,k3⟩:=hotStep_kept h hx;rw[hx]at e;simp only at e;by_cases hd:(hotStep s x).2=true
   .rw[if_pos hd]at e k3;cases e;exact⟨k1,k2,by omega⟩
   .rw[if_neg hd]at e k3
    obtain⟨j1,j2,j3⟩:=workO_kept (k:=k) k1 e;exact⟨j1,k2.trans j2,by omega⟩
theorem first_of{p:En->Bool}:∀{l:List En},(∃x∈l,p x=true)->∃A x B,l=A++x::B∧(∀a∈A,p a=false)∧p x=true
 |[],⟨_,h,_⟩=>by cases h
 |a::l,⟨x,h,q⟩=>by
  by_cases ha:p a=true
  .exact⟨[],a,l,rfl,fun _ q=>(by cases q),ha⟩
  .have:∃x∈l,p x=true:=by
    rcases List.mem_cons.1 h with rfl|h
    .exact(ha q).elim
    .exact⟨x,h,q⟩
   obtain⟨A,y,B,e,q1,q2⟩:=first_of this;refine⟨a::A,y,B,by rw[e];rfl,fun b hb=>?_,q2⟩;rcases List.mem_cons.1 hb with rfl|hb
   .simpa using ha
   .exact q1 b hb
def hr(e:En):Bool:=e.hot&&e.ref
theorem hot_of_mem(hx:x∈s.rot 0)(hh:x.hot=true):¬s.hotN=0:=by
 intro e;have:(s.rot 0).countP (fun e=>e.hot)=0:=by rw[rot_count];exact e
 have:=List.countP_eq_zero.1 this x hx;exact this hh
theorem work_ends:∀(c:Nat) (A:List En) {s:PrS} {x:En} {B:List En},PK n m s->s.rot 0=A++x::B->(∀a∈A,a.hot=false)->x.hot=true->(s.rot 0).countP hr=c->∃k fin,workO k s=some fin:=by
 intro c
 induction c using Nat.strongRecOn with
 |_ c ih=>
  intro A
  induction A with
  |nil=>
   intro s x B h hr1 hA hh hc;have h0:=hot_of_mem (s:=s) (x:=x) (by rw[hr1];simp) hh;obtain⟨x',hx⟩:=h.at (hot_pos h0) (j:=0) (by omega);have e:=rot_cons hx;rw[hr1]at e;simp only[List.nil_append,List.cons.injEq]at e;obtain⟨rfl,eB⟩:=e;by_cases hrf:x.ref=true
   .have hs:hotStep s x=((s.put (s.hd 0) {x with ref:=false}).mv 0,false):=by unfold hotStep;rw[if_pos hh,if_pos hrf]
    have hk:=(hotStep_kept h hx).1;rw[hs]at hk;have e2:=rot_put_mv (j:=0) (get_lt hx) {x with ref:=false};rw[<-eB]at e2;obtain⟨A',x',B',q1,q2,q3⟩:=first_of (p:=fun e:En=>e.hot) (l:=B++[{x with ref:=false}]) ⟨{x with ref:=false},List.mem_append.2 (.inr (List.mem_singleton.2 rfl)),hh⟩
    have hc2:(B++[{x with ref:=false}]).countP hr<c:=by
     rw[<-hc,hr1];simp[List.countP_append,List.countP_cons,hr,hh,hrf]
    obtain⟨k,fin,hk2⟩:=ih _ hc2 A' (s:=(s.put (s.hd 0) {x with ref:=false}).mv 0) (x:=x') (B:=B') hk (by rw[e2];exact q1) q2 q3 (by rw[e2]);refine⟨k+1,fin,?_⟩;rw[workO,if_neg h0,hx];simp only[hs];exact hk2
   .refine⟨1,(s.put (s.hd 0) {x with hot:=false}).mv 0,?_⟩
    have hs:hotStep s x=((s.put (s.hd 0) {x with hot:=false}).mv 0,true):=by unfold hotStep;rw[if_pos hh,if_neg hrf]
    rw[workO,if_neg h0,hx];simp only[hs,if_true]
  |cons a A ihA=>
   intro s x B h hr1 hA hh hc;have h0:=hot_of_mem (s:=s) (x:=x) (by rw[hr1];simp) hh;obtain⟨a',hx⟩:=h.at (hot_pos h0) (j:=0) (by omega);have e:=rot_cons hx;rw[hr1]at e;simp only[List.cons_append,List.cons.injEq]at e;obtain⟨rfl,eB⟩:=e;have hna:a.hot=false:=hA a (List.mem_cons_self ..);have hk:=(hotStep_kept h hx).1;have hra:hr a=false:=by simp[hr,hna]
   have step:∀(t:PrS) (T:List En),hotStep s a=(t,false)->t.rot 0=A++x::(B++T)->T.countP hr=0->∃k fin,workO k s=some fin:=by
    intro t T hs ht hT;rw[hs]at hk
    have hc2:(t.rot 0).countP hr=c:=by
     rw[<-hc,hr1,ht];simp[List.countP_append,List.countP_cons,hra,hT]
    obtain⟨k,fin,hk2⟩:=ihA (s:=t) (x:=x) (B:=B++T) hk ht (fun b hb=>hA b (List.mem_cons_of_mem _ hb)) hh hc2;refine⟨k+1,fin,?_⟩;rw[workO,if_neg h0,hx];simp only[hs];exact hk2
   by_cases ht:a.test=true
   .by_cases hg:a.fr<0
    .refine step (s.less.drop (s.hd 0)) [] ?_ ?_ rfl
     .unfold hotStep PrS.ends;simp only[hna,ht,hg,if_true,if_false,Bool.false_eq_true]
     .have:=rot_drop (s:=s.less) (j:=0) (get_lt hx)
      rw[List.append_nil,eB];exact this
    .refine step ((s.less.put (s.hd 0) {a with test:=false}).mv 0) [{a with test:=false}] ?_ ?_ (by simp[hr,hna])
     .unfold hotStep PrS.ends;simp only[hna,ht,hg,if_true,if_false,Bool.false_eq_true]
     .have:=rot_put_mv (s:=s.less) (j:=0) (get_lt hx) {a with test:=false}
      rw[show A++x::(B++[{a with test:=false}])=(A++x::B)++[{a with test:=false}]from by simp,eB];exact this
   .refine step (s.mv 0) [a] ?_ ?_ (by simp[hr,hna])
    .unfold hotStep;simp only[hna,ht,if_true,if_false,Bool.false_eq_true]
    .have:=rot_mv (s:=s) (j:=0) hx
     rw[show A++x::(B++[a])=(A++x::B)++[a]from by simp,eB];exact this
theorem work_some(h:PK n m s)(h0:¬s.hotN=0):∃k,workO k s=some s.work:=by
 have:∃x∈s.rot 0,x.hot=true:=by
  have h1:¬(s.rot 0).countP (fun e=>e.hot)=0:=by rw[rot_count];exact h0
  rw[List.countP_eq_zero]at h1;exact Classical.byContradiction fun q=>h1 (fun a ha hh=>q ⟨a,ha,hh⟩)
 obtain⟨A,x,B,e,q1,q2⟩:=first_of (p:=fun e:En=>e.hot) this;obtain⟨k,fin,hk⟩:=work_ends _ A h e q1 q2 rfl;have hex:∃p:Nat×PrS,workO p.1 s=some p.2:=⟨(k,fin),hk⟩;refine⟨hex.choose.1,?_⟩;have:s.work=hex.choose.2:=by unfold PrS.work;rw[dif_pos hex]
 rw[this];exact hex.choose_spec
theorem coolO_ok:∀{k:Nat} {s:PrS},PK n m s->s.hotN<k->∃fin,coolO n k s=some fin∧PK n m fin∧Kept s fin
 |0,s,_,hk=>by omega
 |k+1,s,h,hk=>by
  unfold coolO;by_cases hc:s.hotN<=n-s.goal
  .exact⟨s,by rw[if_pos hc],h,Kept.refl _⟩
  .rw[if_neg hc]
   obtain⟨j,hj⟩:=work_some h (by omega);obtain⟨j1,j2,j3⟩:=workO_kept h hj;obtain⟨fin,q1,q2,q3⟩:=coolO_ok (k:=k) j1 (by omega);exact⟨fin,q1,q2,j2.trans q3⟩
theorem cool_ok(h:PK n m s):coolO n (s.hotN+1) s=some (s.cool n)∧PK n m (s.cool n)∧Kept s (s.cool n):=by
 obtain⟨fin,q1,q2,q3⟩:=coolO_ok (n:=n) h (Nat.lt_succ_self s.hotN);have:s.cool n=fin:=by unfold PrS.cool;rw[q1];rfl
 rw[this];exact⟨q1,q2,q3⟩
theorem testStep_kept(h:PK n m s)(hx:s.L[s.hd 2]?=some x):PK n m (testStep s x)∧Kept s (testStep s x):=by
 have hi:=get_lt hx;obtain⟨k1,k2⟩:=ends_kept h hx;unfold testStep;by_cases ht:x.test=true
 .rw[if_pos ht]
  by_cases hg:x.fr<0
  .rw[if_pos hg];exact⟨k1,k2⟩
  .rw[if_neg hg]
   have hlen:0<(s.ends (s.hd 2) x).L.length:=by unfold PrS.ends;rw[if_neg hg];show 0<(s.L.set _ _).length;rw[List.length_set];omega
   exact⟨k1.mv hlen 2,⟨k2.pg,k2.on,k2.gn,k2.K⟩⟩
 .rw[if_neg ht];exact⟨h.mv (by omega) 2,⟨rfl,rfl,Nat.le_refl _,fun _ _=>Iff.rfl⟩⟩
theorem PK.le{m':Nat}(h:PK n m s)(hm:s.gone<=m'):PK n m' s:=⟨h.hl,h.uq,h.el,hm,h.gl,h.n1⟩
theorem test_ends:∀(A:List En) {s:PrS} {x:En} {B:List En},PK n (n+1) s->s.rot 2=A++x::B->(∀a∈A,¬a.fr<0)->x.fr<0->∃k fin,testO n k s=some fin∧PK n n fin∧Kept s fin:=by
 intro A
 induction A with
 |nil=>
  intro s x B h hr1 hA hg;by_cases h1:s.gone<=n
  .exact⟨1,s,by rw[testO,if_pos h1],h.le h1,Kept.refl _⟩
  .obtain⟨x',hx⟩:=h.at (gone_pos (by omega)) (j:=2) (by omega)
   have e:=rot_cons hx;rw[hr1]at e;simp only[List.nil_append,List.cons.injEq]at e;obtain⟨rfl,eB⟩:=e;obtain⟨k1,k2⟩:=testStep_kept h hx;have hd:testStep s x=s.less.drop (s.hd 2):=by unfold testStep PrS.ends;rw[if_pos ((h.el x (mem_get hx)).2.2.1 hg).1,if_pos hg,if_pos hg]
   have hgn:(testStep s x).gone<=n:=by
    have h2:=drop_gone (s:=s.less) (i:=s.hd 2) (x:=x) hx;rw[if_pos hg]at h2;have h3:s.less.gone=s.gone:=rfl;have h4:=h.ng;rw[hd];omega
   refine⟨2,testStep s x,?_,k1.le hgn,k2⟩;rw[testO,if_neg h1,hx];simp only;rw[testO,if_pos hgn]
 |cons a A ih=>
  intro s x B h hr1 hA hg;by_cases h1:s.gone<=n
  .exact⟨1,s,by rw[testO,if_pos h1],h.le h1,Kept.refl _⟩
  .obtain⟨a',hx⟩:=h.at (gone_pos (by omega)) (j:=2) (by omega)
   have e:=rot_cons hx;rw[hr1]at e;simp only[List.cons_append,List.cons.injEq]at e;obtain⟨rfl,eB⟩:=e;have hna:¬a.fr<0:=hA a (List.mem_cons_self ..);obtain⟨k1,k2⟩:=testStep_kept h hx
   have hrot:∃T,(testStep s a).rot 2=A++x::(B++T):=by
    unfold testStep PrS.ends;rw[if_neg hna,if_neg hna];by_cases ht:a.test=true
    .rw[if_pos ht]
     have:=rot_put_mv (s:=s.less) (j:=2) (get_lt hx) {a with test:=false};exact⟨[{a with test:=false}],by rw[show A++x::(B++[{a with test:=false}])=(A++x::B)++[{a with test:=false}]from by simp,eB];exact this⟩
    .rw[if_neg ht]
     have:=rot_mv (s:=s) (j:=2) hx;exact⟨[a],by rw[show A++x::(B++[a])=(A++x::B)++[a]from by simp,eB];exact this⟩
   obtain⟨T,hT⟩:=hrot;obtain⟨k,fin,q1,q2,q3⟩:=ih k1 hT (fun b hb=>hA b (List.mem_cons_of_mem _ hb)) hg;refine⟨k+1,fin,?_,q2,k2.trans q3⟩;rw[testO,if_neg h1,hx];exact q1
theorem testO_one:∀{k k':Nat} {s fin fin':PrS},testO n k s=some fin->testO n k' s=some fin'->fin=fin'
 |0,_,s,_,_,e,_=>by cases e
 |_+1,0,s,_,_,_,e=>by cases e
 |k+1,k'+1,s,fin,fin',e,e'=>by
  unfold testO at e e';by_cases h0:s.gone<=n
  .rw[if_pos h0]at e e';cases e;cases e';rfl
  .rw[if_neg h0]at e e'
   cases hx:s.L[s.hd 2]? with
   |none=>rw[hx]at e;cases e
   |some x=>
    rw[hx]at e e';exact testO_one (k:=k) (k':=k') e e'
theorem tests_ok(h:PK n (n+1) s):(∃k,testO n k s=some (s.tests n))∧PK n n (s.tests n)∧Kept s (s.tests n):=by
 have hex:∃k fin,testO n k s=some fin∧PK n n fin∧Kept s fin:=by
  by_cases h1:s.gone<=n
  .exact⟨1,s,by rw[testO,if_pos h1],h.le h1,Kept.refl _⟩
  .have:∃x∈s.rot 2,decide (x.fr<0)=true:=by
    have h1:¬(s.rot 2).countP (fun e=>decide (e.fr<0))=0:=by rw[rot_count];unfold PrS.gone at h1;omega
    rw[List.countP_eq_zero]at h1;exact Classical.byContradiction fun q=>h1 (fun a ha hh=>q ⟨a,ha,hh⟩)
   obtain⟨A,x,B,e,q1,q2⟩:=first_of (p:=fun e:En=>decide (e.fr<0)) this;exact test_ends A h e (fun a ha=>by have:=q1 a ha;simpa using this) (by simpa using q2)
 obtain⟨k,fin,q1,q2,q3⟩:=hex;have hx2:∃p:Nat×PrS,testO n p.1 s=some p.2:=⟨(k,fin),q1⟩;have:s.tests n=hx2.choose.2:=by unfold PrS.tests;rw[dif_pos hx2]
 have e2:s.tests n=fin:=by rw[this];exact testO_one hx2.choose_spec q1
 rw[e2];exact⟨⟨k,q1⟩,q2,q3⟩
end
end
end Go.Proofs.YtipopinjppjnfaaGreatDoor
