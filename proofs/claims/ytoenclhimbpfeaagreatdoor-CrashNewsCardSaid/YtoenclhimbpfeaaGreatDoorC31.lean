/- Part 31. -/
import Derived.Test.YtoenclhimbpfeaaGreatDoorC30
namespace Go.Proofs.YtoenclhimbpfeaaGreatDoor
set_option linter.all false
set_option maxHeartbeats 16000000
set_option maxRecDepth 100000
section
open Go.RowKit
theorem split_at{l:List Nat}{i x:Nat}(h:l[i]?=some x):l=l.take i++x::l.drop (i+1):=by
 have hi:i<l.length:=(List.getElem?_eq_some_iff.1 h).1;have e:l[i]=x:=by rw[List.getElem?_eq_getElem hi]at h;simpa using h
 have:=List.take_append_drop i l;rw[List.drop_eq_getElem_cons hi,e]at this;exact this.symm
theorem not_before{l:List Nat}{i x:Nat}(hn:l.Nodup)(h:l[i]?=some x):(¬x∈l.take i)∧¬x∈l.drop (i+1):=by
 rw[split_at h,List.nodup_append]at hn;exact⟨fun q=>hn.2.2 x q x (List.mem_cons_self ..) rfl,(List.nodup_cons.1 hn.2.1).1⟩
theorem awayN_erase{l:List Nat}{i x:Nat}(hn:l.Nodup)(h:l[i]?=some x):awayN l x=l.eraseIdx i:=by
 obtain⟨q1,q2⟩:=not_before hn h;rw[List.eraseIdx_eq_take_drop_succ];have e:=split_at h
 have:awayN (l.take i++x::l.drop (i+1)) x=l.take i++l.drop (i+1):=by
  have a1:=awayN_not q1;have a2:=awayN_not q2;unfold awayN at*;rw[List.filter_append,List.filter_cons,a1,a2];simp
 rw[<-e]at this;exact this
theorem insL_at{l:List Nat}{i x o:Nat}(hn:l.Nodup)(h:l[i]?=some o):insL l x o=l.take i++x::l.drop i:=by
 have e:=split_at h;have hi:i<l.length:=(List.getElem?_eq_some_iff.1 h).1;have q:=(not_before hn h).1;have h1:insL (l.take i++o::l.drop (i+1)) x o=l.take i++x::o::l.drop (i+1):=insL_eq q;rw[<-e]at h1;rw[h1];have e2:l[i]=o:=by rw[List.getElem?_eq_getElem hi]at h;simpa using h
 rw[List.drop_eq_getElem_cons hi,e2]
theorem idx_at{l:List Nat}{i x:Nat}(hn:l.Nodup)(h:l[i]?=some x):l.idxOf x=i:=by
 have hi:i<l.length:=(List.getElem?_eq_some_iff.1 h).1;have e:=split_at h;have q:=(not_before hn h).1;have:(l.take i++x::l.drop (i+1)).idxOf x=(l.take i).length:=idxOf_mid q;rw[<-e,List.length_take]at this;omega
theorem nd_inj{l:List Nat}{i j x:Nat}(hn:l.Nodup)(h:l[i]?=some x)(k:l[j]?=some x):i=j:=by
 rw[<-idx_at hn h,<-idx_at hn k]
theorem nxt_at{l:List Nat}{i x:Nat}(hn:l.Nodup)(h:l[i]?=some x):l[(i+1)%l.length]?=some (nxt l x):=by
 have hi:i<l.length:=(List.getElem?_eq_some_iff.1 h).1;unfold nxt;rw[idx_at hn h];by_cases e:i+1<l.length
 .rw[Nat.mod_eq_of_lt e,List.getElem?_eq_getElem e]
 .have:i+1=l.length:=by omega
  rw[this,Nat.mod_self,List.getElem?_eq_none (Nat.le_refl _)]
  cases l with
  |nil=>simp at hi
  |cons a l=>simp
structure RL(ids:List Nat)(h:Nat->Nat)(e:Nat->En)(L:List En)(hd:Nat->Nat):Prop where
 L:L=ids.map e
 nd:ids.Nodup
 hd:ids=[]∨∀j,j<3->ids[hd j]?=some (h j)
section
variable{ids:List Nat}{h:Nat->Nat}{e:Nat->En}{L:List En}{hd:Nat->Nat}{i x:Nat}{r:Raw}{s:PrS}
theorem RL.len(q:RL ids h e L hd):L.length=ids.length:=by rw[q.L,List.length_map]
theorem RL.get(q:RL ids h e L hd)(hx:ids[i]?=some x):L[i]?=some (e x):=by rw[q.L,List.getElem?_map,hx];rfl
theorem RL.id(q:RL ids h e L hd){y:En}(hy:L[i]?=some y):∃x,ids[i]?=some x∧e x=y:=by
 rw[q.L,List.getElem?_map]at hy
 cases hx:ids[i]? with
 |none=>rw[hx]at hy;cases hy
 |some x=>rw[hx]at hy;exact⟨x,rfl,by simpa using hy⟩
theorem RL.hands(q:RL ids h e L hd){j:Nat}(hj:j<3)(hne:¬ids=[]):ids[hd j]?=some (h j):=(q.hd.resolve_left hne) j hj
theorem RL.at(q:RL ids h e L hd){j:Nat}(hj:j<3){y:En}(hy:L[hd j]?=some y):h j∈ids∧ids[hd j]?=some (h j)∧e (h j)=y:=by
 obtain⟨x,hx,ex⟩:=q.id hy;have hne:¬ids=[]:=fun c=>by rw[c]at hx;cases hx
 have:=q.hands hj hne;rw[this]at hx;simp only[Option.some.injEq]at hx;exact⟨List.mem_of_getElem? this,this,by rw[hx];exact ex⟩
theorem RL.move(q:RL r.ids r.h r.e s.L s.hd)(j:Nat):RL (r.move j).ids (r.move j).h (r.move j).e (s.mv j).L (s.mv j).hd:=by
 refine⟨q.L,q.nd,?_⟩;rcases q.hd with c|c
 .exact .inl c
 .right
  intro k hk
  show r.ids[upd s.hd j ((s.hd j+1)%s.L.length) k]?=some (upd r.h j (nxt r.ids (r.h j)) k)
  by_cases ek:k=j
  .subst ek
   rw[upd_same,upd_same,q.len];exact nxt_at q.nd (c k hk)
  .rw[upd_other _ _ ek,upd_other _ _ ek];exact c k hk
theorem RL.put(q:RL ids h e L hd)(hx:ids[i]?=some x)(y:En):RL ids h (upd e x y) (L.set i y) hd:=by
 refine⟨?_,q.nd,q.hd⟩;rw[q.L];apply List.ext_getElem?;intro k;rw[List.getElem?_set,List.getElem?_map,List.getElem?_map,List.length_map];by_cases ek:i=k
 .subst ek
  rw[if_pos rfl,if_pos (List.getElem?_eq_some_iff.1 hx).1,hx];simp[upd_same]
 .rw[if_neg ek]
  cases hz:ids[k]? with
  |none=>rfl
  |some z=>
   have:¬z=x:=fun c=>ek (nd_inj q.nd hx (by rw[hz,c]))
   simp[upd_other _ _ this]
theorem RL.leave(q:RL r.ids r.h r.e s.L s.hd)(hx:r.ids[i]?=some x):RL (r.leave x).ids (r.leave x).h (r.leave x).e (s.drop i).L (s.drop i).hd:=by
 have hi:i<r.ids.length:=(List.getElem?_eq_some_iff.1 hx).1;have ea:awayN r.ids x=r.ids.eraseIdx i:=awayN_erase q.nd hx;refine⟨?_,?_,?_⟩
 .show s.L.eraseIdx i=(awayN r.ids x).map r.e
  rw[ea,q.L,List.eraseIdx_eq_take_drop_succ,List.eraseIdx_eq_take_drop_succ,List.map_append,List.map_take,List.map_drop]
 .show(awayN r.ids x).Nodup
  unfold awayN;exact q.nd.filter _
 .by_cases h1:r.ids.length=1
  .left
   show awayN r.ids x=[]
   rw[ea];exact List.eq_nil_of_length_eq_zero (by rw[List.length_eraseIdx_of_lt hi];omega)
  .right
   intro j hj;have hne:¬r.ids=[]:=fun c=>by rw[c]at hi;simp at hi
   have c:=q.hands hj hne;have hk:s.hd j<r.ids.length:=(List.getElem?_eq_some_iff.1 c).1
   show(awayN r.ids x)[dropH i (s.L.length-1) (s.hd j)]?=some (if r.h j=x then nxt r.ids x else r.h j)
   rw[ea,List.getElem?_eraseIdx,q.len];have key:r.h j=x↔s.hd j=i:=⟨fun e=>nd_inj q.nd (by rw[c,e]) hx,fun e=>by rw[e,hx]at c;simpa using c.symm⟩;by_cases ek:s.hd j=i
   .rw[if_pos (key.2 ek),ek]
    have hn:=nxt_at q.nd hx;by_cases el:r.ids.length-1<=i
    .have e1:dropH i (r.ids.length-1) i=0:=by unfold dropH;simp only[Nat.lt_irrefl,if_false];rw[if_pos el]
     have:i+1=r.ids.length:=by omega
     rw[this,Nat.mod_self]at hn;rw[e1,if_pos (by omega)];exact hn
    .have e1:dropH i (r.ids.length-1) i=i:=by unfold dropH;simp only[Nat.lt_irrefl,if_false];rw[if_neg el]
     rw[e1,if_neg (by omega)];rw[Nat.mod_eq_of_lt (by omega)]at hn;exact hn
   .rw[if_neg (fun e=>ek (key.1 e))]
    by_cases el:i<s.hd j
    .have e1:dropH i (r.ids.length-1) (s.hd j)=s.hd j-1:=by unfold dropH;simp only[el,if_true];rw[if_neg (by omega)]
     rw[e1,if_neg (by omega),show s.hd j-1+1=s.hd j from by omega];exact c
    .have e1:dropH i (r.ids.length-1) (s.hd j)=s.hd j:=by unfold dropH;simp only[el,if_false];rw[if_neg (by omega)]
     rw[e1,if_pos (by omega)];exact c
theorem lay_ids_e(x:Nat):(r.lay x).e=r.e∧(r.lay x).v=r.v∧(r.lay x).goal=r.goal∧(r.lay x).hot=r.hot∧(r.lay x).size=r.size∧(r.lay x).fm=r.fm∧(r.lay x).mp=r.mp∧(r.lay x).mc=r.mc∧(r.lay x).sp=awayN r.sp x:=by
 unfold Raw.lay;split<;>exact⟨rfl,rfl,rfl,rfl,rfl,rfl,rfl,rfl,rfl⟩
theorem insL_mem{l:List Nat}{x o y:Nat}:y∈insL l x o↔y=x∨y∈l:=by
 unfold insL;have e:l=l.takeWhile (fun y=>!decide (y=o))++l.dropWhile (fun y=>!decide (y=o)):=List.takeWhile_append_dropWhile.symm;constructor
 .intro h
  rcases List.mem_append.1 h with h|h
  .right;rw[e];exact List.mem_append.2 (.inl h)
  .rcases List.mem_cons.1 h with h|h
   .exact .inl h
   .right;rw[e];exact List.mem_append.2 (.inr h)
 .rintro(h|h)
  .exact List.mem_append.2 (.inr (List.mem_cons.2 (.inl h)))
  .rw[e]at h
   rcases List.mem_append.1 h with h|h
   .exact List.mem_append.2 (.inl h)
   .exact List.mem_append.2 (.inr (List.mem_cons.2 (.inr h)))
theorem lay_mem{y:Nat}:y∈(r.lay x).ids↔y=x∨y∈r.ids:=by
 unfold Raw.lay
 split
 .rename_i c;rw[c];simp
 .exact insL_mem
theorem RL.lay(q:RL r.ids r.h r.e s.L s.hd)(hni:¬x∈r.ids):RL (r.lay x).ids (r.lay x).h (r.lay x).e (s.lay (r.e x)).L (s.lay (r.e x)).hd:=by
 by_cases c:r.ids=[]
 .have cL:s.L=[]:=by rw[q.L,c];rfl
  have e1:r.lay x={r with ids:=[x],sp:=awayN r.sp x,h:=fun _=>x}:=by unfold Raw.lay;rw[if_pos c]
  have e2:s.lay (r.e x)={s with L:=[r.e x],hd:=fun _=>0}:=by unfold PrS.lay;rw[if_pos cL]
  rw[e1,e2];exact⟨rfl,by simp,.inr (fun j hj=>rfl)⟩
 .have cL:¬s.L=[]:=fun e=>c (by rw[q.L]at e;simpa using e)
  have h0:=q.hands (j:=0) (by omega) c;have hi:s.hd 0<r.ids.length:=(List.getElem?_eq_some_iff.1 h0).1;have ei:insL r.ids x (r.h 0)=r.ids.take (s.hd 0)++x::r.ids.drop (s.hd 0):=insL_at q.nd h0;have e1:r.lay x={r with ids:=insL r.ids x (r.h 0),sp:=awayN r.sp x}:=by unfold Raw.lay;rw[if_neg c]
  have e2:s.lay (r.e x)={s with L:=insE s.L (s.hd 0) (r.e x),hd:=fun j=>if s.hd 0<=s.hd j then s.hd j+1 else s.hd j}:=by unfold PrS.lay;rw[if_neg cL]
  rw[e1,e2];refine⟨?_,?_,.inr (fun j hj=>?_)⟩
  .show insE s.L (s.hd 0) (r.e x)=(insL r.ids x (r.h 0)).map r.e
   rw[ei,List.map_append,List.map_cons,List.map_take,List.map_drop,<-q.L];rfl
  .show(insL r.ids x (r.h 0)).Nodup
   rw[ei]
   have hp:(r.ids.take (s.hd 0)++x::r.ids.drop (s.hd 0)).Perm (x::r.ids):=by
    refine List.perm_middle.trans (List.Perm.cons _ ?_);rw[List.take_append_drop]
   rw[hp.nodup_iff];exact List.nodup_cons.2 ⟨hni,q.nd⟩
  .have cj:=q.hands hj c
   show(insL r.ids x (r.h 0))[if s.hd 0<=s.hd j then s.hd j+1 else s.hd j]?=some (r.h j)
   have hl:(r.ids.take (s.hd 0)).length=s.hd 0:=by rw[List.length_take];omega
   rw[ei];by_cases el:s.hd 0<=s.hd j
   .rw[if_pos el,List.getElem?_append_right (by omega),hl,show s.hd j+1-s.hd 0=(s.hd j-s.hd 0)+1 from by omega,List.getElem?_cons_succ,List.getElem?_drop,show s.hd 0+(s.hd j-s.hd 0)=s.hd j from by omega]
    exact cj
   .rw[if_neg el,List.getElem?_append_left (by omega),List.getElem?_take,if_pos (by omega)]
    exact cj
end
structure Rf(n:Nat)(r:Raw)(s:PrS):Prop where
 rl:RL r.ids r.h r.e s.L s.hd
 goal:r.goal=s.goal
 hot:r.hot=s.hotN
 v:∀x∈r.ids,r.v x=s.mayGo (r.e x)
 size:r.size=s.L.countP s.mayGo
 fm1:∀f,f<n->∀x:Nat,r.fm f=(x:Int)->x∈r.ids∧(r.e x).fr=f
 fm2:∀f,f<n->∀x∈r.ids,(r.e x).fr=f->r.fm f=(x:Int)
 fm0:∀f,f<n->r.fm f= -1∨∃x:Nat,r.fm f=x
 mp:∀(p:Int) (x:Nat),r.mp p=some x↔x∈r.ids∧(r.e x).fr<0∧((r.e x).pg:Int)=p
 mc:r.mc=s.gone
 tot:r.ids.length+r.sp.length=2*n
section
variable{n m:Nat}{r:Raw}{s:PrS}{i x f:Nat}{y:En}
theorem away_mem{l:List Nat}{x z:Nat}:z∈awayN l x↔z∈l∧¬z=x:=by unfold awayN;simp
theorem countP_at{p q:En->Bool}:∀{l:List En} {i:Nat} {x:En},l[i]?=some x->(∀(j:Nat) (y:En),l[j]?=some y->¬j=i->p y=q y)->l.countP q+(if p x=true then 1 else 0)=l.countP p+(if q x=true then 1 else 0)
 |[],i,x,h,_=>by simp at h
 |a::l,0,x,h,hj=>by
  simp at h;subst h
  have:l.countP q=l.countP p:=by
   apply List.countP_congr;intro y hy;obtain⟨k,hk⟩:=List.getElem?_of_mem hy;rw[hj (k+1) y (by simpa using hk) (by omega)]
  simp only[List.countP_cons,this];omega
 |a::l,i+1,x,h,hj=>by
  have:=countP_at (p:=p) (q:=q) (l:=l) (i:=i) (x:=x) (by simpa using h) (fun j y hy hne=>hj (j+1) y (by simpa using hy) (by omega));have h0:=hj 0 a rfl (by omega);simp only[List.countP_cons,h0];omega
theorem Rf.get(h:Rf n r s)(hx:r.ids[i]?=some x):s.L[i]?=some (r.e x):=h.rl.get hx
theorem Rf.pgs(h:Rf n r s)(g:Nat->Nat):Rf n r {s with pg:=g}:=⟨h.rl,h.goal,h.hot,h.v,h.size,h.fm1,h.fm2,h.fm0,h.mp,h.mc,h.tot⟩
theorem Rf.goals(h:Rf n r s)(g:Nat):Rf n {r with goal:=g} {s with goal:=g}:=⟨h.rl,rfl,h.hot,h.v,h.size,h.fm1,h.fm2,h.fm0,h.mp,h.mc,h.tot⟩
theorem Rf.move(h:Rf n r s)(j:Nat):Rf n (r.move j) (s.mv j):=⟨h.rl.move j,h.goal,h.hot,h.v,h.size,h.fm1,h.fm2,h.fm0,h.mp,h.mc,h.tot⟩
theorem Rf.put(h:Rf n r s)(hx:r.ids[i]?=some x)(e1:y.pg=(r.e x).pg)(e2:y.fr=(r.e x).fr){z:Nat}(hz:z+(if(r.e x).hot=true then 1 else 0)=r.hot+(if y.hot=true then 1 else 0)):Rf n {r with e:=upd r.e x y,hot:=z} (s.put i y):=by
 have hL:=h.get hx
 have hm:∀a b:Nat,(upd r.e x y a).fr=(r.e a).fr∧(upd r.e x y a).pg=(r.e a).pg:=fun a _=>by
  by_cases q:a=x
  .subst q;rw[upd_same];exact⟨e2,e1⟩
  .rw[upd_other _ _ q];exact⟨rfl,rfl⟩
 have mg:∀e e':En,e'.fr=e.fr->s.mayGo e'=s.mayGo e:=fun e e' q=>by unfold PrS.mayGo;rw[q]
 refine⟨h.rl.put hx y,h.goal,?_,fun a ha=>?_,?_,fun f hf a ha=>?_,fun f hf a ha hfr=>?_,h.fm0,fun p a=>?_,?_,h.tot⟩
 .have:=put_hot (y:=y) hL
  have h2:=h.hot
  show z=(s.put i y).hotN
  omega
 .show r.v a=s.mayGo (upd r.e x y a)
  rw[mg _ _ (hm a 0).1];exact h.v a ha
 .show r.size=(s.L.set i y).countP s.mayGo
  have:=countP_set (p:=s.mayGo) (y:=y) hL;rw[mg _ _ e2]at this;rw[h.size];omega
 .have:=h.fm1 f hf a ha
  exact⟨this.1,by show(upd r.e x y a).fr=f;rw[(hm a 0).1];exact this.2⟩
 .exact h.fm2 f hf a ha (by rw[<-(hm a 0).1];exact hfr)
 .show r.mp p=some a↔a∈r.ids∧(upd r.e x y a).fr<0∧((upd r.e x y a).pg:Int)=p
  rw[(hm a 0).1,(hm a 0).2];exact h.mp p a
 .show r.mc=(s.put i y).gone
  rw[put_gone hL e2];exact h.mc
theorem Rf.setV(h:Rf n r s)(hk:PK n m s)(hx:r.ids[i]?=some x)(hf:(r.e x).fr=(f:Int))(u:Bool):Rf n (r.setV x u) {s with on:=upd s.on f u}:=by
 have hL:=h.get hx;have hxm:=List.mem_of_getElem? hx;have hv:=h.v x hxm;have hvx:r.v x=s.on f:=by rw[hv];unfold PrS.mayGo;rw[hf];simp
 have mg:∀(j:Nat) (e:En),s.L[j]?=some e->¬j=i->s.mayGo e=PrS.mayGo {s with on:=upd s.on f u} e:=fun j e he hne=>by
  unfold PrS.mayGo;by_cases q:0<=e.fr
  .have:¬e.fr.toNat=f:=fun c=>hne (hk.uq j i e _ he hL (.inr ⟨by rw[hf];omega,q⟩))
   show _=(decide (0<=e.fr)&&upd s.on f u e.fr.toNat)
   rw[upd_other _ _ this]
  .simp[q]
 have mgx:PrS.mayGo {s with on:=upd s.on f u} (r.e x)=u:=by
  unfold PrS.mayGo
  show(decide (0<=(r.e x).fr)&&upd s.on f u (r.e x).fr.toNat)=u
  rw[hf,Int.toNat_natCast,upd_same];simp
 have hc:=countP_at (p:=s.mayGo) (q:=PrS.mayGo {s with on:=upd s.on f u}) hL mg;rw[mgx,<-hv]at hc;have hs:=h.size
 have hsame:∀a∈r.ids,¬a=x->r.v a=PrS.mayGo {s with on:=upd s.on f u} (r.e a):=fun a ha hne=>by
  obtain⟨j,hj⟩:=List.getElem?_of_mem ha;rw[h.v a ha];exact mg j _ (h.get hj) (fun c=>hne (by rw[c,hx]at hj;simpa using hj.symm))
 unfold Raw.setV;by_cases q:r.v x=u
 .rw[if_pos q]
  refine⟨h.rl,h.goal,h.hot,fun a ha=>?_,?_,h.fm1,h.fm2,h.fm0,h.mp,h.mc,h.tot⟩
  .by_cases e:a=x
   .subst e;rw[mgx];exact q
   .exact hsame a ha e
  .show r.size=s.L.countP (PrS.mayGo {s with on:=upd s.on f u})
   rw[q]at hc;omega
 .rw[if_neg q]
  refine⟨h.rl,h.goal,h.hot,fun a ha=>?_,?_,h.fm1,h.fm2,h.fm0,h.mp,h.mc,h.tot⟩
  .show upd r.v x u a=_
   by_cases e:a=x
   .subst e;rw[upd_same,mgx]
   .rw[upd_other _ _ e];exact hsame a ha e
  .show(if u=true then r.size+1 else r.size-1)=s.L.countP (PrS.mayGo {s with on:=upd s.on f u})
   cases u
   .have:r.v x=true:=by simpa using q
    rw[this]at hc;simp at hc;simp;omega
   .have:r.v x=false:=by simpa using q
    rw[this]at hc;simp at hc;simp;omega
theorem Rf.size_pos(h:Rf n r s)(hx:x∈r.ids)(hv:r.v x=true):1<=r.size:=by
 rw[h.size];obtain⟨i,hi⟩:=List.getElem?_of_mem hx;have:=h.v x hx;rw[hv]at this;exact List.countP_pos_iff.2 ⟨r.e x,List.mem_of_getElem? (h.get hi),this.symm⟩
theorem Rf.hot_pos(h:Rf n r s)(hx:x∈r.ids)(hv:(r.e x).hot=true):1<=r.hot:=by
 rw[h.hot];obtain⟨i,hi⟩:=List.getElem?_of_mem hx;exact List.countP_pos_iff.2 ⟨r.e x,List.mem_of_getElem? (h.get hi),hv⟩
theorem Rf.len(h:Rf n r s):s.L.length=r.ids.length:=h.rl.len
theorem Rf.size_le(h:Rf n r s):r.size<=2*n:=by
 rw[h.size];have:=List.countP_le_length (p:=s.mayGo) (l:=s.L);have:=h.len;have:=h.tot;omega
theorem Rf.hot_le(h:Rf n r s):r.hot<=2*n:=by
 rw[h.hot];have:=List.countP_le_length (p:=fun e:En=>e.hot) (l:=s.L);have:=h.len;have:=h.tot;unfold PrS.hotN;omega
theorem leave_len(hn:r.ids.Nodup)(hx:r.ids[i]?=some x):(awayN r.ids x).length+1=r.ids.length:=awayN_len hn (List.mem_of_getElem? hx)
theorem Rf.ghost(h:Rf n r s)(hx:r.ids[i]?=some x)(hf:(r.e x).fr<0):Rf n (r.pdrop x) (s.drop i):=by
 have hL:=h.get hx;have hxm:=List.mem_of_getElem? hx;have hmp:r.mp ((r.e x).pg:Nat)=some x:=(h.mp _ x).2 ⟨hxm,hf,rfl⟩
 have ep:r.pdrop x=Raw.drop {r with hot:=if(r.e x).hot=true then r.hot-1 else r.hot,mp:=updP r.mp (r.e x).pg none,mc:=r.mc-1} x:=by
  have hf:(r.cold x).forget x={r.cold x with mp:=updP r.mp (r.e x).pg none,mc:=r.mc-1}:=by
   unfold Raw.forget;have h1:((r.cold x).mp (((r.cold x).e x).pg:Nat))=some x:=hmp;have h2:(mpF (r.cold x).mp (((r.cold x).e x).pg:Nat)).isSome=true:=by unfold mpF;rw[h1];rfl
   rw[h1,if_pos (by rfl),h2];rfl
  unfold Raw.pdrop;rw[hf];rfl
 rw[ep];have hg:=drop_gone hL;rw[if_pos hf]at hg;refine⟨h.rl.leave hx,h.goal,?_,fun a ha=>?_,?_,fun f hf' a ha=>?_,fun f hf' a ha hfr=>?_,h.fm0,fun p a=>?_,?_,?_⟩
 .have h1:=drop_hot hL
  have h2:=h.hot
  show(if(r.e x).hot=true then r.hot-1 else r.hot)=(s.drop i).hotN
  by_cases c:(r.e x).hot=true
  .rw[if_pos c]at h1⊢;omega
  .rw[if_neg c]at h1⊢;omega
 .exact h.v a (away_mem.1 ha).1
 .show r.size=(s.L.eraseIdx i).countP s.mayGo
  have:=countP_erase (p:=s.mayGo) hL;have mg:s.mayGo (r.e x)=false:=by unfold PrS.mayGo;simp;omega
  rw[mg]at this;rw[h.size];simpa using this.symm
 .obtain⟨q1,q2⟩:=h.fm1 f hf' a ha
  exact⟨away_mem.2 ⟨q1,fun c=>by subst c;omega⟩,q2⟩
 .exact h.fm2 f hf' a (away_mem.1 ha).1 hfr
 .show updP r.mp (r.e x).pg none p=some a↔a∈awayN r.ids x∧(r.e a).fr<0∧((r.e a).pg:Int)=p
  rw[away_mem];unfold updP;by_cases e:p=((r.e x).pg:Int)
  .rw[if_pos e]
   constructor
   .intro q;cases q
   .rintro⟨⟨a1,a2⟩,a3,a4⟩
    have:=(h.mp p a).2 ⟨a1,a3,a4⟩;rw[e,hmp]at this;simp only[Option.some.injEq]at this;exact(a2 this.symm).elim
  .rw[if_neg e,h.mp p a]
   constructor
   .rintro⟨a1,a3,a4⟩
    exact⟨⟨a1,fun c=>e (by rw[<-a4,c])⟩,a3,a4⟩
   .rintro⟨⟨a1,_⟩,a3,a4⟩
    exact⟨a1,a3,a4⟩
 .show r.mc-1=(s.drop i).gone
  have:=h.mc;omega
 .show(awayN r.ids x).length+(r.sp++[x]).length=2*n
  have:=leave_len h.rl.nd hx;have:=h.tot;simp;omega
theorem Rf.mp_none(h:Rf n r s)(hk:PK n m s)(hx:r.ids[i]?=some x)(hf:0<=(r.e x).fr):r.mp ((r.e x).pg:Nat)=none:=by
 cases e:r.mp ((r.e x).pg:Nat)with
 |none=>rfl
 |some a=>
  obtain⟨a1,a3,a4⟩:=(h.mp _ a).1 e;obtain⟨j,hj⟩:=List.getElem?_of_mem a1;have:=hk.uq j i _ _ (h.get hj) (h.get hx) (.inl (by omega));subst this;rw[hx]at hj;simp only[Option.some.injEq]at hj;subst hj;omega
theorem setV_ids(x:Nat)(u:Bool):(r.setV x u).sp=r.sp∧(r.setV x u).goal=r.goal∧(r.setV x u).hot=r.hot∧(r.setV x u).mc=r.mc:=by unfold Raw.setV;split<;>exact⟨rfl,rfl,rfl,rfl⟩
theorem setV_v(x:Nat)(u:Bool)(a:Nat):(r.setV x u).v a=if a=x then u else r.v a:=by
 unfold Raw.setV;by_cases q:r.v x=u
 .rw[if_pos q]
  by_cases e:a=x
  .subst e;rw[if_pos rfl];exact q
  .rw[if_neg e]
 .rw[if_neg q]
  show upd r.v x u a=_
  unfold upd;rfl
def Raw.told(r:Raw)(x:Nat):Raw:={r with mp:=updP r.mp (r.e x).pg (some x),mc:=r.mc+1}
theorem empty_told_e:(r.empty f x).told x={r.setV x false with e:=upd r.e x {r.e x with fr:= -1},fm:=upd r.fm f (-1),mp:=updP r.mp (r.e x).pg (some x),mc:=r.mc+1}:=by
 unfold Raw.told Raw.empty;obtain⟨a1,a2,a3,a4,a5⟩:=setV_e (r:=r) x false;obtain⟨_,_,_,b4⟩:=setV_ids (r:=r) x false;simp only[upd_same,a5,b4]
theorem Rf.leaves(h:Rf n r s)(hk:PK n m s)(hx:r.ids[i]?=some x)(hf:(r.e x).fr=(f:Int)):Rf n ((r.empty f x).told x) ((s.empty f).put i {r.e x with fr:= -1}):=by
 have hL:=h.get hx;have hxm:=List.mem_of_getElem? hx;have h0:=h.setV hk hx hf false;have hno:=h.mp_none hk hx (by omega);obtain⟨a1,a2,a3,a4,a5⟩:=setV_e (r:=r) x false;obtain⟨b1,b2,b3,b4⟩:=setV_ids (r:=r) x false;rw[empty_told_e];have hrl:=h.rl.put hx {r.e x with fr:= -1};have mgx:∀on:Nat->Bool,PrS.mayGo {s with on:=on} {r.e x with fr:= -1}=false:=fun on=>by unfold PrS.mayGo;rfl
 have mg0:PrS.mayGo {s with on:=upd s.on f false} (r.e x)=false:=by
  unfold PrS.mayGo
  show(decide (0<=(r.e x).fr)&&upd s.on f false (r.e x).fr.toNat)=false
  rw[hf,Int.toNat_natCast,upd_same];simp
 refine⟨?_,?_,?_,fun a ha=>?_,?_,fun g hg a ha=>?_,fun g hg a ha hfr=>?_,fun g hg=>?_,fun p a=>?_,?_,?_⟩
 .show RL (r.setV x false).ids (r.setV x false).h _ _ _
  rw[a3,a4];exact hrl
 .show(r.setV x false).goal=s.goal
  rw[b2];exact h.goal
 .show(r.setV x false).hot=_
  rw[b3,h.hot];have:=put_hot (s:=s) (y:={r.e x with fr:= -1}) hL;exact(Nat.add_right_cancel this).symm
 .show(r.setV x false).v a=PrS.mayGo {s with on:=upd s.on f false} (upd r.e x {r.e x with fr:= -1} a)
  by_cases e:a=x
  .subst e;rw[upd_same,mgx,setV_v,if_pos rfl]
  .rw[upd_other _ _ e]
   have:=h0.v a (by rw[a3];have ha:a∈(r.setV x false).ids:=ha;rw[a3]at ha;exact ha);rw[a1]at this;exact this
 .show(r.setV x false).size=(s.L.set i {r.e x with fr:= -1}).countP (PrS.mayGo {s with on:=upd s.on f false})
  have h1:=h0.size;have h2:=countP_set (p:=PrS.mayGo {s with on:=upd s.on f false}) (y:={r.e x with fr:= -1}) hL;rw[mgx,mg0]at h2;rw[h1];exact(Nat.add_right_cancel h2).symm
 .have ha:upd r.fm f (-1) g=(a:Int):=ha
  show a∈(r.setV x false).ids∧(upd r.e x {r.e x with fr:= -1} a).fr=g
  by_cases e:g=f
  .subst e;rw[upd_same]at ha;omega
  .rw[upd_other _ _ e]at ha
   obtain⟨q1,q2⟩:=h.fm1 g hg a ha;have:¬a=x:=fun c=>by subst c;omega
   rw[upd_other _ _ this,a3];exact⟨q1,q2⟩
 .have ha:a∈(r.setV x false).ids:=ha
  rw[a3]at ha;have hfr:(upd r.e x {r.e x with fr:= -1} a).fr=(g:Int):=hfr
  show upd r.fm f (-1) g=(a:Int)
  by_cases e:a=x
  .subst e;rw[upd_same]at hfr;have hfr:(-1:Int)=g:=hfr;omega
  .rw[upd_other _ _ e]at hfr
   have h1:=h.fm2 g hg a ha hfr
   have:¬g=f:=fun c=>by
    subst c;have h2:=h.fm2 g hg x hxm hf;rw[h1]at h2;exact e (by omega)
   rw[upd_other _ _ this];exact h1
 .show upd r.fm f (-1) g= -1∨_
  by_cases e:g=f
  .subst e;rw[upd_same];exact .inl rfl
  .rw[upd_other _ _ e]
   rcases h.fm0 g hg with q|⟨a,q⟩
   .exact .inl q
   .exact .inr ⟨a,by show upd r.fm f (-1) g=_;rw[upd_other _ _ e];exact q⟩
 .show updP r.mp (r.e x).pg (some x) p=some a↔a∈(r.setV x false).ids∧(upd r.e x {r.e x with fr:= -1} a).fr<0∧((upd r.e x {r.e x with fr:= -1} a).pg:Int)=p
  rw[a3];unfold updP;by_cases e:a=x
  .subst e
   rw[upd_same];constructor
   .intro q
    refine⟨hxm,by show(-1:Int)<0;omega,?_⟩;by_cases ep:p=((r.e a).pg:Int)
    .exact ep.symm
    .rw[if_neg ep]at q
     have:=((h.mp p a).1 q).2.1;omega
   .rintro⟨_,_,q⟩
    have q:((r.e a).pg:Int)=p:=q;rw[if_pos q.symm]
  .rw[upd_other _ _ e]
   by_cases ep:p=((r.e x).pg:Int)
   .rw[if_pos ep]
    constructor
    .intro q;simp only[Option.some.injEq]at q;exact(e q.symm).elim
    .rintro⟨q1,q2,q3⟩
     have:=(h.mp p a).2 ⟨q1,q2,q3⟩;rw[ep,hno]at this;cases this
   .rw[if_neg ep];exact h.mp p a
 .show r.mc+1=(s.L.set i {r.e x with fr:= -1}).countP _
  have h2:=countP_set (p:=fun e:En=>decide (e.fr<0)) (y:={r.e x with fr:= -1}) hL;have h1:=h.mc;unfold PrS.gone at h1;rw[h1];have c1:decide ((r.e x).fr<0)=false:=by simp;omega
  simp only[c1]at h2;simpa using h2.symm
 .show(r.setV x false).ids.length+(r.setV x false).sp.length=2*n
  rw[a3,b1];exact h.tot
theorem put_drop(s:PrS)(i:Nat)(y:En):(s.put i y).drop i=s.drop i:=by
 unfold PrS.put PrS.drop;simp only[List.length_set,PrS.mk.injEq,and_true,true_and];rw[List.eraseIdx_eq_take_drop_succ,List.eraseIdx_eq_take_drop_succ,List.take_set_of_le (Nat.le_refl _),List.drop_set_of_lt (by omega)]
theorem mv_drop{j:Nat}(hi:s.hd j<s.L.length):(s.mv j).drop (s.hd j)=s.drop (s.hd j):=by
 unfold PrS.mv PrS.drop;simp only[PrS.mk.injEq,and_true,true_and]
 funext k
 by_cases e:k=j
 .subst e
  rw[upd_same];unfold dropH;by_cases c:s.hd k+1<s.L.length
  .rw[Nat.mod_eq_of_lt c]
   (repeat' split)<;>omega
  .have:s.hd k+1=s.L.length:=by omega
   rw[this,Nat.mod_self]
   (repeat' split)<;>omega
 .rw[upd_other _ _ e]
theorem told_pdrop(hno:r.mp ((r.e x).pg:Nat)=none):((r.empty f x).told x).pdrop x=(r.empty f x).pdrop x:=by
 obtain⟨a1,a2,a3,a4,a5⟩:=setV_e (r:=r) x false;have e1:((r.empty f x).e x).pg=(r.e x).pg:=by show(upd r.e x {r.e x with fr:= -1} x).pg=_;rw[upd_same]
 have e2:(r.empty f x).mp=r.mp:=a5
 have hfun:updP (updP r.mp (r.e x).pg (some x)) (r.e x).pg none=r.mp:=by
  funext z;unfold updP
  by_cases q:z=((r.e x).pg:Int)
  .rw[if_pos q,q,hno]
  .rw[if_neg q,if_neg q]
 have hfun2:updP r.mp (r.e x).pg none=r.mp:=by
  funext z;unfold updP
  by_cases q:z=((r.e x).pg:Int)
  .rw[if_pos q,q,hno]
  .rw[if_neg q]
 have key:∀q:Raw,q.mp ((q.e x).pg:Nat)=none->q.forget x=q:=fun q hq=>by
  unfold Raw.forget
  split
  .have h1:(mpF q.mp ((q.e x).pg:Nat)).isSome=false:=by unfold mpF;rw[hq];rfl
   rw[h1]
   have:updP q.mp (q.e x).pg none=q.mp:=by
    funext z;unfold updP
    by_cases c:z=((q.e x).pg:Int)
    .rw[if_pos c,c,hq]
    .rw[if_neg c]
   rw[this];rfl
  .rfl
 have k1:((r.empty f x).cold x).forget x=(r.empty f x).cold x:=key _ (by show(r.empty f x).mp (((r.empty f x).e x).pg:Nat)=none;rw[e1,e2];exact hno)
 have k2:(((r.empty f x).told x).cold x).forget x=(r.empty f x).cold x:=by
  unfold Raw.forget
  have h1:(((r.empty f x).told x).cold x).mp (((((r.empty f x).told x).cold x).e x).pg:Nat)=some x:=by
   show updP (r.empty f x).mp ((r.empty f x).e x).pg (some x) (((r.empty f x).e x).pg:Nat)=some x
   unfold updP;rw[if_pos rfl]
  have h2:(mpF (((r.empty f x).told x).cold x).mp (((((r.empty f x).told x).cold x).e x).pg:Nat)).isSome=true:=by unfold mpF;rw[h1];rfl
  rw[h1,if_pos (by rfl),h2]
  show({((r.empty f x).told x).cold x with mp:=updP (updP (r.empty f x).mp ((r.empty f x).e x).pg (some x)) ((r.empty f x).e x).pg none,mc:=(r.empty f x).mc+1-1}:Raw)=_
  rw[e1,e2,hfun]
  show _=({(r.empty f x)with hot:=if((r.empty f x).e x).hot=true then(r.empty f x).hot-1 else(r.empty f x).hot}:Raw)
  unfold Raw.cold Raw.told;simp only[e2,Nat.add_sub_cancel]
 unfold Raw.pdrop;rw[k1,k2]
theorem Rf.out(h:Rf n r s)(hk:PK n m s)(hx:r.ids[i]?=some x)(hf:(r.e x).fr=(f:Int)):Rf n ((r.empty f x).pdrop x) ((s.empty f).drop i):=by
 have h1:=h.leaves hk hx hf;have h2:=h1.ghost (i:=i) (x:=x) (by rw[empty_told_e];show(r.setV x false).ids[i]?=some x;rw[(setV_e (r:=r) x false).2.2.1];exact hx) (by rw[empty_told_e];show(upd r.e x {r.e x with fr:= -1} x).fr<0;rw[upd_same];show(-1:Int)<0;omega);rw[told_pdrop (h.mp_none hk hx (by omega)),put_drop]at h2;exact h2
end
section
variable{n m:Nat}{r:Raw}{s:PrS}{i x f:Nat}{y:En}
theorem lay_len_ids:(r.lay x).ids.length=r.ids.length+1:=by
 unfold Raw.lay
 split
 .rename_i c;rw[c];rfl
 .show(insL r.ids x (r.h 0)).length=_
  unfold insL
  have e:r.ids.length=(r.ids.takeWhile (fun y=>!decide (y=r.h 0))).length+(r.ids.dropWhile (fun y=>!decide (y=r.h 0))).length:=by
   rw[<-List.length_append,List.takeWhile_append_dropWhile]
  rw[List.length_append,List.length_cons];omega
theorem lay_countP(p:En->Bool):(s.lay y).L.countP p=s.L.countP p+(if p y=true then 1 else 0):=by
 unfold PrS.lay
 split
 .rename_i c;rw[c];simp[List.countP_cons]
 .exact countP_ins s.L (s.hd 0) y
theorem Rf.again(h:Rf n r s)(hx:r.ids[i]?=some x)(hns:¬x∈r.sp):Rf n ((r.leave x).lay x) ((s.drop i).lay (r.e x)):=by
 have hL:=h.get hx;have hxm:=List.mem_of_getElem? hx;have hrl:=h.rl.leave hx;have hni:¬x∈(r.leave x).ids:=by show¬x∈awayN r.ids x;rw[away_mem];exact fun q=>q.2 rfl
 have hrl2:RL ((r.leave x).lay x).ids ((r.leave x).lay x).h ((r.leave x).lay x).e ((s.drop i).lay ((r.leave x).e x)).L ((s.drop i).lay ((r.leave x).e x)).hd:=RL.lay hrl hni;obtain⟨e1,e2,e3,e4,e5,e6,e7,e8,e9⟩:=lay_ids_e (r:=r.leave x) x
 have mem:∀a,a∈((r.leave x).lay x).ids↔a∈r.ids:=fun a=>by
  rw[lay_mem]
  show a=x∨a∈awayN r.ids x↔_
  rw[away_mem];constructor
  .rintro(q|q)
   .rw[q];exact hxm
   .exact q.1
  .intro q
   by_cases c:a=x
   .exact .inl c
   .exact .inr ⟨q,c⟩
 obtain⟨l1,l2,l3⟩:=lay_pg (s:=s.drop i) (x:=r.e x);have hmg:((s.drop i).lay (r.e x)).mayGo=s.mayGo:=by funext e;unfold PrS.mayGo;rw[l2];rfl
 refine⟨hrl2,?_,?_,fun a ha=>?_,?_,fun g hg a ha=>?_,fun g hg a ha hfr=>?_,fun g hg=>?_,fun p a=>?_,?_,?_⟩
 .rw[e3,l3];exact h.goal
 .rw[e4]
  have h1:=drop_hot hL;have h2:=lay_hot (s:=s.drop i) (x:=r.e x);have h3:=h.hot
  show r.hot=_
  omega
 .rw[e2,e1,hmg];exact h.v a ((mem a).1 ha)
 .rw[e5,hmg,lay_countP]
  have h1:=countP_erase (p:=s.mayGo) hL;have h2:=h.size
  show r.size=(s.L.eraseIdx i).countP s.mayGo+_
  omega
 .rw[e6]at ha
  obtain⟨q1,q2⟩:=h.fm1 g hg a ha;exact⟨(mem a).2 q1,by rw[e1];exact q2⟩
 .rw[e6];rw[e1]at hfr;exact h.fm2 g hg a ((mem a).1 ha) hfr
 .rw[e6];exact h.fm0 g hg
 .rw[e7,e1,mem];exact h.mp p a
 .rw[e8]
  have h1:=drop_gone hL;have h2:=lay_gone (s:=s.drop i) (x:=r.e x);have h3:=h.mc
  show r.mc=_
  omega
 .rw[lay_len_ids,e9]
  have:=leave_len h.rl.nd hx;have:=h.tot;have h3:awayN (r.leave x).sp x=r.sp:=awayN_not hns;rw[h3]
  show(awayN r.ids x).length+1+r.sp.length=2*n
  omega
theorem Rf.turn(h:Rf n r s)(hx:r.ids[i]?=some x)(hns:¬x∈r.sp){z:Nat}(hz:z+(if(r.e x).hot=true then 1 else 0)=r.hot+(if(r.e x).test=true then 1 else 0)):
  Rf n (({r with e:=upd r.e x (r.e x).turn,hot:=z}:Raw).leave x|>.lay x) ((s.drop i).lay (r.e x).turn):=by
 have h1:=h.put hx (y:=(r.e x).turn) rfl rfl hz;have h2:=h1.again (i:=i) (x:=x) hx hns;rw[put_drop]at h2;have e0:({r with e:=upd r.e x (r.e x).turn,hot:=z}:Raw).e x=(r.e x).turn:=upd_same ..;rw[e0]at h2;exact h2
theorem Rf.come(h:Rf n r s)(hk:PK n m s){sp':List Nat}(hs:r.sp=x::sp')(hni:¬x∈r.ids)(hns:¬x∈sp')(hf:y.fr=(f:Int))(hfn:f<n)(hfm:r.fm f= -1)(hon:s.on f=false):
  Rf n {r.come y with fm:=upd r.fm f (x:Int),hot:=r.hot+(if y.hot=true then 1 else 0)} (s.lay y):=by
 have hco:r.come y=Raw.lay {r with e:=upd r.e x y,v:=upd r.v x false} x:=by unfold Raw.come;rw[hs];rfl
 have hE:∀a∈r.ids,upd r.e x y a=r.e a:=fun a ha=>upd_other _ _ (fun c=>hni (c▸ha))
 have hrl0:RL r.ids r.h (upd r.e x y) s.L s.hd:=⟨by rw[h.rl.L];exact(List.map_congr_left (fun a ha=>(hE a ha).symm)),h.rl.nd,h.rl.hd⟩
 have hrl:RL (Raw.lay {r with e:=upd r.e x y,v:=upd r.v x false} x).ids (Raw.lay {r with e:=upd r.e x y,v:=upd r.v x false} x).h (Raw.lay {r with e:=upd r.e x y,v:=upd r.v x false} x).e (s.lay (upd r.e x y x)).L (s.lay (upd r.e x y x)).hd:=
  RL.lay (r:={r with e:=upd r.e x y,v:=upd r.v x false}) hrl0 hni
 rw[upd_same]at hrl;obtain⟨e1,e2,e3,e4,e5,e6,e7,e8,e9⟩:=lay_ids_e (r:={r with e:=upd r.e x y,v:=upd r.v x false}) x;rw[<-hco]at hrl e1 e2 e3 e4 e5 e6 e7 e8 e9;have mem:∀a,a∈(r.come y).ids↔a=x∨a∈r.ids:=fun a=>by rw[hco,lay_mem]
 have len:(r.come y).ids.length=r.ids.length+1:=by rw[hco,lay_len_ids]
 obtain⟨l1,l2,l3⟩:=lay_pg (s:=s) (x:=y);have hmg:(s.lay y).mayGo=s.mayGo:=by funext e;unfold PrS.mayGo;rw[l2]
 have mgy:s.mayGo y=false:=by unfold PrS.mayGo;rw[hf,Int.toNat_natCast,hon];simp
 refine⟨hrl,?_,?_,fun a ha=>?_,?_,fun g hg a ha=>?_,fun g hg a ha hfr=>?_,fun g hg=>?_,fun p a=>?_,?_,?_⟩
 .show(r.come y).goal=_
  rw[e3,l3];exact h.goal
 .show r.hot+_=_
  have:=lay_hot (s:=s) (x:=y);have:=h.hot;omega
 .show(r.come y).v a=(s.lay y).mayGo ((r.come y).e a)
  rw[e2,e1,hmg]
  show upd r.v x false a=s.mayGo (upd r.e x y a)
  by_cases c:a=x
  .rw[c,upd_same,upd_same,mgy]
  .rw[upd_other _ _ c,upd_other _ _ c];exact h.v a (((mem a).1 ha).resolve_left c)
 .show(r.come y).size=_
  rw[e5,hmg,lay_countP,mgy];have:=h.size;simpa using this
 .have ha:upd r.fm f (x:Int) g=(a:Int):=ha
  show a∈(r.come y).ids∧((r.come y).e a).fr=g
  rw[mem,e1]
  show _∧(upd r.e x y a).fr=g
  by_cases c:g=f
  .subst c
   rw[upd_same]at ha;have:a=x:=by omega
   subst this;rw[upd_same];exact⟨.inl rfl,hf⟩
  .rw[upd_other _ _ c]at ha
   obtain⟨q1,q2⟩:=h.fm1 g hg a ha;rw[hE a q1];exact⟨.inr q1,q2⟩
 .have ha:=(mem a).1 ha
  have hfr:((r.come y).e a).fr=(g:Int):=hfr;rw[e1]at hfr;have hfr:(upd r.e x y a).fr=(g:Int):=hfr
  show upd r.fm f (x:Int) g=(a:Int)
  by_cases c:a=x
  .subst c
   rw[upd_same,hf]at hfr;have:g=f:=by omega
   subst this;rw[upd_same]
  .have ha:=ha.resolve_left c
   rw[upd_other _ _ c]at hfr;have h1:=h.fm2 g hg a ha hfr;have:¬g=f:=fun e=>by subst e;omega
   rw[upd_other _ _ this];exact h1
 .show upd r.fm f (x:Int) g= -1∨∃a:Nat,upd r.fm f (x:Int) g=a
  by_cases c:g=f
  .subst c;rw[upd_same];exact .inr ⟨x,rfl⟩
  .rw[upd_other _ _ c];exact h.fm0 g hg
 .show(r.come y).mp p=some a↔a∈(r.come y).ids∧((r.come y).e a).fr<0∧(((r.come y).e a).pg:Int)=p
  rw[e7,mem,e1]
  show r.mp p=some a↔(a=x∨a∈r.ids)∧(upd r.e x y a).fr<0∧((upd r.e x y a).pg:Int)=p
  by_cases c:a=x
  .subst c
   rw[upd_same,hf];constructor
   .intro q;exact(hni ((h.mp p a).1 q).1).elim
   .rintro⟨_,q,_⟩;omega
  .rw[upd_other _ _ c,h.mp p a]
   constructor
   .rintro⟨q1,q2⟩;exact⟨.inr q1,q2⟩
   .rintro⟨q1,q2⟩;exact⟨q1.resolve_left c,q2⟩
 .show(r.come y).mc=_
  rw[e8,lay_gone,if_neg (by omega)];exact h.mc
 .show(r.come y).ids.length+(r.come y).sp.length=2*n
  rw[len,e9]
  have e10:awayN r.sp x=sp':=by
   rw[hs];unfold awayN;have:=awayN_not hns;unfold awayN at this;rw[List.filter_cons,this];simp
  show _+(awayN r.sp x).length=_
  rw[e10];have:=h.tot;rw[hs]at this;simp at this;omega
theorem size_eq(hk:PK n m s)(hm:PM n s):s.sizeN n=s.L.countP s.mayGo:=by
 have hp:s.L.Pairwise (fun x y=>0<=x.fr->¬x.fr=y.fr):=by
  rw[List.pairwise_iff_getElem];intro i j hi hj hij hf e;have:=hk.uq i j _ _ (List.getElem?_eq_getElem hi) (List.getElem?_eq_getElem hj) (.inr ⟨e,hf⟩);omega
 have hnd:((s.L.filter s.mayGo).map (fun e=>e.fr.toNat)).Nodup:=by
  refine List.pairwise_map.2 ((hp.sublist List.filter_sublist).imp_of_mem (fun{a b} ha hb hab e=>?_));have h1:=(List.mem_filter.1 ha).2;have h2:=(List.mem_filter.1 hb).2;unfold PrS.mayGo at h1 h2;simp only[Bool.and_eq_true,decide_eq_true_eq]at h1 h2;exact hab h1.1 (by omega)
 have hnd2:((List.range n).filter (fun f=>decide (¬s.pg f=0)&&s.on f)).Nodup:=List.nodup_range.filter _
 have hperm:((List.range n).filter (fun f=>decide (¬s.pg f=0)&&s.on f)).Perm ((s.L.filter s.mayGo).map (fun e=>e.fr.toNat)):=by
  rw[List.perm_ext_iff_of_nodup hnd2 hnd];intro a;constructor
  .intro ha
   obtain⟨h1,h2⟩:=List.mem_filter.1 ha;simp only[Bool.and_eq_true,decide_eq_true_eq]at h2;obtain⟨x,hx,q1,q2⟩:=K_of hm (List.mem_range.1 h1) h2.1;refine List.mem_map.2 ⟨x,List.mem_filter.2 ⟨hx,?_⟩,by omega⟩;unfold PrS.mayGo;rw[q1,Int.toNat_natCast,h2.2];simp
  .intro ha
   obtain⟨x,hx,rfl⟩:=List.mem_map.1 ha;obtain⟨h1,h2⟩:=List.mem_filter.1 hx;unfold PrS.mayGo at h2;simp only[Bool.and_eq_true,decide_eq_true_eq]at h2;obtain⟨k,hk'⟩:=List.getElem?_of_mem h1;obtain⟨p1,p2,p3⟩:=pg_of hk hm hk' h2.1;refine List.mem_filter.2 ⟨List.mem_range.2 p1,?_⟩;simp only[Bool.and_eq_true,decide_eq_true_eq];exact⟨by omega,h2.2⟩
 have:=hperm.length_eq;unfold PrS.sizeN;rw[List.countP_eq_length_filter,this,List.length_map,List.countP_eq_length_filter]
end
end
end Go.Proofs.YtoenclhimbpfeaaGreatDoor
