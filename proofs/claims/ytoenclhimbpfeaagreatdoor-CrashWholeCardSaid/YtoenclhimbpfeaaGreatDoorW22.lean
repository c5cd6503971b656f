/- Part 22. -/
import Derived.Test.YtoenclhimbpfeaaGreatDoorW21
namespace Go.Proofs.YtoenclhimbpfeaaGreatDoor
set_option linter.all false
set_option maxHeartbeats 16000000
set_option maxRecDepth 100000
section
open Go.RowKit
structure Rf(n:Nat)(r:Raw)(s:PrS):Prop where
 rl:RL r.ids r.h r.e s.L s.hd
 goal:r.goal=s.goal
 hot:r.hot=s.hotN
 v:∀x∈r.ids,r.v x=s.mayGo (r.e x)
 size:r.size=s.L.countP s.mayGo
 fm1:∀f,f<n->∀x:Nat,r.fm f=(x:Int)->x∈r.ids/\(r.e x).fr=f
 fm2:∀f,f<n->∀x∈r.ids,(r.e x).fr=f->r.fm f=(x:Int)
 fm0:∀f,f<n->r.fm f= -1\/∃x:Nat,r.fm f=x
 mp:∀(p:Int) (x:Nat),r.mp p=some x↔x∈r.ids/\(r.e x).fr<0/\((r.e x).pg:Int)=p
 mc:r.mc=s.gone
 tot:r.ids.length+r.sp.length=2*n
section
variable{n m:Nat}{r:Raw}{s:PrS}{i x f:Nat}{y:En}
theorem dL{l:List Nat}{x z:Nat}:z∈ac l x↔z∈l/\¬z=x:=by unfold ac;simp
theorem nI{p q:En->Bool}:∀{l:List En} {i:Nat} {x:En},l[i]?=some x->(∀(j:Nat) (y:En),l[j]?=some y->¬j=i->p y=q y)->l.countP q+(if p x=true then 1 else 0)=l.countP p+(if q x=true then 1 else 0)
 |[],i,x,h,_=>by simp at h
 |a::l,0,x,h,hj=>by
  simp at h;subst h
  have:l.countP q=l.countP p:=by
   apply List.countP_congr;intro y hy;obtain⟨k,hk⟩:=List.getElem?_of_mem hy;rw[hj (k+1) y (by simpa using hk) (by omega)]
  simp only[List.countP_cons,this];omega
 |a::l,i+1,x,h,hj=>by
  have:=nI (p:=p) (q:=q) (l:=l) (i:=i) (x:=x) (by simpa using h) (λj y hy hne=>hj (j+1) y (by simpa using hy) (by omega));have h0:=hj 0 a rfl (by omega);simp only[List.countP_cons,h0];omega
theorem Rf.get(h:Rf n r s)(hx:r.ids[i]?=some x):s.L[i]?=some (r.e x):=h.rl.get hx
theorem Rf.pgs(h:Rf n r s)(g:Nat->Nat):Rf n r {s with pg:=g}:=⟨h.rl,h.goal,h.hot,h.v,h.size,h.fm1,h.fm2,h.fm0,h.mp,h.mc,h.tot⟩
theorem Rf.goals(h:Rf n r s)(g:Nat):Rf n {r with goal:=g} {s with goal:=g}:=⟨h.rl,rfl,h.hot,h.v,h.size,h.fm1,h.fm2,h.fm0,h.mp,h.mc,h.tot⟩
theorem Rf.move(h:Rf n r s)(j:Nat):Rf n (r.move j) (s.mv j):=⟨h.rl.move j,h.goal,h.hot,h.v,h.size,h.fm1,h.fm2,h.fm0,h.mp,h.mc,h.tot⟩
theorem Rf.put(h:Rf n r s)(hx:r.ids[i]?=some x)(e1:y.pg=(r.e x).pg)(e2:y.fr=(r.e x).fr){z:Nat}(hz:z+(if(r.e x).hot=true then 1 else 0)=r.hot+(if y.hot=true then 1 else 0)):Rf n {r with e:=upd r.e x y,hot:=z} (s.put i y):=by
 have hL:=h.get hx
 have hm:∀a b:Nat,(upd r.e x y a).fr=(r.e a).fr/\(upd r.e x y a).pg=(r.e a).pg:=λa _=>by
  by_cases q:a=x
  .subst q;rw[upd_same];exact⟨e2,e1⟩
  .rw[aa _ _ q];exact⟨rfl,rfl⟩
 have mg:∀e e':En,e'.fr=e.fr->s.mayGo e'=s.mayGo e:=λe e' q=>by unfold PrS.mayGo;rw[q]
 refine⟨h.rl.put hx y,h.goal,?_,λa ha=>?_,?_,λf hf a ha=>?_,λf hf a ha hfr=>?_,h.fm0,λp a=>?_,?_,h.tot⟩
 .have:=i9 (y:=y) hL
  have h2:=h.hot
  show z=(s.put i y).hotN
  omega
 .show r.v a=s.mayGo (upd r.e x y a)
  rw[mg _ _ (hm a 0).1];exact h.v a ha
 .show r.size=(s.L.set i y).countP s.mayGo
  have:=cm (p:=s.mayGo) (y:=y) hL;rw[mg _ _ e2]at this;rw[h.size];omega
 .have:=h.fm1 f hf a ha
  exact⟨this.1,by show(upd r.e x y a).fr=f;rw[(hm a 0).1];exact this.2⟩
 .exact h.fm2 f hf a ha (by rw[<-(hm a 0).1];exact hfr)
 .show r.mp p=some a↔a∈r.ids/\(upd r.e x y a).fr<0/\((upd r.e x y a).pg:Int)=p
  rw[(hm a 0).1,(hm a 0).2];exact h.mp p a
 .show r.mc=(s.put i y).gone
  rw[dR hL e2];exact h.mc
theorem Rf.setV(h:Rf n r s)(hk:PK n m s)(hx:r.ids[i]?=some x)(hf:(r.e x).fr=(f:Int))(u:Bool):Rf n (r.setV x u) {s with on:=upd s.on f u}:=by
 have hL:=h.get hx;have hxm:=List.mem_of_getElem? hx;have hv:=h.v x hxm;have hvx:r.v x=s.on f:=by rw[hv];unfold PrS.mayGo;rw[hf];simp
 have mg:∀(j:Nat) (e:En),s.L[j]?=some e->¬j=i->s.mayGo e=PrS.mayGo {s with on:=upd s.on f u} e:=λj e he hne=>by
  unfold PrS.mayGo;by_cases q:0<=e.fr
  .have:¬e.fr.toNat=f:=λc=>hne (hk.uq j i e _ he hL (.inr ⟨by rw[hf];omega,q⟩))
   show _=(decide (0<=e.fr)&&upd s.on f u e.fr.toNat)
   rw[aa _ _ this]
  .simp[q]
 have mgx:PrS.mayGo {s with on:=upd s.on f u} (r.e x)=u:=by
  unfold PrS.mayGo
  show(decide (0<=(r.e x).fr)&&upd s.on f u (r.e x).fr.toNat)=u
  rw[hf,Int.toNat_natCast,upd_same];simp
 have hc:=nI (p:=s.mayGo) (q:=PrS.mayGo {s with on:=upd s.on f u}) hL mg;rw[mgx,<-hv]at hc;have hs:=h.size
 have hsame:∀a∈r.ids,¬a=x->r.v a=PrS.mayGo {s with on:=upd s.on f u} (r.e a):=λa ha hne=>by
  obtain⟨j,hj⟩:=List.getElem?_of_mem ha;rw[h.v a ha];exact mg j _ (h.get hj) (λc=>hne (by rw[c,hx]at hj;simpa using hj.symm))
 unfold Raw.setV;by_cases q:r.v x=u
 .rw[if_pos q]
  refine⟨h.rl,h.goal,h.hot,λa ha=>?_,?_,h.fm1,h.fm2,h.fm0,h.mp,h.mc,h.tot⟩
  .by_cases e:a=x
   .subst e;rw[mgx];exact q
   .exact hsame a ha e
  .show r.size=s.L.countP (PrS.mayGo {s with on:=upd s.on f u})
   rw[q]at hc;omega
 .rw[if_neg q]
  refine⟨h.rl,h.goal,h.hot,λa ha=>?_,?_,h.fm1,h.fm2,h.fm0,h.mp,h.mc,h.tot⟩
  .show upd r.v x u a=_
   by_cases e:a=x
   .subst e;rw[upd_same,mgx]
   .rw[aa _ _ e];exact hsame a ha e
  .show(if u=true then r.size+1 else r.size-1)=s.L.countP (PrS.mayGo {s with on:=upd s.on f u})
   cases u
   .have:r.v x=true:=by simpa using q
    rw[this]at hc;simp at hc;simp;omega
   .have:r.v x=false:=by simpa using q
    rw[this]at hc;simp at hc;simp;omega
theorem Rf.size_pos(h:Rf n r s)(hx:x∈r.ids)(hv:r.v x=true):1<=r.size:=by
 rw[h.size];obtain⟨i,hi⟩:=List.getElem?_of_mem hx;have:=h.v x hx;rw[hv]at this;exact List.countP_pos_iff.2 ⟨r.e x,List.mem_of_getElem? (h.get hi),this.symm⟩
theorem Rf.hot_pos(h:Rf n r s)(hx:x∈r.ids)(hv:(r.e x).hot=true):1<=r.hot:=by
 rw[h.hot];obtain⟨i,hi⟩:=List.getElem?_of_mem hx;exact List.countP_pos_iff.2 ⟨r.e x,List.mem_of_getElem? (h.get hi),hv⟩
theorem Rf.len(h:Rf n r s):s.L.length=r.ids.length:=h.rl.len
theorem Rf.size_le(h:Rf n r s):r.size<=2*n:=by
 rw[h.size];have:=List.countP_le_length (p:=s.mayGo) (l:=s.L);have:=h.len;have:=h.tot;omega
theorem Rf.hot_le(h:Rf n r s):r.hot<=2*n:=by
 rw[h.hot];have:=List.countP_le_length (p:=λe:En=>e.hot) (l:=s.L);have:=h.len;have:=h.tot;unfold PrS.hotN;omega
theorem no(hn:r.ids.Nodup)(hx:r.ids[i]?=some x):(ac r.ids x).length+1=r.ids.length:=dW hn (List.mem_of_getElem? hx)
theorem Rf.ghost(h:Rf n r s)(hx:r.ids[i]?=some x)(hf:(r.e x).fr<0):Rf n (r.pdrop x) (s.drop i):=by
 have hL:=h.get hx;have hxm:=List.mem_of_getElem? hx;have hmp:r.mp ((r.e x).pg:Nat)=some x:=(h.mp _ x).2 ⟨hxm,hf,rfl⟩
 have ep:r.pdrop x=Raw.drop {r with hot:=if(r.e x).hot=true then r.hot-1 else r.hot,mp:=updP r.mp (r.e x).pg none,mc:=r.mc-1} x:=by
  have hf:(r.cold x).forget x={r.cold x with mp:=updP r.mp (r.e x).pg none,mc:=r.mc-1}:=by
   unfold Raw.forget;have h1:((r.cold x).mp (((r.cold x).e x).pg:Nat))=some x:=hmp;have h2:(mpF (r.cold x).mp (((r.cold x).e x).pg:Nat)).isSome=true:=by unfold mpF;rw[h1];rfl
   rw[h1,if_pos (by rfl),h2];rfl
  unfold Raw.pdrop;rw[hf];rfl
 rw[ep];have hg:=cV hL;rw[if_pos hf]at hg;refine⟨h.rl.leave hx,h.goal,?_,λa ha=>?_,?_,λf hf' a ha=>?_,λf hf' a ha hfr=>?_,h.fm0,λp a=>?_,?_,?_⟩
 .have h1:=kG hL
  have h2:=h.hot
  show(if(r.e x).hot=true then r.hot-1 else r.hot)=(s.drop i).hotN
  by_cases c:(r.e x).hot=true
  .rw[if_pos c]at h1⊢;omega
  .rw[if_neg c]at h1⊢;omega
 .exact h.v a (dL.1 ha).1
 .show r.size=(s.L.eraseIdx i).countP s.mayGo
  have:=bW (p:=s.mayGo) hL;have mg:s.mayGo (r.e x)=false:=by unfold PrS.mayGo;simp;omega
  rw[mg]at this;rw[h.size];simpa using this.symm
 .obtain⟨q1,q2⟩:=h.fm1 f hf' a ha
  exact⟨dL.2 ⟨q1,λc=>by subst c;omega⟩,q2⟩
 .exact h.fm2 f hf' a (dL.1 ha).1 hfr
 .show updP r.mp (r.e x).pg none p=some a↔a∈ac r.ids x/\(r.e a).fr<0/\((r.e a).pg:Int)=p
  rw[dL];unfold updP;by_cases e:p=((r.e x).pg:Int)
  .rw[if_pos e]
   constructor
   .intro q;cases q
   .rintro⟨⟨a1,a2⟩,a3,a4⟩
    have:=(h.mp p a).2 ⟨a1,a3,a4⟩;rw[e,hmp]at this;simp only[Option.some.injEq]at this;exact(a2 this.symm).elim
  .rw[if_neg e,h.mp p a]
   constructor
   .rintro⟨a1,a3,a4⟩
    exact⟨⟨a1,λc=>e (by rw[<-a4,c])⟩,a3,a4⟩
   .rintro⟨⟨a1,_⟩,a3,a4⟩
    exact⟨a1,a3,a4⟩
 .show r.mc-1=(s.drop i).gone
  have:=h.mc;omega
 .show(ac r.ids x).length+(r.sp++[x]).length=2*n
  have:=no h.rl.nd hx;have:=h.tot;simp;omega
theorem Rf.mp_none(h:Rf n r s)(hk:PK n m s)(hx:r.ids[i]?=some x)(hf:0<=(r.e x).fr):r.mp ((r.e x).pg:Nat)=none:=by
 cases e:r.mp ((r.e x).pg:Nat)with
 |none=>rfl
 |some a=>
  obtain⟨a1,a3,a4⟩:=(h.mp _ a).1 e;obtain⟨j,hj⟩:=List.getElem?_of_mem a1;have:=hk.uq j i _ _ (h.get hj) (h.get hx) (.inl (by omega));subst this;rw[hx]at hj;simp only[Option.some.injEq]at hj;subst hj;omega
theorem iC(x:Nat)(u:Bool):(r.setV x u).sp=r.sp/\(r.setV x u).goal=r.goal/\(r.setV x u).hot=r.hot/\(r.setV x u).mc=r.mc:=by unfold Raw.setV;split<;>exact⟨rfl,rfl,rfl,rfl⟩
theorem Eo(x:Nat)(u:Bool)(a:Nat):(r.setV x u).v a=if a=x then u else r.v a:=by
 unfold Raw.setV;by_cases q:r.v x=u
 .rw[if_pos q]
  by_cases e:a=x
  .subst e;rw[if_pos rfl];exact q
  .rw[if_neg e]
 .rw[if_neg q]
  show upd r.v x u a=_
  unfold upd;rfl
def Raw.told(r:Raw)(x:Nat):Raw:={r with mp:=updP r.mp (r.e x).pg (some x),mc:=r.mc+1}
theorem eo:(r.empty f x).told x={r.setV x false with e:=upd r.e x {r.e x with fr:= -1},fm:=upd r.fm f (-1),mp:=updP r.mp (r.e x).pg (some x),mc:=r.mc+1}:=by
 unfold Raw.told Raw.empty;obtain⟨a1,a2,a3,a4,a5⟩:=hQ (r:=r) x false;obtain⟨_,_,_,b4⟩:=iC (r:=r) x false;simp only[upd_same,a5,b4]
theorem Rf.leaves(h:Rf n r s)(hk:PK n m s)(hx:r.ids[i]?=some x)(hf:(r.e x).fr=(f:Int)):Rf n ((r.empty f x).told x) ((s.empty f).put i {r.e x with fr:= -1}):=by
 have hL:=h.get hx;have hxm:=List.mem_of_getElem? hx;have h0:=h.setV hk hx hf false;have hno:=h.mp_none hk hx (by omega);obtain⟨a1,a2,a3,a4,a5⟩:=hQ (r:=r) x false;obtain⟨b1,b2,b3,b4⟩:=iC (r:=r) x false;rw[eo];have hrl:=h.rl.put hx {r.e x with fr:= -1};have mgx:∀on:Nat->Bool,PrS.mayGo {s with on:=on} {r.e x with fr:= -1}=false:=λon=>by unfold PrS.mayGo;rfl
 have mg0:PrS.mayGo {s with on:=upd s.on f false} (r.e x)=false:=by
  unfold PrS.mayGo
  show(decide (0<=(r.e x).fr)&&upd s.on f false (r.e x).fr.toNat)=false
  rw[hf,Int.toNat_natCast,upd_same];simp
 refine⟨?_,?_,?_,λa ha=>?_,?_,λg hg a ha=>?_,λg hg a ha hfr=>?_,λg hg=>?_,λp a=>?_,?_,?_⟩
 .show RL (r.setV x false).ids (r.setV x false).h _ _ _
  rw[a3,a4];exact hrl
 .show(r.setV x false).goal=s.goal
  rw[b2];exact h.goal
 .show(r.setV x false).hot=_
  rw[b3,h.hot];have:=i9 (s:=s) (y:={r.e x with fr:= -1}) hL;exact(Nat.add_right_cancel this).symm
 .show(r.setV x false).v a=PrS.mayGo {s with on:=upd s.on f false} (upd r.e x {r.e x with fr:= -1} a)
  by_cases e:a=x
  .subst e;rw[upd_same,mgx,Eo,if_pos rfl]
  .rw[aa _ _ e]
   have:=h0.v a (by rw[a3];have ha:a∈(r.setV x false).ids:=ha;rw[a3]at ha;exact ha);rw[a1]at this;exact this
 .show(r.setV x false).size=(s.L.set i {r.e x with fr:= -1}).countP (PrS.mayGo {s with on:=upd s.on f false})
  have h1:=h0.size;have h2:=cm (p:=PrS.mayGo {s with on:=upd s.on f false}) (y:={r.e x with fr:= -1}) hL;rw[mgx,mg0]at h2;rw[h1];exact(Nat.add_right_cancel h2).symm
 .have ha:upd r.fm f (-1) g=(a:Int):=ha
  show a∈(r.setV x false).ids/\(upd r.e x {r.e x with fr:= -1} a).fr=g
  by_cases e:g=f
  .subst e;rw[upd_same]at ha;omega
  .rw[aa _ _ e]at ha
   obtain⟨q1,q2⟩:=h.fm1 g hg a ha;have:¬a=x:=λc=>by subst c;omega
   rw[aa _ _ this,a3];exact⟨q1,q2⟩
 .have ha:a∈(r.setV x false).ids:=ha
  rw[a3]at ha;have hfr:(upd r.e x {r.e x with fr:= -1} a).fr=(g:Int):=hfr
  show upd r.fm f (-1) g=(a:Int)
  by_cases e:a=x
  .subst e;rw[upd_same]at hfr;have hfr:(-1:Int)=g:=hfr;omega
  .rw[aa _ _ e]at hfr
   have h1:=h.fm2 g hg a ha hfr
   have:¬g=f:=λc=>by
    subst c;have h2:=h.fm2 g hg x hxm hf;rw[h1]at h2;exact e (by omega)
   rw[aa _ _ this];exact h1
 .show upd r.fm f (-1) g= -1\/_
  by_cases e:g=f
  .subst e;rw[upd_same];exact .inl rfl
  .rw[aa _ _ e]
   rcases h.fm0 g hg with q|⟨a,q⟩
   .exact .inl q
   .exact .inr ⟨a,by show upd r.fm f (-1) g=_;rw[aa _ _ e];exact q⟩
 .show updP r.mp (r.e x).pg (some x) p=some a↔a∈(r.setV x false).ids/\(upd r.e x {r.e x with fr:= -1} a).fr<0/\((upd r.e x {r.e x with fr:= -1} a).pg:Int)=p
  rw[a3];unfold updP;by_cases e:a=x
  .subst e
   rw[upd_same];constructor
   .intro q
    refine⟨hxm,by show(-1:Int)<0;omega,?_⟩;by_cases ep:p=((r.e a).pg:Int)
    .exact ep.symm
    .rw[if_neg ep]at q
     have:=((h.mp p a).1 q).2.1;omega
   .rintro⟨_,_,q⟩
    have q:((r.e a).pg:Int)=p:=q;rw[if_pos q.symm]
  .rw[aa _ _ e]
   by_cases ep:p=((r.e x).pg:Int)
   .rw[if_pos ep]
    constructor
    .intro q;simp only[Option.some.injEq]at q;exact(e q.symm).elim
    .rintro⟨q1,q2,q3⟩
     have:=(h.mp p a).2 ⟨q1,q2,q3⟩;rw[ep,hno]at this;cases this
   .rw[if_neg ep];exact h.mp p a
 .show r.mc+1=(s.L.set i {r.e x with fr:= -1}).countP _
  have h2:=cm (p:=λe:En=>decide (e.fr<0)) (y:={r.e x with fr:= -1}) hL;have h1:=h.mc;unfold PrS.gone at h1;rw[h1];have c1:decide ((r.e x).fr<0)=false:=by simp;omega
  simp only[c1]at h2;simpa using h2.symm
 .show(r.setV x false).ids.length+(r.setV x false).sp.length=2*n
  rw[a3,b1];exact h.tot
theorem lR(s:PrS)(i:Nat)(y:En):(s.put i y).drop i=s.drop i:=by
 unfold PrS.put PrS.drop;simp only[List.length_set,PrS.mk.injEq,and_true,true_and];rw[List.eraseIdx_eq_take_drop_succ,List.eraseIdx_eq_take_drop_succ,List.take_set_of_le (Nat.le_refl _),List.drop_set_of_lt (by omega)]
theorem vx{j:Nat}(hi:s.hd j<s.L.length):(s.mv j).drop (s.hd j)=s.drop (s.hd j):=by
 unfold PrS.mv PrS.drop;simp only[PrS.mk.injEq,and_true,true_and]
 funext k
 by_cases e:k=j
 .subst e
  rw[upd_same];unfold cK;by_cases c:s.hd k+1<s.L.length
  .rw[Nat.mod_eq_of_lt c]
   (repeat' split)<;>omega
  .have:s.hd k+1=s.L.length:=by omega
   rw[this,Nat.mod_self]
   (repeat' split)<;>omega
 .rw[aa _ _ e]
theorem rR(hno:r.mp ((r.e x).pg:Nat)=none):((r.empty f x).told x).pdrop x=(r.empty f x).pdrop x:=by
 obtain⟨a1,a2,a3,a4,a5⟩:=hQ (r:=r) x false;have e1:((r.empty f x).e x).pg=(r.e x).pg:=by show(upd r.e x {r.e x with fr:= -1} x).pg=_;rw[upd_same]
 have e2:(r.empty f x).mp=r.mp:=a5
 have hfun:updP (updP r.mp (r.e x).pg (some x)) (r.e x).pg none=r.mp:=by
  funext z;unfold updP
  by_cases q:z=((r.e x).pg:Int)
  .rw[if_pos q,q,hno]
  .rw[if_neg q,if_neg q]
 have hfun2:updP r.mp (r.e x).pg none=r.mp:=by
  funext z;unfold updP
  by_cases q:z=((r.e x).pg:Int)
  .rw[if_pos q,q,hno]
  .rw[if_neg q]
 have key:∀q:Raw,q.mp ((q.e x).pg:Nat)=none->q.forget x=q:=λq hq=>by
  unfold Raw.forget
  split
  .have h1:(mpF q.mp ((q.e x).pg:Nat)).isSome=false:=by unfold mpF;rw[hq];rfl
   rw[h1]
   have:updP q.mp (q.e x).pg none=q.mp:=by
    funext z;unfold updP
    by_cases c:z=((q.e x).pg:Int)
    .rw[if_pos c,c,hq]
    .rw[if_neg c]
   rw[this];rfl
  .rfl
 have k1:((r.empty f x).cold x).forget x=(r.empty f x).cold x:=key _ (by show(r.empty f x).mp (((r.empty f x).e x).pg:Nat)=none;rw[e1,e2];exact hno)
 have k2:(((r.empty f x).told x).cold x).forget x=(r.empty f x).cold x:=by
  unfold Raw.forget
  have h1:(((r.empty f x).told x).cold x).mp (((((r.empty f x).told x).cold x).e x).pg:Nat)=some x:=by
   show updP (r.empty f x).mp ((r.empty f x).e x).pg (some x) (((r.empty f x).e x).pg:Nat)=some x
   unfold updP;rw[if_pos rfl]
  have h2:(mpF (((r.empty f x).told x).cold x).mp (((((r.empty f x).told x).cold x).e x).pg:Nat)).isSome=true:=by unfold mpF;rw[h1];rfl
  rw[h1,if_pos (by rfl),h2]
  show({((r.empty f x).told x).cold x with mp:=updP (updP (r.empty f x).mp ((r.empty f x).e x).pg (some x)) ((r.empty f x).e x).pg none,mc:=(r.empty f x).mc+1-1}:Raw)=_
  rw[e1,e2,hfun]
  show _=({(r.empty f x)with hot:=if((r.empty f x).e x).hot=true then(r.empty f x).hot-1 else(r.empty f x).hot}:Raw)
  unfold Raw.cold Raw.told;simp only[e2,Nat.add_sub_cancel]
 unfold Raw.pdrop;rw[k1,k2]
theorem Rf.out(h:Rf n r s)(hk:PK n m s)(hx:r.ids[i]?=some x)(hf:(r.e x).fr=(f:Int)):Rf n ((r.empty f x).pdrop x) ((s.empty f).drop i):=by
 have h1:=h.leaves hk hx hf;have h2:=h1.ghost (i:=i) (x:=x) (by rw[eo];show(r.setV x false).ids[i]?=some x;rw[(hQ (r:=r) x false).2.2.1];exact hx) (by rw[eo];show(upd r.e x {r.e x with fr:= -1} x).fr<0;rw[upd_same];show(-1:Int)<0;omega);rw[rR (h.mp_none hk hx (by omega)),lR]at h2;exact h2
end
section
variable{n m:Nat}{r:Raw}{s:PrS}{i x f:Nat}{y:En}
theorem jR:(r.lay x).ids.length=r.ids.length+1:=by
 unfold Raw.lay
 split
 .rename_i c;rw[c];rfl
 .show(insL r.ids x (r.h 0)).length=_
  unfold insL
  have e:r.ids.length=(r.ids.takeWhile (λy=>!decide (y=r.h 0))).length+(r.ids.dropWhile (λy=>!decide (y=r.h 0))).length:=by
   rw[<-List.length_append,List.takeWhile_append_dropWhile]
  rw[List.length_append,List.length_cons];omega
theorem ll(p:En->Bool):(s.lay y).L.countP p=s.L.countP p+(if p y=true then 1 else 0):=by
 unfold PrS.lay
 split
 .rename_i c;rw[c];simp[List.countP_cons]
 .exact gV s.L (s.hd 0) y
theorem Rf.again(h:Rf n r s)(hx:r.ids[i]?=some x)(hns:¬x∈r.sp):Rf n ((r.leave x).lay x) ((s.drop i).lay (r.e x)):=by
 have hL:=h.get hx;have hxm:=List.mem_of_getElem? hx;have hrl:=h.rl.leave hx;have hni:¬x∈(r.leave x).ids:=by show¬x∈ac r.ids x;rw[dL];exact λq=>q.2 rfl
 have hrl2:RL ((r.leave x).lay x).ids ((r.leave x).lay x).h ((r.leave x).lay x).e ((s.drop i).lay ((r.leave x).e x)).L ((s.drop i).lay ((r.leave x).e x)).hd:=RL.lay hrl hni;obtain⟨e1,e2,e3,e4,e5,e6,e7,e8,e9⟩:=cW (r:=r.leave x) x
 have mem:∀a,a∈((r.leave x).lay x).ids↔a∈r.ids:=λa=>by
  rw[uX]
  show a=x\/a∈ac r.ids x↔_
  rw[dL];constructor
  .rintro(q|q)
   .rw[q];exact hxm
   .exact q.1
  .intro q
   by_cases c:a=x
   .exact .inl c
   .exact .inr ⟨q,c⟩
 obtain⟨l1,l2,l3⟩:=cF (s:=s.drop i) (x:=r.e x);have hmg:((s.drop i).lay (r.e x)).mayGo=s.mayGo:=by funext e;unfold PrS.mayGo;rw[l2];rfl
 refine⟨hrl2,?_,?_,λa ha=>?_,?_,λg hg a ha=>?_,λg hg a ha hfr=>?_,λg hg=>?_,λp a=>?_,?_,?_⟩
 .rw[e3,l3];exact h.goal
 .rw[e4]
  have h1:=kG hL;have h2:=tT (s:=s.drop i) (x:=r.e x);have h3:=h.hot
  show r.hot=_
  omega
 .rw[e2,e1,hmg];exact h.v a ((mem a).1 ha)
 .rw[e5,hmg,ll]
  have h1:=bW (p:=s.mayGo) hL;have h2:=h.size
  show r.size=(s.L.eraseIdx i).countP s.mayGo+_
  omega
 .rw[e6]at ha
  obtain⟨q1,q2⟩:=h.fm1 g hg a ha;exact⟨(mem a).2 q1,by rw[e1];exact q2⟩
 .rw[e6];rw[e1]at hfr;exact h.fm2 g hg a ((mem a).1 ha) hfr
 .rw[e6];exact h.fm0 g hg
 .rw[e7,e1,mem];exact h.mp p a
 .rw[e8]
  have h1:=cV hL;have h2:=iE (s:=s.drop i) (x:=r.e x);have h3:=h.mc
  show r.mc=_
  omega
 .rw[jR,e9]
  have:=no h.rl.nd hx;have:=h.tot;have h3:ac (r.leave x).sp x=r.sp:=ah hns;rw[h3]
  show(ac r.ids x).length+1+r.sp.length=2*n
  omega
theorem Rf.turn(h:Rf n r s)(hx:r.ids[i]?=some x)(hns:¬x∈r.sp){z:Nat}(hz:z+(if(r.e x).hot=true then 1 else 0)=r.hot+(if(r.e x).test=true then 1 else 0)):
  Rf n (({r with e:=upd r.e x (r.e x).turn,hot:=z}:Raw).leave x|>.lay x) ((s.drop i).lay (r.e x).turn):=by
 have h1:=h.put hx (y:=(r.e x).turn) rfl rfl hz;have h2:=h1.again (i:=i) (x:=x) hx hns;rw[lR]at h2;have e0:({r with e:=upd r.e x (r.e x).turn,hot:=z}:Raw).e x=(r.e x).turn:=upd_same ..;rw[e0]at h2;exact h2
theorem Rf.come(h:Rf n r s)(hk:PK n m s){sp':List Nat}(hs:r.sp=x::sp')(hni:¬x∈r.ids)(hns:¬x∈sp')(hf:y.fr=(f:Int))(hfn:f<n)(hfm:r.fm f= -1)(hon:s.on f=false):
  Rf n {r.come y with fm:=upd r.fm f (x:Int),hot:=r.hot+(if y.hot=true then 1 else 0)} (s.lay y):=by
 have hco:r.come y=Raw.lay {r with e:=upd r.e x y,v:=upd r.v x false} x:=by unfold Raw.come;rw[hs];rfl
 have hE:∀a∈r.ids,upd r.e x y a=r.e a:=λa ha=>aa _ _ (λc=>hni (c▸ha))
 have hrl0:RL r.ids r.h (upd r.e x y) s.L s.hd:=⟨by rw[h.rl.L];exact(List.map_congr_left (λa ha=>(hE a ha).symm)),h.rl.nd,h.rl.hd⟩
 have hrl:RL (Raw.lay {r with e:=upd r.e x y,v:=upd r.v x false} x).ids (Raw.lay {r with e:=upd r.e x y,v:=upd r.v x false} x).h (Raw.lay {r with e:=upd r.e x y,v:=upd r.v x false} x).e (s.lay (upd r.e x y x)).L (s.lay (upd r.e x y x)).hd:=
  RL.lay (r:={r with e:=upd r.e x y,v:=upd r.v x false}) hrl0 hni
 rw[upd_same]at hrl;obtain⟨e1,e2,e3,e4,e5,e6,e7,e8,e9⟩:=cW (r:={r with e:=upd r.e x y,v:=upd r.v x false}) x;rw[<-hco]at hrl e1 e2 e3 e4 e5 e6 e7 e8 e9;have mem:∀a,a∈(r.come y).ids↔a=x\/a∈r.ids:=λa=>by rw[hco,uX]
 have len:(r.come y).ids.length=r.ids.length+1:=by rw[hco,jR]
 obtain⟨l1,l2,l3⟩:=cF (s:=s) (x:=y);have hmg:(s.lay y).mayGo=s.mayGo:=by funext e;unfold PrS.mayGo;rw[l2]
 have mgy:s.mayGo y=false:=by unfold PrS.mayGo;rw[hf,Int.toNat_natCast,hon];simp
 refine⟨hrl,?_,?_,λa ha=>?_,?_,λg hg a ha=>?_,λg hg a ha hfr=>?_,λg hg=>?_,λp a=>?_,?_,?_⟩
 .show(r.come y).goal=_
  rw[e3,l3];exact h.goal
 .show r.hot+_=_
  have:=tT (s:=s) (x:=y);have:=h.hot;omega
 .show(r.come y).v a=(s.lay y).mayGo ((r.come y).e a)
  rw[e2,e1,hmg]
  show upd r.v x false a=s.mayGo (upd r.e x y a)
  by_cases c:a=x
  .rw[c,upd_same,upd_same,mgy]
  .rw[aa _ _ c,aa _ _ c];exact h.v a (((mem a).1 ha).resolve_left c)
 .show(r.come y).size=_
  rw[e5,hmg,ll,mgy];have:=h.size;simpa using this
 .have ha:upd r.fm f (x:Int) g=(a:Int):=ha
  show a∈(r.come y).ids/\((r.come y).e a).fr=g
  rw[mem,e1]
  show _/\(upd r.e x y a).fr=g
  by_cases c:g=f
  .subst c
   rw[upd_same]at ha;have:a=x:=by omega
   subst this;rw[upd_same];exact⟨.inl rfl,hf⟩
  .rw[aa _ _ c]at ha
   obtain⟨q1,q2⟩:=h.fm1 g hg a ha;rw[hE a q1];exact⟨.inr q1,q2⟩
 .have ha:=(mem a).1 ha
  have hfr:((r.come y).e a).fr=(g:Int):=hfr;rw[e1]at hfr;have hfr:(upd r.e x y a).fr=(g:Int):=hfr
  show upd r.fm f (x:Int) g=(a:Int)
  by_cases c:a=x
  .subst c
   rw[upd_same,hf]at hfr;have:g=f:=by omega
   subst this;rw[upd_same]
  .have ha:=ha.resolve_left c
   rw[aa _ _ c]at hfr;have h1:=h.fm2 g hg a ha hfr;have:¬g=f:=λe=>by subst e;omega
   rw[aa _ _ this];exact h1
 .show upd r.fm f (x:Int) g= -1\/∃a:Nat,upd r.fm f (x:Int) g=a
  by_cases c:g=f
  .subst c;rw[upd_same];exact .inr ⟨x,rfl⟩
  .rw[aa _ _ c];exact h.fm0 g hg
 .show(r.come y).mp p=some a↔a∈(r.come y).ids/\((r.come y).e a).fr<0/\(((r.come y).e a).pg:Int)=p
  rw[e7,mem,e1]
  show r.mp p=some a↔(a=x\/a∈r.ids)/\(upd r.e x y a).fr<0/\((upd r.e x y a).pg:Int)=p
  by_cases c:a=x
  .subst c
   rw[upd_same,hf];constructor
   .intro q;exact(hni ((h.mp p a).1 q).1).elim
   .rintro⟨_,q,_⟩;omega
  .rw[aa _ _ c,h.mp p a]
   constructor
   .rintro⟨q1,q2⟩;exact⟨.inr q1,q2⟩
   .rintro⟨q1,q2⟩;exact⟨q1.resolve_left c,q2⟩
 .show(r.come y).mc=_
  rw[e8,iE,if_neg (by omega)];exact h.mc
 .show(r.come y).ids.length+(r.come y).sp.length=2*n
  rw[len,e9]
  have e10:ac r.sp x=sp':=by
   rw[hs];unfold ac;have:=ah hns;unfold ac at this;rw[List.filter_cons,this];simp
  show _+(ac r.sp x).length=_
  rw[e10];have:=h.tot;rw[hs]at this;simp at this;omega
theorem size_eq(hk:PK n m s)(hm:PM n s):s.sizeN n=s.L.countP s.mayGo:=by
 have hp:s.L.Pairwise (λx y=>0<=x.fr->¬x.fr=y.fr):=by
  rw[List.pairwise_iff_getElem];intro i j hi hj hij hf e;have:=hk.uq i j _ _ (List.getElem?_eq_getElem hi) (List.getElem?_eq_getElem hj) (.inr ⟨e,hf⟩);omega
 have hnd:((s.L.filter s.mayGo).map (λe=>e.fr.toNat)).Nodup:=by
  refine List.pairwise_map.2 ((hp.sublist List.filter_sublist).imp_of_mem (λ{a b} ha hb hab e=>?_));have h1:=(List.mem_filter.1 ha).2;have h2:=(List.mem_filter.1 hb).2;unfold PrS.mayGo at h1 h2;simp only[Bool.and_eq_true,decide_eq_true_eq]at h1 h2;exact hab h1.1 (by omega)
 have hnd2:((List.range n).filter (λf=>decide (¬s.pg f=0)&&s.on f)).Nodup:=List.nodup_range.filter _
 have hperm:((List.range n).filter (λf=>decide (¬s.pg f=0)&&s.on f)).Perm ((s.L.filter s.mayGo).map (λe=>e.fr.toNat)):=by
  rw[List.perm_ext_iff_of_nodup hnd2 hnd];intro a;constructor
  .intro ha
   obtain⟨h1,h2⟩:=List.mem_filter.1 ha;simp only[Bool.and_eq_true,decide_eq_true_eq]at h2;obtain⟨x,hx,q1,q2⟩:=Ef hm (List.mem_range.1 h1) h2.1;refine List.mem_map.2 ⟨x,List.mem_filter.2 ⟨hx,?_⟩,by omega⟩;unfold PrS.mayGo;rw[q1,Int.toNat_natCast,h2.2];simp
  .intro ha
   obtain⟨x,hx,rfl⟩:=List.mem_map.1 ha;obtain⟨h1,h2⟩:=List.mem_filter.1 hx;unfold PrS.mayGo at h2;simp only[Bool.and_eq_true,decide_eq_true_eq]at h2;obtain⟨k,hk'⟩:=List.getElem?_of_mem h1;obtain⟨p1,p2,p3⟩:=uA hk hm hk' h2.1;refine List.mem_filter.2 ⟨List.mem_range.2 p1,?_⟩;simp only[Bool.and_eq_true,decide_eq_true_eq];exact⟨by omega,h2.2⟩
 have:=hperm.length_eq;unfold PrS.sizeN;rw[List.countP_eq_length_filter,this,List.length_map,List.countP_eq_length_filter]
end
end
section
open Go.Maps Go.Proofs.Tryz Go.RowKit
def PA(n b:Nat)(A:AP)(w:World)(s:PrS):Prop:=∃r,PC w b n A r/\Rf n r s
section
variable{w w':World}{b n m:Nat}{A:AP}{r:Raw}{s:PrS}{i x f:Nat}{y:En}
theorem PA.fr0(h:PA n b A w s)(f:Fr NoF w w'):PA n b A w' s:=by
 obtain⟨r,h1,h2⟩:=h;exact⟨r,h1.fr0 f,h2⟩
theorem PA.pgs(h:PA n b A w s)(g:Nat->Nat):PA n b A w {s with pg:=g}:=by
 obtain⟨r,h1,h2⟩:=h;exact⟨r,h1,h2.pgs g⟩
theorem eC(h:PA n b A w s)(hL:0<s.L.length){j:Nat}(hj:j<3):Calls prog 253 #[.pointer (some ⟨b,0,none⟩),.int .i64 j] w λe w'=>e=.returned (.tuple #[])/\PA n b A w' (s.mv j)/\Fr (FPr A b) w w':=by
 obtain⟨r,h1,h2⟩:=h;have hne:¬r.ids=[]:=λc=>by have:=h2.len;rw[c]at this;simp at this;rw[this]at hL;simp at hL
 have hh:=List.mem_of_getElem? (h2.rl.hands hj hne);exact(pj h1 hj hh).mono λe w' ⟨a1,a2,a3⟩=>⟨a1,⟨_,a2,h2.move j⟩,a3.mono (λi q=>.inl q)⟩
theorem jh(h:PA n b A w s)(hk:PK n m s)(hi:s.L[i]?=some y)(hf:y.fr=(f:Int))(hn:n<=65535):Calls prog 240 #[.pointer (some ⟨b,0,none⟩),.int .i64 f] w λe w'=>e=.returned (.tuple #[])/\PA n b A w' ((s.empty f).drop i)/\Fr (FPr A b) w w':=by
 obtain⟨r,h1,h2⟩:=h;obtain⟨x,hx,ex⟩:=h2.rl.id hi;subst ex;have hxm:=List.mem_of_getElem? hx;obtain⟨q1,q2,_,_⟩:=hk.el _ (aB hi);have hfn:f<n:=by omega
 have hfm:=h2.fm2 f hfn x hxm hf;have hx2:=h1.lists.2.2.1 x hxm;have hsz:=h2.size_le;have hht:=h2.hot_le;have HH:=Hd (zj h1 hfn x hfm);have HE:=Hd (qU h1 hfn hfm hx2 (λq=>h2.size_pos hxm q) (by omega));obtain⟨a1,a2,a3,a4,a5⟩:=hQ (r:=r) x false;obtain⟨b1,b2,b3,b4⟩:=iC (r:=r) x false
 have HD:Hid (∀W,PC W b n A (r.empty f x)->Calls prog 247 #[.pointer (some ⟨b,0,none⟩),.int .i64 x] W λe w'=>e=.returned (.tuple #[])/\PC w' b n A ((r.empty f x).pdrop x)/\Fr (FPr A b) W w'):=λW hW=>by
  have ee:(r.empty f x).e x={r.e x with fr:= -1}:=by show upd r.e x _ x=_;rw[upd_same]
  have eh:(r.empty f x).hot=r.hot:=b3;refine nR hW (by show x∈(r.setV x false).ids;rw[a3];exact hxm) (by rw[ee];exact q2.2) (λq=>?_) (by rw[eh];omega);rw[ee]at q;rw[eh];exact h2.hot_pos hxm q
 have HR:=Hd (h2.out hk hx hf);have c5:w.cell? ⟨b,5,none⟩=some (.slice (some ⟨A.fb,0,none⟩) n n):=h1.c 5 (by omega);have cf:=h1.cf hfn;rw[hfm]at cf;have g0:(0:Int)<=(f:Int):=by omega
 have g1:(f:Int)<(n:Int):=by omega
 clear hi hf hfm hx hxm q1 q2 hsz hht a1 a2 a3 a4 a5 b1 b2 b3 b4 h1 h2 hk;go_enter func240,ntmps240
 go_wp2_with(go_at_call 248;refine HH.out.mono ?_;rintro e w'⟨rfl,rfl⟩)
 refine HE.out.mono ?_;clear HE HH c5 cf;rintro e w1⟨rfl,h1,f1⟩;have HD1:=Hd (HD.out _ h1);have F1:=Hd f1;clear h1 f1 HD
 go_wp2_with fail
 refine HD1.out.mono ?_;clear HD1;rintro e w2⟨rfl,h2,f2⟩;have KEY:Hid (PA n b A w2 ((s.empty f).drop i)/\Fr (FPr A b) w w2):=⟨⟨_,h2,HR.out⟩,F1.out.trans f2 (λi q=>.inl q)⟩;clear h2 f2 HR;go_wp2;go_returns;exact⟨rfl,KEY.out⟩
theorem uJ(h1:PC w b n A r)(h2:Rf n r s)(hk:PK n m s)(hx:r.ids[i]?=some x)(hn:n<=65535):Calls prog 262 #[.pointer (some ⟨b,0,none⟩),.int .i64 x] w λe w'=>e=.returned (.bool (decide ((r.e x).fr<0)))/\PA n b A w' (s.ends i (r.e x))/\Fr (FPr A b) w w':=by
 have hi:=h2.get hx;have hxm:=List.mem_of_getElem? hx;obtain⟨q1,q2,_,_⟩:=hk.el _ (aB hi);have hx2:=h1.lists.2.2.1 x hxm;have hht:=h2.hot_le;have hgl:=hk.gl;have hgo:=h2.goal;have c1:w.cell? ⟨b,1,none⟩=some (.slice (some ⟨A.eb,0,none⟩) (2*n) (2*n)):=h1.c 1 (by omega);have c7:w.cell? ⟨b,7,none⟩=some (.int .i64 (r.goal:Nat)):=h1.c 7 (by omega);obtain⟨_,x1,_,_,x4,_⟩:=h1.ce hx2;have fe:=λi=>h1.en.frozen i
 have fb:=h1.hd.frozen 7;have lb:=h1.hd.lt;have le:=h1.en.lt;obtain⟨n1,_,_,_,_,_,_⟩:=h1.lb.ne;have n1':¬b=A.eb:=λe=>n1 e.symm
 have g0:(0:Int)<=(x:Int):=by omega
 have g1:(x:Int)<2*(n:Int):=by omega
 have g2:1<=(r.goal:Int):=by omega
 have g3:(r.goal:Int)<=140000:=by omega
 have h3:=h2.goals (max (s.goal-1) 1);have h4:Rf n {r with goal:=max (s.goal-1) 1,e:=upd r.e x {r.e x with test:=false},hot:=r.hot} (s.less.put i {r.e x with test:=false}):=h3.put (y:={r.e x with test:=false}) hx rfl rfl rfl
 have HP:Hid (∀z:Int,z=((max (s.goal-1) 1:Nat):Int)->PC ((w.setCell ⟨b,7,none⟩ (.int .i64 z)).setCell ⟨A.eb,x*6+4,none⟩ (.bool false)) b n A {r with goal:=max (s.goal-1) 1,e:=upd r.e x {r.e x with test:=false}}/\Fr (FPr A b) w ((w.setCell ⟨b,7,none⟩ (.int .i64 z)).setCell ⟨A.eb,x*6+4,none⟩ (.bool false))):=λz ez=>by
  subst ez;have a1:=h1.setHead (r':={r with goal:=max (s.goal-1) 1}) (kt _ _ _ _ _) rfl;exact⟨a1.setEn (r':={r with goal:=max (s.goal-1) 1,e:=upd r.e x {r.e x with test:=false}}) (vD r.e r.v x false) rfl,((Fr.refl (FPr A b) w).setCell (p:=⟨b,7,none⟩) (.inl (.inl rfl)) _).setCell (p:=⟨A.eb,x*6+4,none⟩) (.inl (.inr (.inl rfl))) _⟩
 have hg1:1<=max (s.goal-1) 1:=by omega
 have hg2:r.goal<=max (s.goal-1) 1+1:=by omega
 have hg3:max (s.goal-1) 1=1\/max (s.goal-1) 1+1=r.goal:=by omega
 by_cases hf:(r.e x).fr<0
 .have HD:Hid (∀W,PC W b n A {r with goal:=max (s.goal-1) 1,e:=upd r.e x {r.e x with test:=false}}->Calls prog 247 #[.pointer (some ⟨b,0,none⟩),.int .i64 x] W λe w'=>e=.returned (.tuple #[])/\PA n b A w' (s.ends i (r.e x))/\Fr (FPr A b) W w'):=λW hW=>by
   have h5:=h4.ghost (i:=i) (x:=x) hx (by show(upd r.e x _ x).fr<0;rw[upd_same];exact hf);rw[lR]at h5;refine(nR hW (x:=x) hxm (by show(upd r.e x _ x).pg<_;rw[upd_same];exact q2.2) (λq=>?_) (by show r.hot<=_;omega)).mono λe w' ⟨b1,b2,b3⟩=>⟨b1,⟨_,b2,by unfold PrS.ends;rw[if_pos hf];exact h5⟩,b3⟩
   have q:(upd r.e x {r.e x with test:=false} x).hot=true:=q;rw[upd_same]at q;exact h2.hot_pos hxm q
  have hm1:(r.e x).fr= -1:=by omega
  rw[show decide ((r.e x).fr<0)=true from by simpa using hf];rw[hm1]at x1;clear h3 h4 h1 h2 hk hi hxm q1 q2 hx hf hm1 hgl hgo;generalize max (s.goal-1) 1=gg at*;go_enter func262,ntmps262;have HX:=Hd λz (ez:z=(gg:Int))=>(HD.out _ (HP.out z ez).1).mono λe w' ⟨k,h5,f5⟩=>And.intro k (And.intro h5 ((HP.out z ez).2.trans f5 (λi q=>.inl q)))
  clear HD HP
  go_wp2_with fail
  all_goals
   refine(HX.out _ (by omega)).mono ?_;clear HX;rintro e w2⟨rfl,h5⟩;have KEY:=Hd h5;clear h5 hg1 hg2 hg3;go_wp2;go_returns;exact⟨rfl,KEY.out⟩
 .have HE:Hid (∀W,PC W b n A {r with goal:=max (s.goal-1) 1,e:=upd r.e x {r.e x with test:=false}}->PA n b A W (s.ends i (r.e x))):=λW hW=>⟨_,hW,by unfold PrS.ends;rw[if_neg hf];exact h4⟩
  have hm1:((r.e x).fr== -1)=false:=by simp;omega
  rw[show decide ((r.e x).fr<0)=false from by simpa using hf];clear h3 h4 h1 h2 hk hi hxm q1 q2 hx hf hgl hgo;generalize max (s.goal-1) 1=gg at*;go_enter func262,ntmps262
  go_wp2_with fail
  all_goals
   have KEY:=Hd λz (ez:z=(gg:Int))=>And.intro (HE.out _ (HP.out z ez).1) (HP.out z ez).2
   clear HE HP;go_returns;exact⟨rfl,KEY.out _ (by omega)⟩
end
section
variable{w w':World}{b n m:Nat}{A:AP}{r:Raw}{s:PrS}{i x f:Nat}{y:En}
theorem x9{g:Nat}{st fin:PrS}(h:cz g st=some fin)(h0:¬st.hotN=0)(hy:st.L[st.hd 0]?=some y):∃g',g=g'+1/\((aF st y).2=true->fin=(aF st y).1)/\((aF st y).2=false->cz g' (aF st y).1=some fin):=by
 cases g with
 |zero=>cases h
 |succ g=>
  unfold cz at h;rw[if_neg h0,hy]at h;simp only at h;refine⟨g,rfl,λe=>?_,λe=>?_⟩
  .rw[if_pos e]at h;simpa using h.symm
  .rw[if_neg (by simp[e])]at h;exact h
theorem xc{g:Nat}{st fin:PrS}(h:cz g st=some fin)(h0:st.hotN=0):fin=st:=by
 cases g with
 |zero=>cases h
 |succ g=>unfold cz at h;rw[if_pos h0]at h;simpa using h.symm
theorem sI(h:PA n b A w s)(hk:PK n m s)(h0:¬s.hotN=0)(hn:n<=65535):Calls prog 255 #[.pointer (some ⟨b,0,none⟩)] w λe w'=>e=.returned (.tuple #[])/\PA n b A w' s.work/\Fr (FPr A b) w w':=by
 obtain⟨k0,hk0⟩:=jo hk h0;have H:=Hd h;have HK:=Hd hk;have HK0:=Hd hk0;clear h hk h0 hk0;generalize s.work=fin at*;go_enter func255,ntmps255
 go_wp2_with fail
 go_loopg [] k0 (λg wr=>∃st,PA n b A wr st/\PK n m st/\cz g st=some fin/\Fr (FPr A b) w wr)
 case atStart=>exact⟨s,H.out,HK.out,HK0.out,Fr.refl _ _⟩
 case round=>
  obtain⟨st,h1,hk1,ho,f1⟩:=hrel;obtain⟨r,hc,hr⟩:=h1;clear H HK HK0;have c8:wr.cell? ⟨b,8,none⟩=some (.int .i64 (r.hot:Nat)):=hc.c 8 (by omega);have hht:=hr.hot_le;have F1:=Hd f1;by_cases hz:st.hotN=0
  .have hfin:=xc ho hz
   have hrz:r.hot=0:=by rw[hr.hot];exact hz
   rw[hrz]at c8;have KEY:Hid (PA n b A wr fin/\Fr (FPr A b) w wr):=⟨by rw[hfin];exact⟨r,hc,hr⟩,f1⟩;clear hz hfin hrz hc hr hk1 ho f1 F1;go_wp2;go_returns;exact⟨rfl,KEY.out⟩
  .obtain⟨y,hy⟩:=hk1.at (ir hz) (j:=0) (by omega)
   obtain⟨hxm,hx,ex⟩:=hr.rl.at (j:=0) (by omega) hy;obtain⟨g',eg,st1,st2⟩:=x9 ho hz hy;have hgk:=Hd eg;obtain⟨q1,q2,q3,q4⟩:=hk1.el y (aB hy);obtain⟨pk2,kp2,_⟩:=cM hk1 hy;have hlen:0<st.L.length:=ir hz;have hrp:(0:Int)<(r.hot:Int):=by have:=hr.hot;omega
   have hr1:1<=r.hot:=by omega
   have c1:wr.cell? ⟨b,1,none⟩=some (.slice (some ⟨A.eb,0,none⟩) (2*n) (2*n)):=hc.c 1 (by omega);have c2:wr.cell? ⟨b,2,none⟩=some (.int .i64 (r.h 0:Nat)):=hc.hand (j:=0) (by omega);have hx2:=hc.lists.2.2.1 _ hxm;obtain⟨_,x1,x2,x3,x4,_⟩:=hc.ce hx2;rw[ex]at x1 x2 x3 x4;have fe:=λi=>hc.en.frozen i
   have fb8:=hc.hd.frozen 8;have lb:=hc.hd.lt;have le:=hc.en.lt;obtain⟨n1,_,_,_,_,_,_⟩:=hc.lb.ne;have n1':¬b=A.eb:=λe=>n1 e.symm
   have g0:(0:Int)<=(r.h 0:Int):=by omega
   have g1:(r.h 0:Int)<2*(n:Int):=by omega
   have HC:=Hd hc;have HR:=Hd hr;have HXX:=Hd hx;have HEX:=Hd ex;have HY:=Hd hy;have HPK1:=Hd hk1;clear hc hr hx ex hk1 ho f1 hz eg hxm;unfold aF at st1 st2 pk2;by_cases hh:y.hot=true
   .rw[if_pos hh]at st1 st2 pk2
    rw[hh]at x2;by_cases hrf:y.ref=true
    .rw[if_pos hrf]at st2 pk2
     rw[hrf]at x3;have S2:=Hd (st2 rfl);have PK2:=Hd pk2
     have HP:Hid (PA n b A (wr.setCell ⟨A.eb,r.h 0*6+3,none⟩ (.bool false)) (st.put (st.hd 0) {y with ref:=false})/\Fr (FPr A b) w (wr.setCell ⟨A.eb,r.h 0*6+3,none⟩ (.bool false))):=by
      refine⟨⟨{r with e:=upd r.e (r.h 0) {r.e (r.h 0)with ref:=false}},HC.out.setEn (r':={r with e:=upd r.e (r.h 0) {r.e (r.h 0)with ref:=false}}) (sL r.e r.v _ false) rfl,?_⟩,F1.out.setCell (p:=⟨A.eb,r.h 0*6+3,none⟩) (.inl (.inr (.inl rfl))) _⟩;have:=HR.out.put (y:={r.e (r.h 0)with ref:=false}) (z:=r.hot) HXX.out rfl rfl rfl;rw[HEX.out]at this⊢;exact this
     have HM:=Hd (eC (j:=0) HP.out.1 (by show 0<(st.L.set _ _).length;rw[List.length_set];exact hlen) (by omega));clear st1 st2 pk2 hh hrf q3 q4 HC HR HXX HEX HY HPK1 kp2
     go_wp2_with fail
     refine HM.out.mono ?_;clear HM;rintro e w2⟨rfl,h2,f2⟩;have H2:=Hd h2;have F2:=Hd (HP.out.2.trans f2 (λi q=>.inl q));clear h2 f2 HP;go_wp2
     go_roundg g'
     case measure=>have:=hgk.out;omega
     case rel=>exact⟨_,H2.out,PK2.out,S2.out,F2.out⟩
    .have hrf:y.ref=false:=by simpa using hrf
     rw[if_neg (by simp[hrf])]at st1;rw[hrf]at x3;have S1:=Hd (st1 rfl)
     have HP:Hid (PA n b A ((wr.setCell ⟨A.eb,r.h 0*6+2,none⟩ (.bool false)).setCell ⟨b,8,none⟩ (.int .i64 ((r.hot:Int)-1))) (st.put (st.hd 0) {y with hot:=false})/\Fr (FPr A b) w ((wr.setCell ⟨A.eb,r.h 0*6+2,none⟩ (.bool false)).setCell ⟨b,8,none⟩ (.int .i64 ((r.hot:Int)-1)))):=by
      have e8:(r.hot:Int)-1=((r.hot-1:Nat):Int):=by omega
      rw[e8];have a1:=HC.out.setEn (r':={r with e:=upd r.e (r.h 0) {r.e (r.h 0)with hot:=false}}) (yy r.e r.v _ false) rfl;have a2:=a1.setHead (r':={r with e:=upd r.e (r.h 0) {r.e (r.h 0)with hot:=false},hot:=r.hot-1}) (j6 _ _ _ _ _) rfl;refine⟨⟨_,a2,?_⟩,(F1.out.setCell (p:=⟨A.eb,r.h 0*6+2,none⟩) (.inl (.inr (.inl rfl))) _).setCell (p:=⟨b,8,none⟩) (.inl (.inl rfl)) _⟩;have:=HR.out.put (y:={r.e (r.h 0)with hot:=false}) (z:=r.hot-1) HXX.out rfl rfl (by rw[HEX.out,hh];simp;omega);rw[HEX.out]at this⊢;exact this
     have HM:=Hd (eC (j:=0) HP.out.1 (by show 0<(st.L.set _ _).length;rw[List.length_set];exact hlen) (by omega));clear st1 st2 pk2 hh hrf q3 q4 HC HR HXX HEX HY HPK1 kp2
     go_wp2_with fail
     refine HM.out.mono ?_;clear HM;rintro e w2⟨rfl,h2,f2⟩;have KEY:Hid (PA n b A w2 fin/\Fr (FPr A b) w w2):=⟨by rw[S1.out];exact h2,HP.out.2.trans f2 (λi q=>.inl q)⟩;clear h2 f2 HP;go_wp2;go_returns;exact⟨rfl,KEY.out⟩
   .have hh:y.hot=false:=by simpa using hh
    rw[if_neg (by simp[hh])]at st1 st2 pk2;rw[hh]at x2;by_cases ht:y.test=true
    .rw[if_pos ht]at st2 pk2
     rw[ht]at x4;have HF0:=uJ HC.out HR.out HPK1.out HXX.out hn;rw[HEX.out]at HF0;by_cases hg:y.fr<0
     .rw[if_pos hg]at st2 pk2
      rw[show decide (y.fr<0)=true from by simpa using hg]at HF0;have HF:=Hd HF0;have S2:=Hd (st2 rfl);have PK2:=Hd pk2;clear HF0 st1 st2 pk2 hh ht hg q3 q4 HC HR HXX HEX HY HPK1 kp2 q1
      go_wp2_with fail
      refine HF.out.mono ?_;clear HF;rintro e w2⟨rfl,h2,f2⟩;have H2:=Hd h2;have F2:=Hd (F1.out.trans f2 (λi q=>.inl q));clear h2 f2;go_wp2
      go_roundg g'
      case measure=>have:=hgk.out;omega
      case rel=>exact⟨_,H2.out,PK2.out,S2.out,F2.out⟩
     .rw[if_neg hg]at st2 pk2
      rw[show decide (y.fr<0)=false from by simpa using hg]at HF0;have HF:=Hd HF0;have S2:=Hd (st2 rfl);have PK2:=Hd pk2;have hl2:0<(st.ends (st.hd 0) y).L.length:=by unfold PrS.ends;rw[if_neg hg];show 0<(st.L.set _ _).length;rw[List.length_set];exact hlen
      clear HF0 st1 st2 pk2 hh ht hg q3 q4 HC HR HXX HEX HY HPK1 kp2 q1
      go_wp2_with fail
      refine HF.out.mono ?_;clear HF;rintro e w2⟨rfl,h2,f2⟩;have HM:=Hd (eC (j:=0) h2 hl2 (by omega));have F2:=Hd (F1.out.trans f2 (λi q=>.inl q));clear h2 f2
      go_wp2_with fail
      refine HM.out.mono ?_;clear HM;rintro e w3⟨rfl,h3,f3⟩;have H3:=Hd h3;have F3:=Hd (F2.out.trans f3 (λi q=>.inl q));clear h3 f3;go_wp2
      go_roundg g'
      case measure=>have:=hgk.out;omega
      case rel=>exact⟨_,H3.out,PK2.out,S2.out,F3.out⟩
    .have ht:y.test=false:=by simpa using ht
     rw[if_neg (by simp[ht])]at st2 pk2;rw[ht]at x4;have S2:=Hd (st2 rfl);have PK2:=Hd pk2;have HM:=Hd (eC (j:=0) (⟨r,HC.out,HR.out⟩:PA n b A wr st) hlen (by omega));clear st1 st2 pk2 hh ht q3 q4 HC HR HXX HEX HY HPK1 kp2 q1
     go_wp2_with fail
     refine HM.out.mono ?_;clear HM;rintro e w3⟨rfl,h3,f3⟩;have H3:=Hd h3;have F3:=Hd (F1.out.trans f3 (λi q=>.inl q));clear h3 f3;go_wp2
     go_roundg g'
     case measure=>have:=hgk.out;omega
     case rel=>exact⟨_,H3.out,PK2.out,S2.out,F3.out⟩
end
end
end Go.Proofs.YtoenclhimbpfeaaGreatDoor
