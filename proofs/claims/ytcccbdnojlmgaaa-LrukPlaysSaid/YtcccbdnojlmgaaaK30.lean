/- Part 30. -/
import Derived.Test.YtcccbdnojlmgaaaK29
namespace Go.Proofs.Ytcccbdnojlmgaaa
set_option linter.all false
set_option maxHeartbeats 16000000
set_option maxRecDepth 100000
section
open Go.Maps Go.RowKit
section
variable{K near kept n kk:Nat}{s:S5}{t:LK}{fr:List Nat}
def ltK(x y:Nat×Nat):Prop:=x.1<y.1∨(x.1=y.1∧x.2<y.2)
theorem may_ok{all:Bool}{f:Nat}(h:s.may near all f=true):okF s.page s.on f=true:=by
 unfold S5.may at h;rw[Bool.and_eq_true]at h;exact h.1
theorem may_true(f:Nat):s.may near true f=okF s.page s.on f:=by
 unfold S5.may;simp
theorem key_one(hi:Inv5 K kept n s){f g:Nat}(hf:okF s.page s.on f=true)(hg:okF s.page s.on g=true)(e:(s.key K f).2=(s.key K g).2):f=g:=by
 have p1:¬s.pg f=0:=by rw[okF_pg]at hf;intro q;simp[q]at hf
 have p2:¬s.pg g=0:=by rw[okF_pg]at hg;intro q;simp[q]at hg
 have g1:=hi.fp f p1;have g2:=hi.fp g p2;unfold S5.key S5.pa at e
 cases ef:getP s.ps (s.pg f)with
 |none=>rw[ef]at g1;cases g1
 |some a=>
  cases eg:getP s.ps (s.pg g)with
  |none=>rw[eg]at g2;cases g2
  |some b=>
   rw[ef,eg]at e;have e:a.l=b.l:=e;obtain⟨m1,q1⟩:=getP_mem ef;obtain⟨m2,q2⟩:=getP_mem eg;obtain⟨i,hi1,e1⟩:=List.mem_iff_getElem.1 m1;obtain⟨j,hj1,e2⟩:=List.mem_iff_getElem.1 m2;have hij:i=j:=nd_at hi.ls (a:=a.l) (by simp[hi1,e1]) (by simp[hj1,e2,e]);subst hij;have hab:a=b:=e1.symm.trans e2;exact hi.inj f g (by rw[<-q1,<-q2,hab]) p1
theorem best_some(hi:Inv5 K kept n s)(all:Bool):∀(m f:Nat),s.bestF K near all m=some f->f<m∧s.may near all f=true∧∀g,g<m->s.may near all g=true->f=g∨ltK (s.key K f) (s.key K g)
 |0,f,h=>by cases h
 |m+1,f,h=>by
  unfold S5.bestF at h;by_cases hm:s.may near all m=true
  .rw[if_pos hm]at h
   cases e:s.bestF K near all m with
   |none=>
    rw[e]at h
    injection h with h
    subst h;refine⟨Nat.lt_succ_self _,hm,fun g hg hg2=>?_⟩;by_cases eg:g=m
    .exact .inl eg.symm
    .exact(best_none hi all m e g (by omega) hg2).elim
   |some o=>
    rw[e]at h;obtain⟨b1,b2,b3⟩:=best_some hi all m o e;simp only at h;by_cases hw:s.worse K m o=true
    .rw[if_pos hw]at h
     injection h with h
     subst h;refine⟨by omega,b2,fun g hg hg2=>?_⟩;by_cases eg:g=m
     .subst eg
      right
      unfold S5.worse at hw;simp only[Bool.or_eq_true,Bool.and_eq_true,decide_eq_true_eq]at hw;unfold ltK;omega
     .exact b3 g (by omega) hg2
    .rw[if_neg hw]at h
     injection h with h
     subst h;unfold S5.worse at hw;simp only[Bool.or_eq_true,Bool.and_eq_true,decide_eq_true_eq,not_or,not_and]at hw
     have hne:¬(s.key K m).2=(s.key K o).2:=fun q=>by
      have:=key_one hi (may_ok hm) (may_ok b2) q;omega
     have hlt:ltK (s.key K m) (s.key K o):=by
      unfold ltK;obtain⟨w1,w2⟩:=hw;by_cases e1:(s.key K m).1=(s.key K o).1
      .have:=w2 e1;omega
      .omega
     refine⟨Nat.lt_succ_self _,hm,fun g hg hg2=>?_⟩;by_cases eg:g=m
     .exact .inl eg.symm
     .right
      rcases b3 g (by omega) hg2 with rfl|q
      .exact hlt
      .unfold ltK at*;omega
  .rw[if_neg hm]at h
   obtain⟨b1,b2,b3⟩:=best_some hi all m f h;refine⟨by omega,b2,fun g hg hg2=>?_⟩;by_cases eg:g=m
   .subst eg;exact(hm hg2).elim
   .exact b3 g (by omega) hg2
where best_none (hi:Inv5 K kept n s) (all:Bool):∀(m:Nat),s.bestF K near all m=none->∀g,g<m->¬s.may near all g=true
 |0,_,g,hg=>by omega
 |m+1,h,g,hg=>by
  unfold S5.bestF at h;by_cases hm:s.may near all m=true
  .rw[if_pos hm]at h
   cases e:s.bestF K near all m with
   |none=>rw[e]at h;cases h
   |some o=>rw[e]at h;simp only at h;split at h<;>cases h
  .rw[if_neg hm]at h
   by_cases eg:g=m
   .subst eg;exact hm
   .exact best_none hi all m h g (by omega)
theorem best_none'(hi:Inv5 K kept n s)(all:Bool)(m:Nat)(h:s.bestF K near all m=none)(g:Nat)(hg:g<m):¬s.may near all g=true:=best_some.best_none hi all m h g hg
theorem far_may(h:RS5 K near kept n kk s t fr)(x:Nat):(farK t.R (farOf t) x)=if s.may near false x=true then some ((((s.key K x).1:Nat):Int),(((s.key K x).2:Nat):Int))else none:=by
 unfold farK farOf;rw[h.R x,h.T,h.tr];unfold keyD S5.may;by_cases hok:okF s.page s.on x=true
 .rw[if_pos hok,hok]
  simp only[Bool.true_and,Bool.false_or]
  have e:((((s.key K x).2:Nat):Int)<=(s.T:Int)-near)↔near<s.T+1-(s.pa x).l:=by
   show((((s.pa x).l:Nat):Int)<=(s.T:Int)-near)↔_
   omega
  by_cases q:near<s.T+1-(s.pa x).l
  .have q1:=e.2 q
   simp only[q,decide_true,if_true];simp only[q1,decide_true,if_true]
  .have q1:¬((((s.key K x).2:Nat):Int)<=(s.T:Int)-near):=fun z=>q (e.1 z)
   simp only[q,decide_false,Bool.false_eq_true,if_false];simp only[q1,decide_false,Bool.false_eq_true,if_false]
 .rw[if_neg hok]
  have:okF s.page s.on x=false:=by simpa using hok
  rw[this];simp
theorem least_of{L:Nat->Option (Int×Int)}{M:Nat->Bool}{key:Nat->Nat×Nat}{m f:Nat}(hL:∀x,L x=if M x=true then some ((((key x).1:Nat):Int),(((key x).2:Nat):Int))else none)(hM:∀x,M x=true->x<m)(hf:M f=true)(hb:∀g,g<m->M g=true->f=g∨ltK (key f) (key g)):LeastK L f:=by
 refine⟨((key f).1:Nat),((key f).2:Nat),by rw[hL,if_pos hf],fun y c d hy=>?_⟩;rw[hL]at hy;by_cases hy2:M y=true
 .rw[if_pos hy2]at hy
  injection hy with hy
  injection hy with h1 h2
  rcases hb y (hM y hy2) hy2 with rfl|q
  .right;exact⟨h1,.inr ⟨h2,Nat.le_refl _⟩⟩
  .unfold ltK at q;omega
 .rw[if_neg hy2]at hy;cases hy
theorem may_lt(hi:Inv5 K kept n s){all:Bool}{x:Nat}(h:s.may near all x=true):x<n:=okF_lt hi (may_ok h)
theorem sim_vic(h:RS5 K near kept n kk s t fr):(∃x,s.vic K near n=some x∧okF s.page s.on x=true∧Goes t x∧0<t.t)∨(s.vic K near n=none∧t.t=0):=by
 have hpos:∀x,okF s.page s.on x=true->0<t.t:=fun x hx=>by
  rw[h.t,h.tn];exact cntR_pos _ (okF_lt h.inv hx) (by rw[h.R,keyD_some];exact hx)
 unfold S5.vic
 cases e:s.bestF K near false n with
 |some f=>
  obtain⟨b1,b2,b3⟩:=best_some h.inv false n f e;refine .inl ⟨f,rfl,may_ok b2,.inl (least_of (M:=s.may near false) (far_may h) (fun x q=>may_lt h.inv q) b2 b3),hpos f (may_ok b2)⟩
 |none=>
  have hno:=best_none' h.inv false n e
  have hfn:∀z,farK t.R (farOf t) z=none:=fun z=>by
   rw[far_may h,if_neg];intro q;exact hno z (may_lt h.inv q) q
  have hfr:∀z,freshK t.R (farOf t) z=keyD K s z:=fun z=>by
   have:=hfn z;unfold farK at this;unfold freshK
   cases ez:farOf t z with
   |true=>
    rw[ez]at this;simp only[if_true]at this⊢;rw[<-h.R];exact this.symm
   |false=>simp only[Bool.false_eq_true,if_false];exact h.R z
  cases e2:s.bestF K near true n with
  |some f=>
   obtain⟨b1,b2,b3⟩:=best_some h.inv true n f e2;refine .inl ⟨f,rfl,may_ok b2,.inr ⟨hfn,least_of (M:=s.may near true) (fun x=>?_) (fun x q=>may_lt h.inv q) b2 b3⟩,hpos f (may_ok b2)⟩;rw[hfr x,may_true];rfl
  |none=>
   have hno2:=best_none' h.inv true n e2;refine .inr ⟨rfl,?_⟩;rw[h.t,h.tn,cntR_cntF _ s.page s.on (fun f=>by rw[h.R,keyD_some])];unfold cntF;rw[List.length_eq_zero_iff,List.filter_eq_nil_iff];intro z hz q;exact hno2 z (List.mem_range.1 hz) (by rw[may_true];exact q)
theorem cnt0(h:RS5 K near kept n kk s t fr):t.t=0↔cntF s.page s.on s.page.length=0:=by rw[h.cnt]
theorem vic_gone(h:RS5 K near kept n kk s t fr){a:Nat}(hok:okF s.page s.on a=true):RS5 K near kept n (kk+1) (s.gone kept a) ({vicS t a t.Fa with Fa:=fun _=>false}) (fr.set a 0):=by
 have ha:=okF_lt h.inv hok;have hp:¬s.pg a=0:=by rw[okF_pg]at hok;intro q;simp[q]at hok
 have hal:a<s.page.length:=by rw[h.inv.pn];exact ha
 have hpg:∀f,(s.gone kept a).pg f=if f=a then 0 else s.pg f:=fun f=>pg_set hal
 have hI:=h.inv.gone ha hp;have hpa:=h.fp a hp;have hOl:t.Old.length=s.old.length:=by rw[<-h.O];simp
 have hOm:(t.Old++[(s.pg a,t.gone+1)]).map (·.1)=s.old++[s.pg a]:=by rw[List.map_append,h.O];rfl
 have hhd:((t.Old++[(s.pg a,t.gone+1)]).headD (0,0)).1=(s.old++[s.pg a]).getD 0 0:=by
  rw[<-hOm];cases t.Old<;>rfl
 have hold:∀x∈s.old++[s.pg a],∀f,¬f=a->¬s.pg f=x:=fun x hx f e=>by
  rcases List.mem_append.1 hx with q|q
  .exact(h.inv.op x q).2.2 f
  .rw[List.mem_singleton.1 q];intro q2;exact e (h.inv.inj f a q2 (by rw[q2];exact hp))
 have hx0:(s.old++[s.pg a]).getD 0 0∈s.old++[s.pg a]:=by cases s.old<;>simp
 have hps:∀f,¬f=a->getP (s.gone kept a).ps (s.pg f)=getP s.ps (s.pg f):=fun f e=>by
  show getP (if kept<s.old.length+1 then dropP s.ps ((s.old++[s.pg a]).getD 0 0)else s.ps) (s.pg f)=_
  split
  .rw[getP_drop_other _ (hold _ hx0 f e)]
  .rfl
 have hokf:∀f,okF (s.gone kept a).page (s.gone kept a).on f=if f=a then false else okF s.page s.on f:=fun f=>by
  rw[okF_on hI f,okF_on h.inv f]
  show upd s.on a false f=_
  by_cases e:f=a
  .subst e;rw[upd_same,if_pos rfl]
  .rw[upd_other _ _ e,if_neg e]
 have hkd:∀f,keyD K (s.gone kept a) f=updK t.R a none f:=fun f=>by
  unfold keyD;rw[hokf];by_cases e:f=a
  .subst e;rw[if_pos rfl,updK_same];rfl
  .rw[if_neg e,updK_other _ _ e,h.R]
   unfold keyD S5.key S5.pa;rw[hpg,if_neg e,hps f e]
 obtain⟨v1,v2,v3,v4,v5,v6⟩:=vic_facts t a t.Fa
 have w:(vicS t a t.Fa).n=t.n∧(vicS t a t.Fa).k=t.k∧(vicS t a t.Fa).kept=t.kept∧(vicS t a t.Fa).fr=updF t.fr a (false,(t.fr a).2)∧(vicS t a t.Fa).t=t.t-1:=by
  unfold vicS remS
  split<;>exact⟨rfl,rfl,rfl,rfl,rfl⟩
 obtain⟨w1,w2,w3,w4,w5⟩:=w
 have w6:(vicS t a t.Fa).Old=if kept<s.old.length+1 then(t.Old++[(s.pg a,t.gone+1)]).tail else t.Old++[(s.pg a,t.gone+1)]:=by
  unfold vicS remS;rw[hpa];by_cases hk:kept<s.old.length+1
  .rw[if_pos hk,if_pos (by show t.kept<(t.Old++[(s.pg a,t.gone+1)]).length;rw[h.tp];simp;omega)]
  .rw[if_neg hk,if_neg (by show¬t.kept<(t.Old++[(s.pg a,t.gone+1)]).length;rw[h.tp];simp;omega)]
 have w7:(vicS t a t.Fa).P=if kept<s.old.length+1 then updO t.P ((s.old++[s.pg a]).getD 0 0) none else t.P:=by
  unfold vicS remS;rw[hpa];by_cases hk:kept<s.old.length+1
  .rw[if_pos hk,if_pos (by show t.kept<(t.Old++[(s.pg a,t.gone+1)]).length;rw[h.tp];simp;omega)]
   show updO t.P ((t.Old++[(s.pg a,t.gone+1)]).headD (0,0)).1 none=_
   rw[hhd]
  .rw[if_neg hk,if_neg (by show¬t.kept<(t.Old++[(s.pg a,t.gone+1)]).length;rw[h.tp];simp;omega)]
 refine⟨hI,by show s.page.set a 0=fr.set a 0;rw[h.pf],w1.trans h.tn,w2.trans h.tk,v3.trans h.tr,w3.trans h.tp,v2.trans h.T,Nat.le_succ_of_le h.b,?_,fun f=>?_,fun f q=>?_,fun x=>?_,fun f=>?_,?_,?_⟩
 .show(vicS t a t.Fa).gone<=kk+1
  rw[v4];exact Nat.succ_le_succ h.g
 .show((vicS t a t.Fa).fr f).1=_
  rw[w4,hpg];by_cases e:f=a
  .subst e;rw[updF_same,if_pos rfl];simp
  .rw[updF_other _ _ e,if_neg e];exact h.fr f
 .show((vicS t a t.Fa).fr f).2=_
  rw[hpg]at q⊢;rw[w4];by_cases e:f=a
  .rw[if_pos e]at q;exact(q rfl).elim
  .rw[if_neg e]at q⊢;rw[updF_other _ _ e];exact h.fp f q
 .show(vicS t a t.Fa).P x=(getP (if kept<s.old.length+1 then dropP s.ps ((s.old++[s.pg a]).getD 0 0)else s.ps) x).map pastD
  rw[w7];by_cases hk:kept<s.old.length+1
  .rw[if_pos hk,if_pos hk]
   by_cases e:x=(s.old++[s.pg a]).getD 0 0
   .rw[<-e,updO_same,getP_drop_same];rfl
   .rw[updO_other _ _ e,getP_drop_other _ e];exact h.P x
  .rw[if_neg hk,if_neg hk];exact h.P x
 .show(vicS t a t.Fa).R f=_
  rw[v1,hkd]
 .show(vicS t a t.Fa).Old.map (·.1)=if kept<s.old.length+1 then(s.old++[s.pg a]).drop 1 else s.old++[s.pg a]
  rw[w6];by_cases hk:kept<s.old.length+1
  .rw[if_pos hk,if_pos hk,List.map_tail,hOm,List.drop_one]
  .rw[if_neg hk,if_neg hk,hOm]
 .show(vicS t a t.Fa).t=cntR (vicS t a t.Fa).R (vicS t a t.Fa).n
  rw[w5,v1,w1,h.tn,cntR_drop _ ha,h.t,h.tn];have:(t.R a).isSome=true:=by rw[h.R,keyD_some];exact hok
  rw[this];rfl
theorem sim_remove(h:RS5 K near kept n kk s t fr){a x:Nat}(ha:a<n)(hx:fr[a]?=some x)(h1:1<=x):RS5 K near kept n kk (s.remove a) ({remvS t a with Fa:=fun _=>false}) (fr.set a 0):=by
 have hp:¬s.pg a=0:=by rw[pg_at h hx];omega
 have hal:a<s.page.length:=by rw[h.inv.pn];exact ha
 have hpg:∀f,(s.remove a).pg f=if f=a then 0 else s.pg f:=fun f=>pg_set hal
 have hI:=h.inv.remove ha hp;have hpa:=h.fp a hp
 have hokf:∀f,okF (s.remove a).page (s.remove a).on f=if f=a then false else okF s.page s.on f:=fun f=>by
  rw[okF_on hI f,okF_on h.inv f]
  show upd s.on a false f=_
  by_cases e:f=a
  .subst e;rw[upd_same,if_pos rfl]
  .rw[upd_other _ _ e,if_neg e]
 have hkd:∀f,keyD K (s.remove a) f=updK t.R a none f:=fun f=>by
  unfold keyD;rw[hokf];by_cases e:f=a
  .subst e;rw[if_pos rfl,updK_same];rfl
  .rw[if_neg e,updK_other _ _ e,h.R]
   unfold keyD;by_cases hok:okF s.page s.on f=true
   .rw[if_pos hok,if_pos hok]
    have hpf:¬s.pg f=0:=by rw[okF_pg]at hok;intro q;simp[q]at hok
    have hne:¬s.pg f=s.pg a:=fun q=>e (h.inv.inj f a q hpf)
    have hps:getP (s.remove a).ps (s.pg f)=getP s.ps (s.pg f):=getP_drop_other _ hne;unfold S5.key S5.pa;rw[hpg,if_neg e,hps]
   .rw[if_neg hok,if_neg hok]
 refine⟨hI,by show s.page.set a 0=fr.set a 0;rw[h.pf],h.tn,h.tk,h.tr,h.tp,h.T,h.b,h.g,fun f=>?_,fun f q=>?_,fun x=>?_,fun f=>(hkd f).symm,h.O,?_⟩
 .show(updF t.fr a (false,(t.fr a).2) f).1=_
  rw[hpg];by_cases e:f=a
  .subst e;rw[updF_same,if_pos rfl];simp
  .rw[updF_other _ _ e,if_neg e];exact h.fr f
 .show(updF t.fr a (false,(t.fr a).2) f).2=_
  rw[hpg]at q⊢;by_cases e:f=a
  .rw[if_pos e]at q;exact(q rfl).elim
  .rw[if_neg e]at q⊢;rw[updF_other _ _ e];exact h.fp f q
 .show updO t.P (t.fr a).2 none x=(getP (dropP s.ps (s.pg a)) x).map pastD
  rw[hpa];by_cases e:x=s.pg a
  .rw[e,updO_same,getP_drop_same];rfl
  .rw[updO_other _ _ e,getP_drop_other _ e];exact h.P x
 .show lessN t.t (t.R a).isSome=cntR (updK t.R a none) t.n
  rw[cntR_drop _ (by rw[h.tn];exact ha),h.t]
theorem RS5.mono(h:RS5 K near kept n kk s t fr):RS5 K near kept n (kk+1) s t fr:=
 {h with b:=Nat.le_succ_of_le h.b,g:=Nat.le_succ_of_le h.g}
end
theorem sim5(K near kept n:Nat)(hn:n<1000)(hkept:kept<1000):SimSysK (polD K near kept n) polL pre5 n (RS5 K near kept n) where
 mono:=fun h=>h.mono
 len:=fun h=>by rw[<-h.pf];exact h.inv.pn
 size:=fun{k s t fr} h=>⟨h.cnt,by
  show cntF s.page s.on s.page.length<1000000
  have:=cntF_le s.page s.on s.page.length;have:=h.inv.pn;omega⟩
 ghosts:=fun{k s t fr} h=>⟨by show(t.Old.map (·.1)).Perm s.old;rw[h.O],h.inv.od,by have:=h.inv.ok2;show s.old.length<1000000;omega⟩
 miss:=fun{k s t fr id} h _ _ _=>⟨⟨fun q=>(by cases q),fun q=>(by cases q),fun q=>(by cases q),fun q=>(by cases q)⟩,h⟩
 access:=fun{k s t fr a id} h hk ha hx h1 h2=>⟨⟨fun _=>⟨by show a<t.n;rw[h.tn];exact ha,h2,by have:=h.b;rw[h.T];omega⟩,fun q=>(by cases q),fun q=>(by cases q),fun q=>(by cases q)⟩,sim_access h ha hx h1⟩
 set:=fun{k s t fr a x} v h hk ha hx h1=>⟨⟨fun q=>(by cases q),fun _=>⟨by show a<t.n;rw[h.tn];exact ha,by show(t.fr a).1=true;rw[h.fr,pg_at h hx];simp;omega,by have:=h.b;rw[h.T];omega⟩,fun q=>(by cases q),fun q=>(by cases q)⟩,sim_set h ha hx h1 v⟩
 victim:=fun{k s t fr id} h _ _ _=>by
  show polL.victim t id=s.vic K near n
  rcases sim_vic h with⟨x,e,_,hg,h0⟩|⟨e,h0⟩
  .rw[e];exact(goes_some h0 hg).1
  .rw[e];exact if_pos h0
 none:=fun{k s t fr id} h hk _ _ _=>⟨by
  show s.vic K near n=none↔cntF s.page s.on s.page.length=0
  rw[<-cnt0 h];rcases sim_vic h with⟨x,e,_,hg,h0⟩|⟨e,h0⟩
  .rw[e];constructor
   .intro q;cases q
   .intro q;omega
  .rw[e];exact⟨fun _=>h0,fun _=>rfl⟩,pre_vic h hk⟩
 gone:=fun{k s t fr a id} h hk _ _ _ hv=>by
  have hv:s.vic K near n=some a:=hv;rcases sim_vic h with⟨x,e,hok,hg,h0⟩|⟨e,h0⟩
  .rw[e]at hv
   injection hv with hv
   subst hv;refine⟨okF_lt h.inv hok,pre_vic h hk,?_⟩
   have e1:(polD K near kept n).gone s id=s.gone kept x:=by
    show(match s.vic K near n with|none=>s|some f=>s.gone kept f)=_
    rw[e]
   rw[e1,(goes_some (page:=id) h0 hg).2];exact vic_gone h hok
  .rw[e]at hv;cases hv
 remove:=fun{k s t fr a x} h ha hx h1=>⟨⟨fun q=>(by cases q),fun q=>(by cases q),fun q=>(by cases q),fun _=>⟨by show a<t.n;rw[h.tn];exact ha,by show(t.fr a).1=true;rw[h.fr,pg_at h hx];simp;omega⟩⟩,sim_remove h ha hx h1⟩
where pre_vic {k:Nat} {s:S5} {t:LK} {fr:List Nat} {c:Cl} (h:RS5 K near kept n k s t fr) (hk:k<10000) (h3:¬c.kind=1:=by intro q;cases q) (h4:¬c.kind=2:=by intro q;cases q) (h5:¬c.kind=4:=by intro q;cases q):pre5 t c:=
 ⟨fun q=>(h3 q).elim,fun q=>(h4 q).elim,fun _=>⟨by have:=h.b;rw[h.T];omega,by have:=h.g;omega,fun x hx=>by
  have hok:okF s.page s.on x=true:=by rw[h.R,keyD_some]at hx;exact hx
  have hp:¬s.pg x=0:=by rw[okF_pg]at hok;intro q;simp[q]at hok
  refine⟨by rw[h.tn];exact okF_lt h.inv hok,?_⟩;rw[h.fp x hp,oldK_none];intro p hp2 e;have hm:s.pg x∈s.old:=by rw[<-h.O,<-e];exact List.mem_map.2 ⟨p,hp2,rfl⟩
  exact(h.inv.op _ hm).2.2 x rfl⟩,fun q=>(h5 q).elim⟩
end
end Go.Proofs.Ytcccbdnojlmgaaa
