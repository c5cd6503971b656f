/- Part 28. -/
import Derived.Test.YtipopinjppjnfaaGreatDoorK27
import Derived.Test.YtipopinjppjnfaaGreatDoorK26
namespace Go.Proofs.YtipopinjppjnfaaGreatDoor
set_option linter.all false
set_option maxHeartbeats 16000000
set_option maxRecDepth 100000
section
open Go.RowKit
section
variable{n m:Nat}{s s' fin:PrS}{i j:Nat}{x y:En}
theorem again_K(h:PK n m s)(hx:s.L[i]?=some x)(e1:y.pg=x.pg)(e2:y.fr=x.fr)(a b:Nat):((s.drop i).lay y).K a b↔s.K a b:=by
 rw[lay_K,drop_K h hx];constructor
 .rintro(⟨q1,q2⟩|⟨q,_⟩)
  .exact⟨x,mem_get hx,by rw[<-e2];exact q1,by rw[<-e1];exact q2⟩
  .exact q
 .rintro⟨z,hz,q1,q2⟩
  by_cases e:x.fr=a
  .left
   obtain⟨k,hk⟩:=List.getElem?_of_mem hz;have:=h.uq i k x z hx hk (.inr ⟨by rw[e,q1],by omega⟩);subst this;rw[hx]at hk;cases hk
   exact⟨by rw[e2];exact q1,by rw[e1];exact q2⟩
  .exact .inr ⟨⟨z,hz,q1,q2⟩,e⟩
def En.turn(x:En):En:={x with ref:=false,hot:=x.test,test:=!x.test}
theorem turn_pre(h:PK n m s)(hx:s.L[i]?=some x)(hf:0<=x.fr):PK n m (((s.mv 1).drop i).lay x.turn)∧Kept s (((s.mv 1).drop i).lay x.turn):=by
 have h1:=h.mv (by have:=get_lt hx;omega) 1;have hx':(s.mv 1).L[i]?=some x:=hx;refine⟨h1.again (y:=x.turn) hx' rfl rfl hf (fun q=>?_),lay_pg.1,lay_pg.2.1,?_,fun a b=>again_K (y:=x.turn) h1 hx' rfl rfl a b⟩
 .have q:x.test=true:=q
  show(!x.test)=false
  rw[q];rfl
 .have e1:=lay_gone (s:=(s.mv 1).drop i) (x:=x.turn)
  have e2:=drop_gone hx';have e3:x.turn.fr=x.fr:=rfl;have e4:(s.mv 1).gone=s.gone:=rfl;rw[e3]at e1;omega
theorem turn_ok(h:PK n m s)(hx:s.L[i]?=some x)(hf:0<=x.fr):PK n m (s.turn n i x)∧Kept s (s.turn n i x):=by
 obtain⟨k1,k2⟩:=turn_pre h hx hf;obtain⟨_,k3,k4⟩:=cool_ok k1;exact⟨k3,k2.trans k4⟩
theorem send_pre(h:PK n n s)(hm:PM n s)(hx:s.L[i]?=some x)(hf:0<=x.fr)(hr:x.ref=false)(ht:x.test=true):
  PK n (n+1) (((s.mv 1).empty x.fr.toNat).put i {x with fr:= -1})∧PM n (((s.mv 1).empty x.fr.toNat).put i {x with fr:= -1}):=by
 have hi:=get_lt hx;have h1:=h.mv (by omega) 1;obtain⟨q1,q2,q3,q4⟩:=h.el x (mem_get hx)
 have hh:x.hot=false:=by cases e:x.hot with
  |false=>rfl
  |true=>have:=q4 e;rw[ht]at this;cases this
 have hx':((s.mv 1).empty x.fr.toNat).L[i]?=some x:=hx
 have hk:∀(a b:Nat),(((s.mv 1).empty x.fr.toNat).put i {x with fr:= -1}).K a b↔s.K a b∧¬x.fr=a:=by
  intro a b;constructor
  .rintro⟨z,hz,p1,p2⟩
   obtain⟨k,hk⟩:=List.getElem?_of_mem hz;have hk:(s.L.set i {x with fr:= -1})[k]?=some z:=hk;rw[List.getElem?_set]at hk;by_cases e:i=k
   .rw[if_pos e,if_pos (by omega)]at hk
    cases hk
    have p1:(-1:Int)=a:=p1;omega
   .rw[if_neg e]at hk
    exact⟨⟨z,mem_get hk,p1,p2⟩,fun q=>e (h.uq i k x z hx hk (.inr ⟨by rw[q,p1],hf⟩))⟩
  .rintro⟨⟨z,hz,p1,p2⟩,hne⟩
   obtain⟨k,hk⟩:=List.getElem?_of_mem hz;have e:¬i=k:=by rintro rfl;rw[hx]at hk;cases hk;exact hne p1
   exact⟨z,List.mem_of_getElem? (i:=k) (by show(s.L.set i _)[k]?=_;rw[List.getElem?_set,if_neg e];exact hk),p1,p2⟩
 have ex:((x.fr.toNat:Nat):Int)=x.fr:=by omega
 refine⟨⟨fun j hj=>.inl ?_,set_uq h.uq hx rfl (.inr (by show(-1:Int)<0;omega)),fun z hz=>?_,?_,h.gl,h.n1⟩,fun a b k=>?_,fun f hf' k=>?_⟩
 .show(s.mv 1).hd j<(s.L.set i _).length
  rw[List.length_set];exact h1.lt (by show 0<s.L.length;omega) hj
 .rcases set_mem hz with rfl|hz
  .exact⟨⟨by show(-1:Int)≤-1;omega,by show(-1:Int)<n;omega⟩,q2,fun _=>⟨ht,hr⟩,q4⟩
  .exact h.el z hz
 .have e:=countP_set (p:=fun e:En=>decide (e.fr<0)) (y:={x with fr:= -1}) hx
  have h2:=h.ng;unfold PrS.gone at h2⊢
  show(s.L.set i _).countP _<=n+1
  simp only[show decide (x.fr<0)=false from by simp;omega]at e;simp at e;omega
 .obtain⟨k1,k2⟩:=(hk a b).1 k
  show upd s.pg x.fr.toNat 0 a=b
  rw[upd_other _ _ (by omega)];exact hm.pf a b k1
 .show upd s.pg x.fr.toNat 0 f=0∧upd s.on x.fr.toNat false f=false
  by_cases e:f=x.fr.toNat
  .subst e;exact⟨upd_same ..,upd_same ..⟩
  .rw[upd_other _ _ e,upd_other _ _ e]
   exact hm.p0 f hf' (fun b q=>k b ((hk f b).2 ⟨q,by omega⟩))
theorem send_ok(h:PK n n s)(hm:PM n s)(hx:s.L[i]?=some x)(hf:0<=x.fr)(hr:x.ref=false):
  PK n n (s.send n i x)∧PM n (s.send n i x)∧(s.send n i x).pg=upd s.pg x.fr.toNat 0∧(s.send n i x).on=upd s.on x.fr.toNat false:=by
 unfold PrS.send;by_cases ht:x.test=true
 .rw[if_pos ht]
  obtain⟨k1,k2⟩:=send_pre h hm hx hf hr ht;obtain⟨_,k3,k4⟩:=tests_ok k1;exact⟨k3,k2.kept k4,k4.pg,k4.on⟩
 .rw[if_neg ht]
  have h1:=h.mv (by have:=get_lt hx;omega) 1;have hm1:PM n (s.mv 1):=hm.of rfl rfl (fun _ _=>Iff.rfl);exact⟨(h1.empty _).drop hx,hm1.out h1 hx hf,rfl,rfl⟩
theorem idle_not(h:PK n m s)(hx:s.L[i]?=some x)(hi:¬s.idle x=true):0<=x.fr∧x.hot=false∧(x.ref=false->s.on x.fr.toNat=true):=by
 unfold PrS.idle at hi
 cases h1:x.hot
 .cases h2:decide (x.fr<0)
  .refine⟨by simpa using h2,rfl,fun h3=>?_⟩
   rw[h1,h2,h3]at hi;simpa using hi
  .rw[h2]at hi;simp at hi
 .rw[h1]at hi;simp at hi
def VicOk(n:Nat)(s:PrS)(r:PrS×Option Nat):Prop:=
 PK n n r.1∧PM n r.1∧match r.2 with
 |none=>Kept s r.1
 |some f=>f<n∧¬s.pg f=0∧s.on f=true∧r.1.pg=upd s.pg f 0∧r.1.on=upd s.on f false
theorem pg_of(h:PK n m s)(hm:PM n s)(hx:s.L[i]?=some x)(hf:0<=x.fr):x.fr.toNat<n∧s.pg x.fr.toNat=x.pg∧1<=x.pg:=by
 obtain⟨q1,q2,_,_⟩:=h.el x (mem_get hx);exact⟨by omega,hm.pf _ _ ⟨x,mem_get hx,by omega,rfl⟩,q2.1⟩
theorem vicL_ok:∀(k:Nat) {s:PrS},PK n n s->PM n s->VicOk n s (vicL n k s)
 |0,s,h,hm=>⟨h,hm,Kept.refl s⟩
 |k+1,s,h,hm=>by
  unfold vicL
  cases hx:s.L[s.hd 1]? with
  |none=>exact⟨h,hm,Kept.refl s⟩
  |some x=>
   have hi:=get_lt hx;simp only;by_cases hd:s.idle x=true
   .rw[if_pos hd]
    have hm1:PM n (s.mv 1):=hm.of rfl rfl (fun _ _=>Iff.rfl);obtain⟨q1,q2,q3⟩:=vicL_ok k (h.mv (by omega) 1) hm1;refine⟨q1,q2,?_⟩
    cases e:(vicL n k (s.mv 1)).2 with
    |none=>rw[e]at q3;exact⟨q3.pg,q3.on,q3.gn,q3.K⟩
    |some f=>rw[e]at q3;exact q3
   .rw[if_neg hd]
    obtain⟨hf,hh,ho⟩:=idle_not h hx hd;by_cases hr:x.ref=true
    .rw[if_pos hr]
     obtain⟨t1,t2⟩:=turn_ok h hx hf;obtain⟨q1,q2,q3⟩:=vicL_ok k t1 (hm.kept t2);refine⟨q1,q2,?_⟩
     cases e:(vicL n k (s.turn n (s.hd 1) x)).2 with
     |none=>rw[e]at q3;exact t2.trans q3
     |some f=>rw[e]at q3;simp only at q3⊢;rw[t2.pg,t2.on]at q3;exact q3
    .rw[if_neg hr]
     have hr':x.ref=false:=by simpa using hr
     obtain⟨k1,k2,k3,k4⟩:=send_ok h hm hx hf hr';obtain⟨p1,p2,p3⟩:=pg_of h hm hx hf;exact⟨k1,k2,p1,by omega,ho hr',k3,k4⟩
theorem K_of(hm:PM n s){f:Nat}(hf:f<n)(hp:¬s.pg f=0):s.K f (s.pg f):=by
 refine Classical.byContradiction fun q=>hp (hm.p0 f hf (fun b k=>?_)).1
 have:=hm.pf f b k;rw[this]at q;exact q k
theorem size_pos(h:¬s.sizeN n=0):∃f,f<n∧(¬s.pg f=0)∧s.on f=true:=by
 unfold PrS.sizeN at h;rw[List.countP_eq_zero]at h;refine Classical.byContradiction fun q=>h (fun f hf hd=>q ⟨f,List.mem_range.1 hf,?_⟩)
 simpa using hd
theorem size_zero(h:s.sizeN n=0){f:Nat}(hf:f<n)(hp:¬s.pg f=0):s.on f=false:=by
 unfold PrS.sizeN at h;rw[List.countP_eq_zero]at h;have:=h f (List.mem_range.2 hf);simpa[hp]using this
theorem first_ok(h:PK n m s)(hm:PM n s)(hz:¬s.sizeN n=0):∃e∈s.L,(s.rot 1).find? s.mayGo=some e∧s.first=e.fr.toNat∧0<=e.fr∧s.first<n∧(¬s.pg s.first=0)∧s.on s.first=true:=by
 obtain⟨f,hf,hp,ho⟩:=size_pos hz;obtain⟨x,hx,e1,e2⟩:=K_of hm hf hp
 have hmr:x∈s.rot 1:=by
  unfold PrS.rot;rw[<-List.take_append_drop (s.hd 1) s.L]at hx;exact List.mem_append.2 ((List.mem_append.1 hx).symm)
 have hgo:s.mayGo x=true:=by
  unfold PrS.mayGo;rw[e1];simp[ho]
 cases e:(s.rot 1).find? s.mayGo with
 |none=>rw[List.find?_eq_none]at e;exact(e x hmr hgo).elim
 |some y=>
  have hy:=List.mem_of_find?_eq_some e;have hg:=List.find?_some e
  have hyL:y∈s.L:=by
   unfold PrS.rot at hy;rw[<-List.take_append_drop (s.hd 1) s.L];exact List.mem_append.2 ((List.mem_append.1 hy).symm)
  have hfirst:s.first=y.fr.toNat:=by
   unfold PrS.first;unfold PrS.rot at e;rw[e]
  unfold PrS.mayGo at hg;simp only[Bool.and_eq_true,decide_eq_true_eq]at hg;obtain⟨k,hk⟩:=List.getElem?_of_mem hyL;obtain⟨p1,p2,p3⟩:=pg_of h hm hk hg.1;exact⟨y,hyL,rfl,hfirst,hg.1,by omega,by rw[hfirst];omega,by rw[hfirst];exact hg.2⟩
theorem ofF_some{f:Nat}(e:s.ofF f=some i):∃x,s.L[i]?=some x∧x.fr=f:=by
 obtain⟨h1,h2,_⟩:=List.findIdx?_eq_some_iff_getElem.1 e;exact⟨_,List.getElem?_eq_getElem h1,by simpa using h2⟩
theorem ofF_none{f:Nat}(e:s.ofF f=none):∀x∈s.L,¬x.fr=f:=by
 intro x hx q;have:=List.findIdx?_eq_none_iff.1 e x hx;simp[q]at this
theorem ofG_some{p:Nat}(e:s.ofG p=some i):∃x,s.L[i]?=some x∧x.fr= -1∧x.pg=p:=by
 obtain⟨h1,h2,_⟩:=List.findIdx?_eq_some_iff_getElem.1 e;exact⟨_,List.getElem?_eq_getElem h1,by simpa using h2⟩
theorem ofG_none{p:Nat}(e:s.ofG p=none):∀x∈s.L,x.fr= -1->¬x.pg=p:=by
 intro x hx q q2;have:=List.findIdx?_eq_none_iff.1 e x hx;simp[q,q2]at this
theorem ofF_of(hm:PM n s){f:Nat}(hf:f<n)(hp:¬s.pg f=0):∃i x,s.ofF f=some i∧s.L[i]?=some x∧x.fr=f:=by
 obtain⟨x,hx,e1,_⟩:=K_of hm hf hp
 cases e:s.ofF f with
 |none=>exact(ofF_none e x hx e1).elim
 |some i=>obtain⟨y,h1,h2⟩:=ofF_some e;exact⟨i,y,rfl,h1,h2⟩
theorem rem_ok(h:PK n n s)(hm:PM n s){f:Nat}(hf:f<n)(hp:¬s.pg f=0):PK n n (s.rem f)∧PM n (s.rem f)∧(s.rem f).pg=upd s.pg f 0∧(s.rem f).on=upd s.on f false:=by
 obtain⟨i,x,e,hx,ef⟩:=ofF_of hm hf hp;have e2:f=x.fr.toNat:=by omega
 unfold PrS.rem;rw[e];simp only;refine⟨(h.empty f).drop hx,?_,rfl,rfl⟩;rw[e2];exact hm.out h hx (by omega)
theorem upd_self{α:Type}(c:Nat->α)(i:Nat)(v:α)(h:c i=v):upd c i v=c:=by
 funext j
 by_cases e:j=i
 .subst e;rw[upd_same,h]
 .rw[upd_other _ _ e]
theorem access_old(h:PK n n s)(hm:PM n s){a id:Nat}(ha:a<n)(hp:s.pg a=id)(h1:1<=id):
  PK n n (s.access n a id)∧PM n (s.access n a id)∧(s.access n a id).pg=upd s.pg a id∧(s.access n a id).on=s.on∧∃i x,s.ofF a=some i∧s.L[i]?=some x∧x.fr=a∧s.access n a id={s with pg:=upd s.pg a id}.put i {x with ref:=true}:=by
 obtain⟨i,x,e,hx,ef⟩:=ofF_of hm ha (by omega);obtain⟨q1,q2,q3,q4⟩:=h.el x (mem_get hx)
 have ea:s.access n a id={s with pg:=upd s.pg a id}.put i {x with ref:=true}:=by
  unfold PrS.access;simp only[e,hx]
 have es:({s with pg:=upd s.pg a id}:PrS)=s:=by rw[upd_self _ _ _ hp]
 refine⟨?_,?_,by rw[ea];rfl,by rw[ea];rfl,i,x,e,hx,ef,ea⟩
 .rw[ea,es];exact h.put (y:={x with ref:=true}) hx rfl rfl (fun q=>by have q:x.fr<0:=q;omega) q4
 .rw[ea,es];exact hm.put (y:={x with ref:=true}) hx rfl rfl
theorem come_PM(hm:PM n s){a id:Nat}{s1:PrS}(e1:s1.pg=upd s.pg a id)(e2:s1.on=s.on)(hk:∀(c b:Nat),s1.K c b↔(a=c∧id=b)∨s.K c b)(ha:a<n)(hp:s.pg a=0)(hno:∀b,¬s.K a b):PM n s1:=by
 refine⟨fun c b k=>?_,fun f hf k=>?_⟩
 .rw[e1]
  rcases(hk c b).1 k with⟨q1,q2⟩|q
  .subst q1 q2;exact upd_same ..
  .have:¬c=a:=fun e=>hno b (e▸q)
   rw[upd_other _ _ this];exact hm.pf c b q
 .have:¬f=a:=fun e=>k id ((hk f id).2 (.inl ⟨e.symm,rfl⟩))
  rw[e1,e2,upd_other _ _ this];exact hm.p0 f hf (fun b q=>k b ((hk f b).2 (.inr q)))
theorem no_K(h:PK n m s)(hm:PM n s){a:Nat}(hp:s.pg a=0):∀b,¬s.K a b:=by
 intro b k;have e:=hm.pf a b k;obtain⟨x,hx,e1,e2⟩:=k;have:=(h.el x hx).2.1.1;omega
theorem ofF_no(h:PK n m s)(hm:PM n s){a:Nat}(hp:s.pg a=0):s.ofF a=none:=by
 cases e:s.ofF a with
 |none=>rfl
 |some i=>
  obtain⟨x,hx,e1⟩:=ofF_some e;exact(no_K h hm hp x.pg ⟨x,mem_get hx,e1,rfl⟩).elim
theorem access_new(h:PK n n s)(hm:PM n s){a id:Nat}(ha:a<n)(hp:s.pg a=0)(h1:1<=id)(h2:id<4294967296)(hni:∀f,f<n->¬s.pg f=id):
  PK n n (s.access n a id)∧PM n (s.access n a id)∧(s.access n a id).pg=upd s.pg a id∧(s.access n a id).on=s.on:=by
 have hof:=ofF_no h hm hp;have hno:=no_K h hm hp
 have hfr:∀y∈s.L,0<=y.fr->¬y.pg=id:=fun y hy hf q=>by
  obtain⟨k,hk⟩:=List.getElem?_of_mem hy;obtain⟨p1,p2,_⟩:=pg_of h hm hk hf;exact hni _ p1 (by rw[p2];exact q)
 unfold PrS.access;rw[hof];simp only
 cases e:s.ofG id with
 |none=>
  simp only;have hpk:PK n n {s with pg:=upd s.pg a id}:=⟨h.hl,h.uq,h.el,h.ng,h.gl,h.n1⟩;refine⟨hpk.lay ⟨⟨by show(-1:Int)<=(a:Int);omega,by show(a:Int)<n;omega⟩,⟨h1,h2⟩,fun q=>by have q:(a:Int)<0:=q;omega,fun q=>by cases q⟩ (by show(0:Int)<=a;omega) (fun y hy=>⟨fun q=>?_,fun q=>ofF_none hof y hy q⟩),?_,lay_pg.1,lay_pg.2.1⟩
  .by_cases hg:0<=y.fr
   .exact hfr y hy hg q
   .exact ofG_none e y hy (by have:=(h.el y hy).1;omega) q
  .refine come_PM hm (a:=a) (id:=id) lay_pg.1 lay_pg.2.1 (fun c b=>?_) ha hp hno
   rw[lay_K];constructor
   .rintro(⟨q1,q2⟩|q)
    .have q1:(a:Int)=c:=q1
     exact .inl ⟨by omega,q2⟩
    .exact .inr q
   .rintro(⟨q1,q2⟩|q)
    .exact .inl ⟨by show(a:Int)=c;omega,q2⟩
    .exact .inr q
 |some i=>
  obtain⟨g,hg,g1,g2⟩:=ofG_some e;simp only;have hpk:PK n n {s with pg:=upd s.pg a id,goal:=min (s.goal+1) (max (n-1) 1)}:=⟨h.hl,h.uq,h.el,h.ng,by have:=h.gl;show 1<=min (s.goal+1) (max (n-1) 1)∧min (s.goal+1) (max (n-1) 1)<=_;omega,h.n1⟩;have hd:=hpk.drop (i:=i) (x:=g) hg
  have hl:PK n n (({s with pg:=upd s.pg a id,goal:=min (s.goal+1) (max (n-1) 1)}.drop i).lay ⟨id,a,true,false,false⟩):=by
   refine hd.lay ⟨⟨by show(-1:Int)<=(a:Int);omega,by show(a:Int)<n;omega⟩,⟨h1,h2⟩,fun q=>by have q:(a:Int)<0:=q;omega,fun q=>rfl⟩ (by show(0:Int)<=a;omega) (fun y hy=>⟨fun q=>?_,fun q=>ofF_none hof y (List.mem_of_mem_eraseIdx hy) q⟩);have hyL:y∈s.L:=List.mem_of_mem_eraseIdx hy;obtain⟨k,hk⟩:=List.getElem?_of_mem hy;have hk:(s.L.eraseIdx i)[k]?=some y:=hk;rw[eraseIdx_get]at hk;have q:y.pg=id:=q
   split at hk
   .have:=h.uq i k g y hg hk (.inl (by omega));omega
   .have:=h.uq i (k+1) g y hg hk (.inl (by omega));omega
  obtain⟨_,c1,c2⟩:=cool_ok hl;refine⟨c1,?_,c2.pg.trans lay_pg.1,c2.on.trans lay_pg.2.1⟩;refine PM.kept (come_PM (s1:=({s with pg:=upd s.pg a id,goal:=min (s.goal+1) (max (n-1) 1)}.drop i).lay ⟨id,a,true,false,false⟩) hm (a:=a) (id:=id) lay_pg.1 lay_pg.2.1 (fun c b=>?_) ha hp hno) c2;rw[lay_K,drop_K hpk hg];constructor
  .rintro(⟨q1,q2⟩|⟨q,_⟩)
   .have q1:(a:Int)=c:=q1
    exact .inl ⟨by omega,q2⟩
   .exact .inr q
  .rintro(⟨q1,q2⟩|q)
   .exact .inl ⟨by show(a:Int)=c;omega,q2⟩
   .exact .inr ⟨q,by omega⟩
theorem nd_frames(h:PK n m s):((s.L.filter (fun e=>decide (0<=e.fr))).map (fun e=>e.fr.toNat)).Nodup:=by
 have hp:s.L.Pairwise (fun x y=>0<=x.fr->¬x.fr=y.fr):=by
  rw[List.pairwise_iff_getElem];intro i j hi hj hij hf e;have:=h.uq i j _ _ (List.getElem?_eq_getElem hi) (List.getElem?_eq_getElem hj) (.inr ⟨e,hf⟩);omega
 have h2:=hp.sublist (List.filter_sublist (p:=fun e:En=>decide (0<=e.fr)));refine List.pairwise_map.2 (h2.imp_of_mem (fun{a b} ha hb hab e=>?_));have:=(List.mem_filter.1 ha).2;have:=(List.mem_filter.1 hb).2;simp at*;exact hab (by omega) (by omega)
theorem countP_two(l:List En):l.countP (fun e=>decide (0<=e.fr))+l.countP (fun e=>decide (e.fr<0))=l.length:=by
 induction l with
 |nil=>rfl
 |cons a l ih=>
  by_cases q:0<=a.fr
  .have q2:¬a.fr<0:=by omega
   simp[List.countP_cons,q,q2];omega
  .have q2:a.fr<0:=by omega
   simp[List.countP_cons,q,q2];omega
theorem empty_lt(h:PK n n s)(hm:PM n s){a:Nat}(ha:a<n)(hp:s.pg a=0):s.L.length<2*n:=by
 have h1:=nd_frames h;have hno:=no_K h hm hp
 have h2:((s.L.filter (fun e=>decide (0<=e.fr))).map (fun e=>e.fr.toNat)).length+1<=n:=by
  have:=List.Nodup.length_le_of_subset (l₁:=a::(s.L.filter (fun e=>decide (0<=e.fr))).map (fun e=>e.fr.toNat)) (l₂:=List.range n) (List.nodup_cons.2 ⟨fun q=>by
   obtain⟨e,he,q⟩:=List.mem_map.1 q;obtain⟨h1,h2⟩:=List.mem_filter.1 he;simp at h2;exact hno e.pg ⟨e,h1,by omega,rfl⟩,h1⟩) (fun y hy=>by
   rcases List.mem_cons.1 hy with rfl|hy
   .exact List.mem_range.2 ha
   .obtain⟨e,he,rfl⟩:=List.mem_map.1 hy
    obtain⟨h1,h2⟩:=List.mem_filter.1 he;simp at h2;have:=(h.el e h1).1;exact List.mem_range.2 (by omega))
  simpa using this
 have:=countP_two s.L;have h4:=h.ng;unfold PrS.gone at h4;rw[List.length_map,<-List.countP_eq_length_filter]at h2;omega
end
theorem split_at{l:List Nat}{i x:Nat}(h:l[i]?=some x):l=l.take i++x::l.drop (i+1):=by
 have hi:i<l.length:=(List.getElem?_eq_some_iff.1 h).1;have e:l[i]=x:=by rw[List.getElem?_eq_getElem hi]at h;simpa using h
 have:=List.take_append_drop i l;rw[List.drop_eq_getElem_cons hi,e]at this;exact this.symm
theorem not_before{l:List Nat}{i x:Nat}(hn:l.Nodup)(h:l[i]?=some x):(¬x∈l.take i)∧¬x∈l.drop (i+1):=by
 rw[split_at h,List.nodup_append]at hn;exact⟨fun q=>hn.2.2 x q x (List.mem_cons_self ..) rfl,(List.nodup_cons.1 hn.2.1).1⟩
theorem awayN_erase{l:List Nat}{i x:Nat}(hn:l.Nodup)(h:l[i]?=some x):awayN l x=l.eraseIdx i:=by
 obtain⟨q1,q2⟩:=not_before hn h;rw[List.eraseIdx_eq_take_drop_succ];have e:=split_at h
 have:awayN (l.take i++x::l.drop (i+1)) x=l.take i++l.drop (i+1):=by
  have a1:=awayN_not q1;have a2:=awayN_not q2;unfold awayN at*;rw[List.filter_append,List.filter_cons,a1,a2];simp
 rw[<-e]at this;exact this
theorem insL_at{l:List Nat}{i x o:Nat}(hn:l.Nodup)(h:l[i]?=some o):insL l x o=l.take i++x::l.drop i:=by
 have e:=split_at h;have hi:i<l.length:=(List.getElem?_eq_some_iff.1 h).1;have q:=(not_before hn h).1;have h1:insL (l.take i++o::l.drop (i+1)) x o=l.take i++x::o::l.drop (i+1):=insL_eq q;rw[<-e]at h1;rw[h1];have e2:l[i]=o:=by rw[List.getElem?_eq_getElem hi]at h;simpa using h
 rw[List.drop_eq_getElem_cons hi,e2]
theorem idx_at{l:List Nat}{i x:Nat}(hn:l.Nodup)(h:l[i]?=some x):l.idxOf x=i:=by
 have hi:i<l.length:=(List.getElem?_eq_some_iff.1 h).1;have e:=split_at h;have q:=(not_before hn h).1;have:(l.take i++x::l.drop (i+1)).idxOf x=(l.take i).length:=idxOf_mid q;rw[<-e,List.length_take]at this;omega
theorem nd_inj{l:List Nat}{i j x:Nat}(hn:l.Nodup)(h:l[i]?=some x)(k:l[j]?=some x):i=j:=by
 rw[<-idx_at hn h,<-idx_at hn k]
theorem nxt_at{l:List Nat}{i x:Nat}(hn:l.Nodup)(h:l[i]?=some x):l[(i+1)%l.length]?=some (nxt l x):=by
 have hi:i<l.length:=(List.getElem?_eq_some_iff.1 h).1;unfold nxt;rw[idx_at hn h];by_cases e:i+1<l.length
 .rw[Nat.mod_eq_of_lt e,List.getElem?_eq_getElem e]
 .have:i+1=l.length:=by omega
  rw[this,Nat.mod_self,List.getElem?_eq_none (Nat.le_refl _)]
  cases l with
  |nil=>simp at hi
  |cons a l=>simp
structure RL(ids:List Nat)(h:Nat->Nat)(e:Nat->En)(L:List En)(hd:Nat->Nat):Prop where
 L:L=ids.map e
 nd:ids.Nodup
 hd:ids=[]∨∀j,j<3->ids[hd j]?=some (h j)
section
variable{ids:List Nat}{h:Nat->Nat}{e:Nat->En}{L:List En}{hd:Nat->Nat}{i x:Nat}{r:Raw}{s:PrS}
theorem RL.len(q:RL ids h e L hd):L.length=ids.length:=by rw[q.L,List.length_map]
theorem RL.get(q:RL ids h e L hd)(hx:ids[i]?=some x):L[i]?=some (e x):=by rw[q.L,List.getElem?_map,hx];rfl
theorem RL.id(q:RL ids h e L hd){y:En}(hy:L[i]?=some y):∃x,ids[i]?=some x∧e x=y:=by
 rw[q.L,List.getElem?_map]at hy
 cases hx:ids[i]? with
 |none=>rw[hx]at hy;cases hy
 |some x=>rw[hx]at hy;exact⟨x,rfl,by simpa using hy⟩
theorem RL.hands(q:RL ids h e L hd){j:Nat}(hj:j<3)(hne:¬ids=[]):ids[hd j]?=some (h j):=(q.hd.resolve_left hne) j hj
theorem RL.at(q:RL ids h e L hd){j:Nat}(hj:j<3){y:En}(hy:L[hd j]?=some y):h j∈ids∧ids[hd j]?=some (h j)∧e (h j)=y:=by
 obtain⟨x,hx,ex⟩:=q.id hy;have hne:¬ids=[]:=fun c=>by rw[c]at hx;cases hx
 have:=q.hands hj hne;rw[this]at hx;simp only[Option.some.injEq]at hx;exact⟨List.mem_of_getElem? this,this,by rw[hx];exact ex⟩
theorem RL.move(q:RL r.ids r.h r.e s.L s.hd)(j:Nat):RL (r.move j).ids (r.move j).h (r.move j).e (s.mv j).L (s.mv j).hd:=by
 refine⟨q.L,q.nd,?_⟩;rcases q.hd with c|c
 .exact .inl c
 .right
  intro k hk
  show r.ids[upd s.hd j ((s.hd j+1)%s.L.length) k]?=some (upd r.h j (nxt r.ids (r.h j)) k)
  by_cases ek:k=j
  .subst ek
   rw[upd_same,upd_same,q.len];exact nxt_at q.nd (c k hk)
  .rw[upd_other _ _ ek,upd_other _ _ ek];exact c k hk
theorem RL.put(q:RL ids h e L hd)(hx:ids[i]?=some x)(y:En):RL ids h (upd e x y) (L.set i y) hd:=by
 refine⟨?_,q.nd,q.hd⟩;rw[q.L];apply List.ext_getElem?;intro k;rw[List.getElem?_set,List.getElem?_map,List.getElem?_map,List.length_map];by_cases ek:i=k
 .subst ek
  rw[if_pos rfl,if_pos (List.getElem?_eq_some_iff.1 hx).1,hx];simp[upd_same]
 .rw[if_neg ek]
  cases hz:ids[k]? with
  |none=>rfl
  |some z=>
   have:¬z=x:=fun c=>ek (nd_inj q.nd hx (by rw[hz,c]))
   simp[upd_other _ _ this]
theorem RL.leave(q:RL r.ids r.h r.e s.L s.hd)(hx:r.ids[i]?=some x):RL (r.leave x).ids (r.leave x).h (r.leave x).e (s.drop i).L (s.drop i).hd:=by
 have hi:i<r.ids.length:=(List.getElem?_eq_some_iff.1 hx).1;have ea:awayN r.ids x=r.ids.eraseIdx i:=awayN_erase q.nd hx;refine⟨?_,?_,?_⟩
 .show s.L.eraseIdx i=(awayN r.ids x).map r.e
  rw[ea,q.L,List.eraseIdx_eq_take_drop_succ,List.eraseIdx_eq_take_drop_succ,List.map_append,List.map_take,List.map_drop]
 .show(awayN r.ids x).Nodup
  unfold awayN;exact q.nd.filter _
 .by_cases h1:r.ids.length=1
  .left
   show awayN r.ids x=[]
   rw[ea];exact List.eq_nil_of_length_eq_zero (by rw[List.length_eraseIdx_of_lt hi];omega)
  .right
   intro j hj;have hne:¬r.ids=[]:=fun c=>by rw[c]at hi;simp at hi
   have c:=q.hands hj hne;have hk:s.hd j<r.ids.length:=(List.getElem?_eq_some_iff.1 c).1
   show(awayN r.ids x)[dropH i (s.L.length-1) (s.hd j)]?=some (if r.h j=x then nxt r.ids x else r.h j)
   rw[ea,List.getElem?_eraseIdx,q.len];have key:r.h j=x↔s.hd j=i:=⟨fun e=>nd_inj q.nd (by rw[c,e]) hx,fun e=>by rw[e,hx]at c;simpa using c.symm⟩;by_cases ek:s.hd j=i
   .rw[if_pos (key.2 ek),ek]
    have hn:=nxt_at q.nd hx;by_cases el:r.ids.length-1<=i
    .have e1:dropH i (r.ids.length-1) i=0:=by unfold dropH;simp only[Nat.lt_irrefl,if_false];rw[if_pos el]
     have:i+1=r.ids.length:=by omega
     rw[this,Nat.mod_self]at hn;rw[e1,if_pos (by omega)];exact hn
    .have e1:dropH i (r.ids.length-1) i=i:=by unfold dropH;simp only[Nat.lt_irrefl,if_false];rw[if_neg el]
     rw[e1,if_neg (by omega)];rw[Nat.mod_eq_of_lt (by omega)]at hn;exact hn
   .rw[if_neg (fun e=>ek (key.1 e))]
    by_cases el:i<s.hd j
    .have e1:dropH i (r.ids.length-1) (s.hd j)=s.hd j-1:=by unfold dropH;simp only[el,if_true];rw[if_neg (by omega)]
     rw[e1,if_neg (by omega),show s.hd j-1+1=s.hd j from by omega];exact c
    .have e1:dropH i (r.ids.length-1) (s.hd j)=s.hd j:=by unfold dropH;simp only[el,if_false];rw[if_neg (by omega)]
     rw[e1,if_pos (by omega)];exact c
theorem lay_ids_e(x:Nat):(r.lay x).e=r.e∧(r.lay x).v=r.v∧(r.lay x).goal=r.goal∧(r.lay x).hot=r.hot∧(r.lay x).size=r.size∧(r.lay x).fm=r.fm∧(r.lay x).mp=r.mp∧(r.lay x).mc=r.mc∧(r.lay x).sp=awayN r.sp x:=by
 unfold Raw.lay;split<;>exact⟨rfl,rfl,rfl,rfl,rfl,rfl,rfl,rfl,rfl⟩
theorem insL_mem{l:List Nat}{x o y:Nat}:y∈insL l x o↔y=x∨y∈l:=by
 unfold insL;have e:l=l.takeWhile (fun y=>!decide (y=o))++l.dropWhile (fun y=>!decide (y=o)):=List.takeWhile_append_dropWhile.symm;constructor
 .intro h
  rcases List.mem_append.1 h with h|h
  .right;rw[e];exact List.mem_append.2 (.inl h)
  .rcases List.mem_cons.1 h with h|h
   .exact .inl h
   .right;rw[e];exact List.mem_append.2 (.inr h)
 .rintro(h|h)
  .exact List.mem_append.2 (.inr (List.mem_cons.2 (.inl h)))
  .rw[e]at h
   rcases List.mem_append.1 h with h|h
   .exact List.mem_append.2 (.inl h)
   .exact List.mem_append.2 (.inr (List.mem_cons.2 (.inr h)))
theorem lay_mem{y:Nat}:y∈(r.lay x).ids↔y=x∨y∈r.ids:=by
 unfold Raw.lay
 split
 .rename_i c;rw[c];simp
 .exact insL_mem
theorem RL.lay(q:RL r.ids r.h r.e s.L s.hd)(hni:¬x∈r.ids):RL (r.lay x).ids (r.lay x).h (r.lay x).e (s.lay (r.e x)).L (s.lay (r.e x)).hd:=by
 by_cases c:r.ids=[]
 .have cL:s.L=[]:=by rw[q.L,c];rfl
  have e1:r.lay x={r with ids:=[x],sp:=awayN r.sp x,h:=fun _=>x}:=by unfold Raw.lay;rw[if_pos c]
  have e2:s.lay (r.e x)={s with L:=[r.e x],hd:=fun _=>0}:=by unfold PrS.lay;rw[if_pos cL]
  rw[e1,e2];exact⟨rfl,by simp,.inr (fun j hj=>rfl)⟩
 .have cL:¬s.L=[]:=fun e=>c (by rw[q.L]at e;simpa using e)
  have h0:=q.hands (j:=0) (by omega) c;have hi:s.hd 0<r.ids.length:=(List.getElem?_eq_some_iff.1 h0).1;have ei:insL r.ids x (r.h 0)=r.ids.take (s.hd 0)++x::r.ids.drop (s.hd 0):=insL_at q.nd h0;have e1:r.lay x={r with ids:=insL r.ids x (r.h 0),sp:=awayN r.sp x}:=by unfold Raw.lay;rw[if_neg c]
  have e2:s.lay (r.e x)={s with L:=insE s.L (s.hd 0) (r.e x),hd:=fun j=>if s.hd 0<=s.hd j then s.hd j+1 else s.hd j}:=by unfold PrS.lay;rw[if_neg cL]
  rw[e1,e2];refine⟨?_,?_,.inr (fun j hj=>?_)⟩
  .show insE s.L (s.hd 0) (r.e x)=(insL r.ids x (r.h 0)).map r.e
   rw[ei,List.map_append,List.map_cons,List.map_take,List.map_drop,<-q.L];rfl
  .show(insL r.ids x (r.h 0)).Nodup
   rw[ei]
   have hp:(r.ids.take (s.hd 0)++x::r.ids.drop (s.hd 0)).Perm (x::r.ids):=by
    refine List.perm_middle.trans (List.Perm.cons _ ?_);rw[List.take_append_drop]
   rw[hp.nodup_iff];exact List.nodup_cons.2 ⟨hni,q.nd⟩
  .have cj:=q.hands hj c
   show(insL r.ids x (r.h 0))[if s.hd 0<=s.hd j then s.hd j+1 else s.hd j]?=some (r.h j)
   have hl:(r.ids.take (s.hd 0)).length=s.hd 0:=by rw[List.length_take];omega
   rw[ei];by_cases el:s.hd 0<=s.hd j
   .rw[if_pos el,List.getElem?_append_right (by omega),hl,show s.hd j+1-s.hd 0=(s.hd j-s.hd 0)+1 from by omega,List.getElem?_cons_succ,List.getElem?_drop,show s.hd 0+(s.hd j-s.hd 0)=s.hd j from by omega]
    exact cj
   .rw[if_neg el,List.getElem?_append_left (by omega),List.getElem?_take,if_pos (by omega)]
    exact cj
end
end
end Go.Proofs.YtipopinjppjnfaaGreatDoor
