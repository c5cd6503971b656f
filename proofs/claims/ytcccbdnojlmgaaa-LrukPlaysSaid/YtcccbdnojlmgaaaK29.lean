/- Part 29. -/
import Derived.Test.YtcccbdnojlmgaaaK25
import Derived.Test.YtcccbdnojlmgaaaK26
import Derived.Test.YtcccbdnojlmgaaaK28
namespace Go.Proofs.Ytcccbdnojlmgaaa
set_option linter.all false
set_option maxHeartbeats 16000000
set_option maxRecDepth 100000
section
open Go.Maps Go.RowKit
def pastD(a:Pa):Int×(Nat->Int):=((a.l:Int),fun j=>((a.ts.getD j 0:Nat):Int))
def keyD(K:Nat)(s:S5)(f:Nat):Option (Int×Int):=if okF s.page s.on f=true then some (((s.key K f).1:Nat),((s.key K f).2:Nat))else none
structure RS5(K near kept n:Nat)(kk:Nat)(s:S5)(t:LK)(fr:List Nat):Prop where
 inv:Inv5 K kept n s
 pf:s.page=fr
 tn:t.n=n
 tk:t.k=K
 tr:t.near=near
 tp:t.kept=kept
 T:t.T=s.T
 b:s.T<=kk
 g:t.gone<=kk
 fr:∀f,(t.fr f).1=!decide (s.pg f=0)
 fp:∀f,¬s.pg f=0->(t.fr f).2=s.pg f
 P:∀x,t.P x=(getP s.ps x).map pastD
 R:∀f,t.R f=keyD K s f
 O:t.Old.map (·.1)=s.old
 t:t.t=cntR t.R t.n
section
variable{K near kept n kk:Nat}{s:S5}{t:LK}{fr:List Nat}
theorem cntR_cntF(R:Nat->Option (Int×Int))(page:List Nat)(on:Nat->Bool)(h:∀f,(R f).isSome=okF page on f):∀n,cntR R n=cntF page on n
 |0=>rfl
 |n+1=>by rw[cntF_succ];unfold cntR;rw[cntR_cntF R page on h n,h n]
theorem keyD_some(K:Nat)(s:S5)(f:Nat):(keyD K s f).isSome=okF s.page s.on f:=by
 unfold keyD
 cases okF s.page s.on f<;>rfl
theorem RS5.cnt(h:RS5 K near kept n kk s t fr):t.t=cntF s.page s.on s.page.length:=by
 rw[h.t,h.tn,h.inv.pn];exact cntR_cntF _ _ _ (fun f=>by rw[h.R,keyD_some]) n
theorem okF_pg(s:S5)(f:Nat):okF s.page s.on f=(!decide (s.pg f=0)&&s.on f):=rfl
theorem okF_on{s:S5}(hi:Inv5 K kept n s)(f:Nat):okF s.page s.on f=s.on f:=by
 rw[okF_pg]
 cases e:s.on f with
 |false=>simp
 |true=>simp[hi.on f e]
theorem okF_lt{s:S5}(hi:Inv5 K kept n s){f:Nat}(h:okF s.page s.on f=true):f<n:=by
 rw[okF_pg]at h;apply Classical.byContradiction;intro hn
 have:s.pg f=0:=by
  unfold S5.pg;rw[List.getD_eq_getElem?_getD,List.getElem?_eq_none (by rw[hi.pn];omega)];rfl
 simp[this]at h
theorem pastOf_eq(h:RS5 K near kept n kk s t fr)(x:Nat):pastOf t x=match getP s.ps x with|none=>(0,fun _=>0)|some a=>pastD a:=by
 unfold pastOf;rw[h.P]
 cases getP s.ps x<;>rfl
theorem touchT_far(last:Int)(t:Nat->Int)(now near:Int)(k:Nat)(h:¬(¬last=0∧now-last<=near))(j:Nat):touchT last t now near k j=if j=0 then now else if j<k then(if t (j-1)=0 then 0 else t (j-1)+(last-t 0))else t j:=by
 unfold touchT;rw[if_neg h];by_cases e:j=0
 .subst e;rw[upd_same,if_pos rfl]
 .rw[upd_other _ _ e,if_neg e]
  unfold timesF;by_cases hk:j<k
  .rw[if_pos ⟨by omega,hk⟩,if_pos hk]
  .rw[if_neg (by omega),if_neg hk]
theorem touch_eq{T:Nat}{a:Pa}(ha:PaOk K T a)(hk:1<=K):touchT (pastD a).1 (pastD a).2 ((T+1:Nat):Int) near K=(pastD (touch K near (T+1) a)).2:=by
 funext j
 have h1:=ha.l1;have h2:=ha.lT;have h3:=ha.t0;have h4:=ha.tj (j-1);by_cases hf:near<T+1-a.l
 .rw[touchT_far _ _ _ _ _ (by show¬(¬(a.l:Int)=0∧((T+1:Nat):Int)-(a.l:Int)<=(near:Int));omega)]
  show _=(((touch K near (T+1) a).ts.getD j 0:Nat):Int)
  have:(touch K near (T+1) a).ts=farT K (T+1) a.ts a.l:=if_pos hf;rw[this,farT_get];by_cases e:j=0
  .rw[if_pos e,if_pos e]
  .rw[if_neg e,if_neg e]
   by_cases hj:j<K
   .rw[if_pos hj,if_pos hj]
    show(if((a.ts.getD (j-1) 0:Nat):Int)=0 then(0:Int)else((a.ts.getD (j-1) 0:Nat):Int)+((a.l:Int)-((a.ts.getD 0 0:Nat):Int)))=((moreT a.ts a.l (j-1):Nat):Int)
    unfold moreT;generalize a.ts.getD (j-1) 0=u at*;generalize a.ts.getD 0 0=v at*;by_cases e0:u=0
    .rw[if_pos (by omega),if_pos e0];rfl
    .rw[if_neg (by omega),if_neg e0];omega
   .rw[if_neg hj,if_neg hj]
    show((a.ts.getD j 0:Nat):Int)=((0:Nat):Int)
    rw[List.getD_eq_getElem?_getD,List.getElem?_eq_none (by rw[ha.len];omega)];rfl
 .have e1:touchT (pastD a).1 (pastD a).2 ((T+1:Nat):Int) near K=(pastD a).2:=if_pos (by show¬(a.l:Int)=0∧((T+1:Nat):Int)-(a.l:Int)<=(near:Int);omega)
  rw[e1]
  show((a.ts.getD j 0:Nat):Int)=(((touch K near (T+1) a).ts.getD j 0:Nat):Int)
  have:(touch K near (T+1) a).ts=a.ts:=if_neg hf;rw[this]
theorem touch_new(T:Nat):touchT 0 (fun _=>0) ((T+1:Nat):Int) near K=fun j=>(((newT K (T+1)).getD j 0:Nat):Int):=by
 funext j
 rw[touchT_far _ _ _ _ _ (by simp),newT_get];by_cases e:j=0
 .rw[if_pos e,if_pos e]
 .rw[if_neg e,if_neg e]
  split<;>simp
theorem touP_eq(h:RS5 K near kept n kk s t fr)(id:Nat)(x:Nat):updO t.P id (some (((t.T+1:Nat):Int),touchT (pastOf t id).1 (pastOf t id).2 ((t.T+1:Nat):Int) t.near t.k)) x=(getP (accP K near (s.T+1) s.ps id) x).map pastD:=by
 rw[accP_get,h.T,h.tr,h.tk];by_cases e:x=id
 .subst e
  rw[updO_same,if_pos rfl,pastOf_eq h]
  cases eg:getP s.ps x with
  |none=>
   simp only;rw[touch_new];rfl
  |some a=>
   simp only;rw[touch_eq (h.inv.ok a (getP_mem eg).1) h.inv.k1];rfl
 .rw[updO_other _ _ e,if_neg e,h.P]
theorem rank_eq{t:LK}{ps:List Pa}(hk:t.k=K)(hP:∀x,t.P x=(getP ps x).map pastD)(x:Nat):rankOf t x=(((((getP ps x).getD ⟨0,0,[]⟩).ts.getD (K-1) 0:Nat):Int),((((getP ps x).getD ⟨0,0,[]⟩).l:Nat):Int)):=by
 unfold rankOf pastOf;rw[hP,hk]
 cases getP ps x with
 |none=>simp
 |some a=>rfl
theorem woO_map(l:List (Nat×Nat))(x:Nat):(woO l x).map (·.1)=awayN (l.map (·.1)) x:=by
 unfold woO awayN;rw[List.filter_map];rfl
theorem pg_at(h:RS5 K near kept n kk s t fr){a x:Nat}(hx:fr[a]?=some x):s.pg a=x:=by
 unfold S5.pg;rw[h.pf,List.getD_eq_getElem?_getD,hx];rfl
theorem pg_no(h:RS5 K near kept n kk s t fr){id:Nat}(hx:¬id∈fr)(h1:1<=id)(f:Nat):¬s.pg f=id:=by
 intro e;unfold S5.pg at e;rw[h.pf,List.getD_eq_getElem?_getD]at e
 cases hf:fr[f]? with
 |none=>rw[hf]at e;simp at e;omega
 |some y=>rw[hf]at e;simp at e;exact hx (e▸List.mem_of_getElem? hf)
theorem sim_access(h:RS5 K near kept n kk s t fr){a id:Nat}(ha:a<n)(hx:fr[a]?=some id∨fr[a]?=some 0∧¬id∈fr)(h1:1<=id):RS5 K near kept n (kk+1) (s.access K near a id) ({accS t a id with Fa:=fun _=>false}) (fr.set a id):=by
 have hf:s.pg a=id∨s.pg a=0∧∀f,¬s.pg f=id:=hx.imp (fun q=>pg_at h q) (fun q=>⟨pg_at h q.1,fun f=>pg_no h q.2 h1 f⟩);have hal:a<s.page.length:=by rw[h.inv.pn];exact ha
 have hpg:∀f,(s.access K near a id).pg f=if f=a then id else s.pg f:=fun f=>pg_set hal
 have hI:=h.inv.access (near:=near) ha hf h1
 have hcom:comS t a id={t with fr:=updF t.fr a (true,id),Old:=woO t.Old id}∨(comS t a id=t∧s.pg a=id):=by
  unfold comS;rw[h.fr];by_cases e:s.pg a=0
  .left;simp[e]
  .right
   exact⟨by simp[e],hf.resolve_right (fun q=>e q.1)⟩
 have hc2:((comS t a id).fr a).2=id:=by
  rcases hcom with e|⟨e,e2⟩
  .rw[e];show(updF t.fr a (true,id) a).2=id;rw[updF_same]
  .rw[e,h.fp a (by omega),e2]
 have hc1:∀f,((comS t a id).fr f).1=!decide ((s.access K near a id).pg f=0):=fun f=>by
  rw[hpg];rcases hcom with e|⟨e,e2⟩
  .rw[e];show(updF t.fr a (true,id) f).1=_
   by_cases ef:f=a
   .subst ef;rw[updF_same,if_pos rfl];simp;omega
   .rw[updF_other _ _ ef,if_neg ef];exact h.fr f
  .rw[e,h.fr]
   by_cases ef:f=a
   .subst ef;rw[if_pos rfl,e2]
   .rw[if_neg ef]
 have hc3:∀f,¬(s.access K near a id).pg f=0->((comS t a id).fr f).2=(s.access K near a id).pg f:=fun f=>by
  rw[hpg];by_cases ef:f=a
  .subst ef;rw[if_pos rfl];exact fun _=>hc2
  .rw[if_neg ef]
   intro q;rcases hcom with e|⟨e,e2⟩
   .rw[e];show(updF t.fr a (true,id) f).2=_;rw[updF_other _ _ ef];exact h.fp f q
   .rw[e];exact h.fp f q
 have hcO:(comS t a id).Old.map (·.1)=awayN s.old id:=by
  rcases hcom with e|⟨e,e2⟩
  .rw[e];show(woO t.Old id).map (·.1)=_;rw[woO_map,h.O]
  .rw[e,h.O]
   unfold awayN;rw[List.filter_eq_self.2];intro x hx;have:¬x=id:=fun q=>(h.inv.op x hx).2.2 a (by rw[e2,q])
   simp[this]
 have hcX:(comS t a id).n=t.n∧(comS t a id).k=t.k∧(comS t a id).near=t.near∧(comS t a id).kept=t.kept∧(comS t a id).T=t.T∧(comS t a id).P=t.P∧(comS t a id).R=t.R∧(comS t a id).t=t.t∧(comS t a id).gone=t.gone:=by
  unfold comS
  split<;>exact⟨rfl,rfl,rfl,rfl,rfl,rfl,rfl,rfl,rfl⟩
 obtain⟨x1,x2,x3,x4,x5,x6,x7,x8,x9⟩:=hcX;have hpo:pastOf (comS t a id) id=pastOf t id:=by unfold pastOf;rw[x6]
 have hP:∀x,(touS (comS t a id) id).P x=(getP (s.access K near a id).ps x).map pastD:=fun x=>by
  show updO (comS t a id).P id (some ((((comS t a id).T+1:Nat):Int),touchT (pastOf (comS t a id) id).1 (pastOf (comS t a id) id).2 (((comS t a id).T+1:Nat):Int) (comS t a id).near (comS t a id).k)) x=_
  rw[hpo,x5,x6,x3,x2];exact touP_eq h id x
 have hac:accS t a id=rerS (touS (comS t a id) id) a:=by unfold accS;rw[hc2]
 generalize hu:touS (comS t a id) id=u at*;have u1:u.n=n:=by rw[<-hu];exact x1.trans h.tn
 have u2:u.k=K:=by rw[<-hu];exact x2.trans h.tk
 have u3:u.near=near:=by rw[<-hu];exact x3.trans h.tr
 have u4:u.kept=kept:=by rw[<-hu];exact x4.trans h.tp
 have u5:u.T=s.T+1:=by rw[<-hu];show(comS t a id).T+1=_;rw[x5,h.T]
 have u6:u.R=t.R:=by rw[<-hu];exact x7
 have u7:u.t=t.t:=by rw[<-hu];exact x8
 have u8:u.gone=t.gone:=by rw[<-hu];exact x9
 have u9:u.fr=(comS t a id).fr:=by rw[<-hu];rfl
 have u10:u.Old=(comS t a id).Old:=by rw[<-hu];rfl
 have hra:rankOf u (u.fr a).2=(((((s.access K near a id).key K a).1:Nat):Int),((((s.access K near a id).key K a).2:Nat):Int)):=by
  rw[u9,hc2,rank_eq u2 hP];unfold S5.key S5.pa;rw[hpg,if_pos rfl]
 have hkey:∀f,¬f=a->okF s.page s.on f=true->(s.access K near a id).key K f=s.key K f:=fun f e hok=>by
  have hp:¬s.pg f=0:=by rw[okF_pg]at hok;intro q;simp[q]at hok
  have hne:¬s.pg f=id:=fun q=>by
   rcases hf with q2|⟨_,q2⟩
   .exact e (h.inv.inj f a (q.trans q2.symm) hp)
   .exact q2 f q
  unfold S5.key S5.pa;rw[hpg,if_neg e]
  have e:getP (s.access K near a id).ps (s.pg f)=getP s.ps (s.pg f):=by
   show getP (accP K near (s.T+1) s.ps id) (s.pg f)=_
   rw[accP_get,if_neg hne]
  rw[e]
 have hokf:∀f,okF (s.access K near a id).page (s.access K near a id).on f=okF s.page s.on f:=fun f=>by
  rw[okF_on hI f,okF_on h.inv f];rfl
 have hR:∀f,(rerS u a).R f=keyD K (s.access K near a id) f:=fun f=>by
  have hRf:=h.R f;unfold keyD at hRf⊢;rw[hokf];unfold rerS;by_cases hs:(u.R a).isSome=true
  .rw[if_pos hs]
   show updK u.R a (some (rankOf u (u.fr a).2)) f=_
   by_cases ef:f=a
   .subst ef
    rw[updK_same,hra];rw[u6,h.R,keyD_some]at hs;rw[if_pos hs]
   .rw[updK_other _ _ ef,u6,hRf]
    by_cases hok:okF s.page s.on f=true
    .rw[if_pos hok,if_pos hok,hkey f ef hok]
    .rw[if_neg hok,if_neg hok]
  .rw[if_neg hs,u6,hRf]
   by_cases hok:okF s.page s.on f=true
   .rw[if_pos hok,if_pos hok]
    by_cases ef:f=a
    .subst ef
     rw[u6,h.R,keyD_some]at hs;exact(hs hok).elim
    .rw[hkey f ef hok]
   .rw[if_neg hok,if_neg hok]
 have hcnt:cntR (rerS u a).R n=cntR t.R n:=by
  rw[cntR_cntF (rerS u a).R s.page s.on (fun f=>by rw[hR f,keyD_some,hokf]) n,cntR_cntF t.R s.page s.on (fun f=>by rw[h.R f,keyD_some]) n]
 have hr:(rerS u a).n=u.n∧(rerS u a).k=u.k∧(rerS u a).near=u.near∧(rerS u a).kept=u.kept∧(rerS u a).T=u.T∧(rerS u a).P=u.P∧(rerS u a).fr=u.fr∧(rerS u a).t=u.t∧(rerS u a).gone=u.gone∧(rerS u a).Old=u.Old:=by
  unfold rerS
  split<;>exact⟨rfl,rfl,rfl,rfl,rfl,rfl,rfl,rfl,rfl,rfl⟩
 obtain⟨y1,y2,y3,y4,y5,y6,y7,y8,y9,y10⟩:=hr;rw[hac];refine⟨hI,by show s.page.set a id=fr.set a id;rw[h.pf],y1.trans u1,y2.trans u2,y3.trans u3,y4.trans u4,y5.trans u5,Nat.succ_le_succ h.b,?_,fun f=>?_,fun f q=>?_,fun x=>?_,hR,?_,?_⟩
 .show(rerS u a).gone<=kk+1
  rw[y9,u8];have:=h.g;omega
 .show((rerS u a).fr f).1=_
  rw[y7,u9];exact hc1 f
 .show((rerS u a).fr f).2=_
  rw[y7,u9];exact hc3 f q
 .show(rerS u a).P x=_
  rw[y6];exact hP x
 .show(rerS u a).Old.map (·.1)=_
  rw[y10,u10];exact hcO
 .show(rerS u a).t=cntR (rerS u a).R (rerS u a).n
  rw[y8,y1,u1,u7,hcnt,h.t,h.tn]
theorem sim_set(h:RS5 K near kept n kk s t fr){a x:Nat}(ha:a<n)(hx:fr[a]?=some x)(h1:1<=x)(v:Bool):RS5 K near kept n kk ⟨s.page,upd s.on a v,s.ps,s.old,s.T⟩ ({setS t a v with Fa:=fun _=>false}) fr:=by
 have hp:¬s.pg a=0:=by rw[pg_at h hx];omega
 have hI:=h.inv.setOn hp v
 have hok:∀f,okF s.page (upd s.on a v) f=if f=a then v else okF s.page s.on f:=fun f=>by
  have e1:=okF_on hI f;rw[okF_on h.inv f];refine e1.trans ?_
  show upd s.on a v f=_
  by_cases e:f=a
  .subst e;rw[upd_same,if_pos rfl]
  .rw[upd_other _ _ e,if_neg e]
 have hra:rankOf t (t.fr a).2=((((s.key K a).1:Nat):Int),(((s.key K a).2:Nat):Int)):=by
  rw[h.fp a hp,rank_eq h.tk h.P];rfl
 have hkd:∀f,keyD K ⟨s.page,upd s.on a v,s.ps,s.old,s.T⟩ f=if f=a then(if v=true then some ((((s.key K a).1:Nat):Int),(((s.key K a).2:Nat):Int))else none)else keyD K s f:=fun f=>by
  show(if okF s.page (upd s.on a v) f=true then some (((s.key K f).1:Int),((s.key K f).2:Int))else none)=_
  rw[hok];by_cases e:f=a
  .subst e;rw[if_pos rfl,if_pos rfl]
  .rw[if_neg e,if_neg e];rfl
 have hR:∀f,(setS t a v).R f=keyD K ⟨s.page,upd s.on a v,s.ps,s.old,s.T⟩ f:=fun f=>by
  rw[hkd];unfold setS;by_cases hs:(t.R a).isSome=v
  .rw[if_pos hs,h.R]
   by_cases e:f=a
   .subst e
    rw[if_pos rfl];rw[h.R,keyD_some]at hs;unfold keyD;rw[hs]
   .rw[if_neg e]
  .rw[if_neg hs]
   cases v with
   |true=>
    show updK t.R a (some (rankOf t (t.fr a).2)) f=_
    by_cases e:f=a
    .subst e;rw[updK_same,if_pos rfl,hra];rfl
    .rw[updK_other _ _ e,if_neg e];exact h.R f
   |false=>
    show updK t.R a none f=_
    by_cases e:f=a
    .subst e;rw[updK_same,if_pos rfl];rfl
    .rw[updK_other _ _ e,if_neg e];exact h.R f
 have hcnt:(setS t a v).t=cntR (setS t a v).R n:=by
  have ht:=h.t;rw[h.tn]at ht;unfold setS;by_cases hs:(t.R a).isSome=v
  .rw[if_pos hs];exact ht
  .rw[if_neg hs]
   cases v with
   |true=>
    show t.t+1=cntR (updK t.R a (some (rankOf t (t.fr a).2))) n
    rw[cntR_put _ _ ha,ht];have:(t.R a).isSome=false:=by simpa using hs
    rw[this];rfl
   |false=>
    show t.t-1=cntR (updK t.R a none) n
    rw[cntR_drop _ ha,ht];have:(t.R a).isSome=true:=by cases q:(t.R a).isSome with|true=>rfl|false=>exact(hs q).elim
    rw[this];rfl
 have hr:(setS t a v).n=t.n∧(setS t a v).k=t.k∧(setS t a v).near=t.near∧(setS t a v).kept=t.kept∧(setS t a v).T=t.T∧(setS t a v).P=t.P∧(setS t a v).fr=t.fr∧(setS t a v).gone=t.gone∧(setS t a v).Old=t.Old:=by
  unfold setS
  split
  .exact⟨rfl,rfl,rfl,rfl,rfl,rfl,rfl,rfl,rfl⟩
  .split<;>exact⟨rfl,rfl,rfl,rfl,rfl,rfl,rfl,rfl,rfl⟩
 obtain⟨y1,y2,y3,y4,y5,y6,y7,y9,y10⟩:=hr;refine⟨hI,h.pf,y1.trans h.tn,y2.trans h.tk,y3.trans h.tr,y4.trans h.tp,y5.trans h.T,h.b,?_,fun f=>?_,fun f q=>?_,fun x=>?_,hR,?_,?_⟩
 .show(setS t a v).gone<=kk
  rw[y9];exact h.g
 .show((setS t a v).fr f).1=_
  rw[y7];exact h.fr f
 .show((setS t a v).fr f).2=_
  rw[y7];exact h.fp f q
 .show(setS t a v).P x=_
  rw[y6];exact h.P x
 .show(setS t a v).Old.map (·.1)=_
  rw[y10];exact h.O
 .show(setS t a v).t=cntR (setS t a v).R (setS t a v).n
  rw[y1,h.tn];exact hcnt
end
end
end Go.Proofs.Ytcccbdnojlmgaaa
