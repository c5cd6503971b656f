/- Part 3. -/
import Derived.Test.YtpkbkhffglikhaaGreatDoorM02
namespace Go.Proofs.YtpkbkhffglikhaaGreatDoor
set_option linter.all false
set_option maxHeartbeats 16000000
set_option maxRecDepth 100000
section
open Go.Maps Go.RowKit
def updI(m:Int->Option Int)(x:Int)(y:Option Int):Int->Option Int:=λz=>if z=x then y else m z
theorem updI_same(m:Int->Option Int)(x:Int)(y:Option Int):updI m x y x=y:=by simp[updI]
theorem updI_other(m:Int->Option Int){x z:Int}(y:Option Int)(h:¬z=x):updI m x y z=m z:=by simp[updI,h]
structure MI(P:Program)(t k e:TypeId)(kq eq:IntKind):Prop where
 ut:P.underlying t=some (.map k e)
 uk:P.underlying k=some (.int kq)
 ue:P.underlying e=some (.int eq)
 z:∀w:World,(zeroValue e).run P w=.ok (.int eq 0) w
def Sees(kq eq:IntKind)(D:DataW Unit)(m:Int->Option Int):Prop:=∀x,(Lit.int kq x).wf=true->(m x=none->Maps.has D (.int kq x)=false)/\∀y,m x=some y->Maps.has D (.int kq x)=true/\D.atKey (.int kq x) (.lit (.int eq 0))=.lit (.int eq y)
def MpN(P:Program)(k e:TypeId)(kq eq:IntKind)(w:World)(b c:Nat)(m:Int->Option Int):Prop:=
 ∃D:DataW Unit,w.ownsMap P k (plainElem P e) b c D/\Maps.size D=c/\Sees kq eq D m
section
variable{P:Program}{t k e:TypeId}{kq eq:IntKind}{w w':World}{b c:Nat}{m:Int->Option Int}
theorem owns_tight{R:Value->Option (DataW Unit×List MemPlace)}{n:Nat}{D:DataW Unit}(h:w.ownsMap P k R b n D):w.ownsMap P k R b (Maps.size D) D:=by
 obtain⟨es,clock,hb,F,hs,rfl⟩:=h;exact⟨es,clock,hb,F,by rw[Maps.size_eq,length_read];exact Nat.le_refl _,rfl⟩
theorem MpN.lt(h:MpN P k e kq eq w b c m):b<w.heap.size:=by obtain⟨D,h,_⟩:=h;exact h.lt
theorem MpN.fr(h:MpN P k e kq eq w b c m){G:Nat->Prop}(f:Fr G w w')(hG:¬G b):MpN P k e kq eq w' b c m:=by
 have hl:=h.lt;obtain⟨D,⟨es,clock,hb,r⟩,r2⟩:=h;exact⟨D,⟨es,clock,by rw[f.block b hl hG];exact hb,r⟩,r2⟩
theorem MpN.made(P:Program)(k e:TypeId)(kq eq:IntKind)(w:World):MpN P k e kq eq (w.alloc (.map #[] 0)) w.heap.size 0 (λ_=>none):=
 ⟨.map [],World.ownsMap_made w P k _,rfl,λx _=>⟨λ_=>rfl,λy q=>(by cases q)⟩⟩
theorem turned_fr(h:w.mapTurned w' b):Fr (λi=>i=b) w w':=(Fr.refl _ w).grown h.grown (λi q=>.inl (by cases q;rfl))
theorem keyLit{x:Int}:WideAt.IsKeyLit (Lit.int kq x):=trivial
theorem MpN.put_of{D:DataW Unit}(M:MI P t k e kq eq){n:Nat}{x y:Int}(h:w'.ownsMap P k (plainElem P e) b n (D.put (.int kq x) (.lit (.int eq y))))(ht:Tidy D)(hs:Maps.size D=c)(hv:Sees kq eq D m)(hx:(Lit.int kq x).wf=true):
  MpN P k e kq eq w' b (if(m x).isSome then c else c+1) (updI m x (some y)):=by
 have hsz:=size_put (k:=.int kq x) ht (.lit (.int eq y))
 have hh:Maps.has D (.int kq x)=(m x).isSome:=by
  cases em:m x with
  |none=>exact(hv x hx).1 em
  |some z=>exact((hv x hx).2 z em).1
 rw[hs,hh]at hsz;refine⟨_,by rw[<-hsz];exact owns_tight h,hsz,λz hz=>?_⟩;by_cases e1:z=x
 .subst e1
  rw[updI_same];exact⟨λq=>(by cases q),λy' q=>by cases q;exact⟨has_put_same ht.isMap keyLit _,atKey_put_same ht.isMap keyLit _ _⟩⟩
 .rw[updI_other _ _ e1]
  have ne:Lit.int kq z≠Lit.int kq x:=λq=>e1 (by cases q;rfl)
  rw[has_put_other ne,atKey_put_other ne];exact hv z hz
theorem MpN.del_of{D:DataW Unit}{n:Nat}{x:Int}(h:w'.ownsMap P k (plainElem P e) b n (D.del (.int kq x)))(ht:Tidy D)(hs:Maps.size D=c)(hv:Sees kq eq D m)(hx:(Lit.int kq x).wf=true):
  MpN P k e kq eq w' b (if(m x).isSome then c-1 else c) (updI m x none):=by
 have hsz:=size_del (k:=.int kq x) ht
 have hh:Maps.has D (.int kq x)=(m x).isSome:=by
  cases em:m x with
  |none=>exact(hv x hx).1 em
  |some z=>exact((hv x hx).2 z em).1
 rw[hs,hh]at hsz
 have hsz':Maps.size (D.del (.int kq x))=if(m x).isSome then c-1 else c:=by
  split at hsz
  .rename_i q;rw[if_pos q];omega
  .rename_i q;rw[if_neg q];omega
 refine⟨_,by rw[<-hsz'];exact owns_tight h,hsz',λz hz=>?_⟩;by_cases e1:z=x
 .subst e1
  rw[updI_same];exact⟨λ_=>has_del_same,λy' q=>(by cases q)⟩
 .rw[updI_other _ _ e1]
  have ne:Lit.int kq z≠Lit.int kq x:=λq=>e1 (by cases q;rfl)
  rw[has_del_other ne,atKey_del_other ne];exact hv z hz
variable{ops:Array Oper}{rest:List Oper}{o:Oper}{a:Act}{Q:Exit->Act->World->Prop}
theorem wp_lookN(M:MI P t k e kq eq)(h:MpN P k e kq eq w b c m)(hg:o.guard=none)(mo xo:Operand)(hop:o.op=Op.lookup t mo xo true)(hm:a.eval mo=.map (some b)){x:Int}(hx:a.eval xo=.int kq x)(hw:(Lit.int kq x).wf=true)
  (hK:wpList P ops Q rest (a.put o.dst (.tuple #[.int eq ((m x).getD 0),.bool (m x).isSome])) w):wpList P ops Q (o::rest) a w:=by
 obtain⟨D,h1,h2,h3⟩:=h;refine wpList_lookup_own_ok_int w hg mo xo t hop k e eq (int_keyed M.uk) M.ut M.ue (M.z w) b c D hm h1 _ _ hx (keyOf_int_mk M.uk hw) (λcc hat hwc=>?_)
 have:(Maps.has D (.int kq x))=(m x).isSome/\cc=(m x).getD 0:=by
  cases em:m x with
  |none=>
   have hh:=(h3 x hw).1 em;refine⟨hh,?_⟩;rw[atKey_of_not_has hh]at hat;simpa using hat.symm
  |some z=>
   obtain⟨q1,q2⟩:=(h3 x hw).2 z em;refine⟨q1,?_⟩;rw[q2]at hat;simpa using hat.symm
 rw[this.1,this.2];exact hK
theorem wp_lookN_some(M:MI P t k e kq eq)(h:MpN P k e kq eq w b c m){x y:Int}(hmx:m x=some y)(hg:o.guard=none)(mo xo:Operand)(hop:o.op=Op.lookup t mo xo true)(hm:a.eval mo=.map (some b))(hx:a.eval xo=.int kq x)(hw:(Lit.int kq x).wf=true)
  (hK:wpList P ops Q rest (a.put o.dst (.tuple #[.int eq y,.bool true])) w):wpList P ops Q (o::rest) a w:=
 wp_lookN M h hg mo xo hop hm hx hw (by rw[hmx];exact hK)
theorem wp_lookN_none(M:MI P t k e kq eq)(h:MpN P k e kq eq w b c m){x:Int}(hmx:m x=none)(hg:o.guard=none)(mo xo:Operand)(hop:o.op=Op.lookup t mo xo true)(hm:a.eval mo=.map (some b))(hx:a.eval xo=.int kq x)(hw:(Lit.int kq x).wf=true)
  (hK:wpList P ops Q rest (a.put o.dst (.tuple #[.int eq 0,.bool false])) w):wpList P ops Q (o::rest) a w:=
 wp_lookN M h hg mo xo hop hm hx hw (by rw[hmx];exact hK)
theorem wp_putN(M:MI P t k e kq eq)(h:MpN P k e kq eq w b c m)(hc:c<1000000)(hg:o.guard=none)(mo xo vo:Operand)(hop:o.op=Op.mapUpdate t mo xo vo)(hm:a.eval mo=.map (some b)){x y:Int}(hx:a.eval xo=.int kq x)(hv:a.eval vo=.int eq y)(hw:(Lit.int kq x).wf=true)(hwy:(Lit.int eq y).wf=true)
  (hK:∀w',MpN P k e kq eq w' b (if(m x).isSome then c else c+1) (updI m x (some y))->Fr (λi=>i=b) w w'->wpList P ops Q rest (a.put o.dst undef) w'):wpList P ops Q (o::rest) a w:=by
 obtain⟨D,h1,h2,h3⟩:=h;refine wpList_mapUpdate_in w hg mo xo vo t hop k e (int_keyed M.uk) M.ut (plainElem P e) b c D hm h1 (by unfold maxLen;omega) _ _ _ hx hv (keyOf_int_mk M.uk hw) _ _ (plainElem_int M.ue hwy) (λw' h4 h5=>?_);exact hK w' (MpN.put_of M h4 (h1.tidy (int_keyed M.uk)) h2 h3 hw) (turned_fr h5)
theorem wp_delN(M:MI P t k e kq eq)(h:MpN P k e kq eq w b c m)(hg:o.guard=none)(mo xo:Operand)(hop:o.op=Op.call {callee:=Callee.builtin Builtin.delete,args:=#[mo,xo],argTypes:=#[t,k]})(hm:a.eval mo=.map (some b)){x:Int}(hx:a.eval xo=.int kq x)(hw:(Lit.int kq x).wf=true)
  (hK:∀w',MpN P k e kq eq w' b (if(m x).isSome then c-1 else c) (updI m x none)->Fr (λi=>i=b) w w'->wpList P ops Q rest (a.put o.dst (.tuple #[])) w'):wpList P ops Q (o::rest) a w:=by
 obtain⟨D,h1,h2,h3⟩:=h;refine wpList_delete_own w hg mo xo t k hop e (int_keyed M.uk) M.ut (plainElem P e) b c D hm h1 _ _ hx (keyOf_int_mk M.uk hw) (λw' h4 h5=>?_);exact hK w' (MpN.del_of h4 (h1.tidy (int_keyed M.uk)) h2 h3 hw) (turned_fr h5)
end
def rdV(v:Value):Option (DataW Value×List MemPlace):=some (.held v,[])
def updV(m:Int->Option Value)(x:Int)(y:Option Value):Int->Option Value:=λz=>if z=x then y else m z
theorem updV_same(m:Int->Option Value)(x:Int)(y:Option Value):updV m x y x=y:=by simp[updV]
theorem updV_other(m:Int->Option Value){x z:Int}(y:Option Value)(h:¬z=x):updV m x y z=m z:=by simp[updV,h]
structure MV(P:Program)(t k e:TypeId)(kq:IntKind)(z0:Value):Prop where
 ut:P.underlying t=some (.map k e)
 uk:P.underlying k=some (.int kq)
 z:∀w:World,(zeroValue e).run P w=.ok z0 w
def SeesV(kq:IntKind)(z0:Value)(D:DataW Value)(m:Int->Option Value):Prop:=∀x,(Lit.int kq x).wf=true->(m x=none->Maps.has D (.int kq x)=false)/\∀y,m x=some y->Maps.has D (.int kq x)=true/\D.atKey (.int kq x) (.held z0)=.held y
def MpV(P:Program)(k:TypeId)(kq:IntKind)(z0:Value)(w:World)(b c:Nat)(m:Int->Option Value):Prop:=
 ∃D:DataW Value,w.ownsMap P k rdV b c D/\Maps.size D=c/\SeesV kq z0 D m
section
variable{P:Program}{t k e:TypeId}{kq:IntKind}{z0:Value}{w w':World}{b c:Nat}{m:Int->Option Value}
theorem owns_tightV{R:Value->Option (DataW Value×List MemPlace)}{n:Nat}{D:DataW Value}(h:w.ownsMap P k R b n D):w.ownsMap P k R b (Maps.size D) D:=by
 obtain⟨es,clock,hb,F,hs,rfl⟩:=h;exact⟨es,clock,hb,F,by rw[Maps.size_eq,length_read];exact Nat.le_refl _,rfl⟩
theorem MpV.lt(h:MpV P k kq z0 w b c m):b<w.heap.size:=by obtain⟨D,h,_⟩:=h;exact h.lt
theorem MpV.fr(h:MpV P k kq z0 w b c m){G:Nat->Prop}(f:Fr G w w')(hG:¬G b):MpV P k kq z0 w' b c m:=by
 have hl:=h.lt;obtain⟨D,⟨es,clock,hb,r⟩,r2⟩:=h;exact⟨D,⟨es,clock,by rw[f.block b hl hG];exact hb,r⟩,r2⟩
theorem MpV.ofHeap(h:MpV P k kq z0 w b c m)(e':w'.heap[b]?=w.heap[b]?):MpV P k kq z0 w' b c m:=by
 obtain⟨D,⟨es,clock,hb,r⟩,r2⟩:=h;exact⟨D,⟨es,clock,by rw[e'];exact hb,r⟩,r2⟩
theorem MpV.alloc(h:MpV P k kq z0 w b c m)(o:Obj):MpV P k kq z0 (w.alloc o) b c m:=h.ofHeap (Below.heap_alloc w o b h.lt)
theorem MpV.made(P:Program)(k:TypeId)(kq:IntKind)(z0:Value)(w:World):MpV P k kq z0 (w.alloc (.map #[] 0)) w.heap.size 0 (λ_=>none):=
 ⟨.map [],World.ownsMap_made w P k _,rfl,λx _=>⟨λ_=>rfl,λy q=>(by cases q)⟩⟩
theorem MpV.put_of{D:DataW Value}(M:MV P t k e kq z0){n:Nat}{x:Int}{y:Value}(h:w'.ownsMap P k rdV b n (D.put (.int kq x) (.held y)))(ht:Tidy D)(hs:Maps.size D=c)(hv:SeesV kq z0 D m)(hx:(Lit.int kq x).wf=true):
  MpV P k kq z0 w' b (if(m x).isSome then c else c+1) (updV m x (some y)):=by
 have hsz:=size_put (k:=.int kq x) ht (.held y)
 have hh:Maps.has D (.int kq x)=(m x).isSome:=by
  cases em:m x with
  |none=>exact(hv x hx).1 em
  |some z=>exact((hv x hx).2 z em).1
 rw[hs,hh]at hsz;refine⟨_,by rw[<-hsz];exact owns_tightV h,hsz,λz hz=>?_⟩;by_cases e1:z=x
 .subst e1
  rw[updV_same];exact⟨λq=>(by cases q),λy' q=>by cases q;exact⟨has_put_same ht.isMap keyLit _,atKey_put_same ht.isMap keyLit _ _⟩⟩
 .rw[updV_other _ _ e1]
  have ne:Lit.int kq z≠Lit.int kq x:=λq=>e1 (by cases q;rfl)
  rw[has_put_other ne,atKey_put_other ne];exact hv z hz
theorem MpV.del_of{D:DataW Value}(M:MV P t k e kq z0){n:Nat}{x:Int}(h:w'.ownsMap P k rdV b n (D.del (.int kq x)))(ht:Tidy D)(hs:Maps.size D=c)(hv:SeesV kq z0 D m)(hx:(Lit.int kq x).wf=true):
  MpV P k kq z0 w' b (if(m x).isSome then c-1 else c) (updV m x none):=by
 have hsz:=size_del (k:=.int kq x) ht
 have hh:Maps.has D (.int kq x)=(m x).isSome:=by
  cases em:m x with
  |none=>exact(hv x hx).1 em
  |some z=>exact((hv x hx).2 z em).1
 rw[hs,hh]at hsz
 have hsz':Maps.size (D.del (.int kq x))=if(m x).isSome then c-1 else c:=by
  split at hsz
  .rename_i q;rw[if_pos q];omega
  .rename_i q;rw[if_neg q];omega
 refine⟨_,by rw[<-hsz'];exact owns_tightV h,hsz',λz hz=>?_⟩;by_cases e1:z=x
 .subst e1
  rw[updV_same];exact⟨λ_=>has_del_same,λy' q=>(by cases q)⟩
 .rw[updV_other _ _ e1]
  have ne:Lit.int kq z≠Lit.int kq x:=λq=>e1 (by cases q;rfl)
  rw[has_del_other ne,atKey_del_other ne];exact hv z hz
theorem MpV.sees(h:MpV P k kq z0 w b c m):∃D:DataW Value,w.ownsMap P k rdV b c D/\∀x,(Lit.int kq x).wf=true->Maps.has D (.int kq x)=(m x).isSome/\D.atKey (.int kq x) (.held z0)=.held ((m x).getD z0):=by
 obtain⟨D,h1,h2,h3⟩:=h;refine⟨D,h1,λx hx=>?_⟩
 cases em:m x with
 |none=>have:=(h3 x hx).1 em;exact⟨this,by rw[atKey_of_not_has this];rfl⟩
 |some z=>exact(h3 x hx).2 z em
theorem MpV.look_ok_run(M:MV P t k e kq z0)(h:MpV P k kq z0 w b c m){x:Int}(hx:(Lit.int kq x).wf=true):(Instr.lookup t (.map (some b)) (.int kq x) true).run P w=.ok (.tuple #[(m x).getD z0,.bool (m x).isSome]) w:=by
 obtain⟨D,h1,h2⟩:=h.sees;obtain⟨q1,q2⟩:=h2 x hx;obtain⟨v,ps,hrun,hv⟩:=h1.look_ok (int_keyed M.uk) M.ut (M.z w) (zd:=.held z0) (zp:=[]) rfl (keyOf_int_mk M.uk hx);rw[q2]at hv;simp only[rdV,Option.some.injEq,Prod.mk.injEq,DataW.held.injEq]at hv;rw[hrun,q1,hv.1]
theorem MpV.look_run(M:MV P t k e kq z0)(h:MpV P k kq z0 w b c m){x:Int}(hx:(Lit.int kq x).wf=true):(Instr.lookup t (.map (some b)) (.int kq x) false).run P w=.ok ((m x).getD z0) w:=by
 have hh:=h;obtain⟨D,h1,h2⟩:=h.sees;obtain⟨q1,q2⟩:=h2 x hx;obtain⟨es,clock,hb,F,_,rfl⟩:=h1;rcases Maps.fit_look false (int_keyed M.uk) M.ut (M.z w) hb F (keyOf_int_mk M.uk hx)with⟨hrun,_,hat⟩|⟨e0,y,_,_,hrun,hRv,hat,_⟩
 .rw[hat (.held z0)]at q2
  simp only[DataW.held.injEq]at q2;rw[<-q2];exact hrun
 .rw[hat (.held z0)]at q2
  simp only[rdV,Option.some.injEq]at hRv;rw[<-hRv]at q2;simp only[DataW.held.injEq]at q2;rw[<-q2];exact hrun
theorem MpV.put_run(M:MV P t k e kq z0)(h:MpV P k kq z0 w b c m)(hc:c<1000000){x:Int}(hx:(Lit.int kq x).wf=true)(y:Value):
  ∃w',(Instr.mapUpdate t (.map (some b)) (.int kq x) y).run P w=.ok () w'/\MpV P k kq z0 w' b (if(m x).isSome then c else c+1) (updV m x (some y))/\Fr (λi=>i=b) w w':=by
 obtain⟨D,h1,h2,h3⟩:=h;have K:=int_keyed M.uk;obtain⟨w',r1,r2,r3⟩:=h1.store K M.ut (by unfold maxLen;omega) (keyOf_int_mk M.uk hx) (val:=y) (d:=.held y) (ps:=[]) rfl;exact⟨w',r1,MpV.put_of M r2 (h1.tidy K) h2 h3 hx,turned_fr r3⟩
theorem MpV.del_run(M:MV P t k e kq z0)(h:MpV P k kq z0 w b c m){x:Int}(hx:(Lit.int kq x).wf=true)(ty:TypeId):
  ∃w',(Builtin.delete_ #[t,k] ty #[.map (some b),.int kq x]).run P w=.ok (.tuple #[]) w'/\MpV P k kq z0 w' b (if(m x).isSome then c-1 else c) (updV m x none)/\Fr (λi=>i=b) w w':=by
 obtain⟨D,h1,h2,h3⟩:=h;have K:=int_keyed M.uk;obtain⟨w',r,q1,q2⟩:=h1.drop K M.ut (keyOf_int_mk M.uk hx) ty;exact⟨w',r,MpV.del_of M q1 (h1.tidy K) h2 h3 hx,turned_fr q2⟩
variable{ops:Array Oper}{rest:List Oper}{o:Oper}{a:Act}{Q:Exit->Act->World->Prop}
theorem wp_delV(M:MV P t k e kq z0)(h:MpV P k kq z0 w b c m)(hg:o.guard=none)(mo xo:Operand)(hop:o.op=Op.call {callee:=Callee.builtin Builtin.delete,args:=#[mo,xo],argTypes:=#[t,k]})(hm:a.eval mo=.map (some b)){x:Int}(hx:a.eval xo=.int kq x)(hw:(Lit.int kq x).wf=true)
  (hK:∀w',MpV P k kq z0 w' b (if(m x).isSome then c-1 else c) (updV m x none)->Fr (λi=>i=b) w w'->wpList P ops Q rest (a.put o.dst (.tuple #[])) w'):wpList P ops Q (o::rest) a w:=by
 obtain⟨w',hrun,h1,h2⟩:=h.del_run M hw o.type;refine wpList_plain hg λK' hK'=>?_
 unfold Oper.wp;simp[execOp,hop,resolve,invoke,builtin,hm,hx,hrun,Result.andThen];exact hK' _ _ (hK _ h1 h2)
end
end
section
open Go.Proofs.Tryz Go.RowKit
theorem tell_idle(w:World):CallsD prog 77 #[] .returning w λe u' w'=>e=.returned (.tuple #[])/\u'=.returning/\w'=w:=by
 refine callsD_of_wpS func77 rfl λc₀ cs hu=>?_
 apply wpS_region;simp[wpOpsS,go_sem,recoverD,hu,ntmps77,Exit.thenS]
 cases c₀
 simp_all [bodyPostS,results,Tryz.results77,Exit.thenS,go_sem]
theorem ask_idle(w:World):CallsD prog 105 #[] .returning w λe u' w'=>e=.returned (.tuple #[])/\u'=.returning/\w'=w:=by
 refine callsD_of_wpS func105 rfl λc₀ cs hu=>?_
 apply wpS_region;simp[wpOpsS,go_sem,recoverD,hu,ntmps105,Exit.thenS]
 cases c₀
 simp_all [bodyPostS,results,Tryz.results105,Exit.thenS,go_sem]
def Own(g:FuncId):Prop:=∀(args:Array Value) (w:World),(callFunc g args).run prog w=.ok (.enter g args) w
section
variable{w:World}{pb:Nat}{g:FuncId}{rv:Value}
theorem tell_one{c1:Value}{Q:World->Prop}(ho:Own g)(hr:w.cell? ⟨pb,1,none⟩=some rv)(hlt:pb<w.heap.size)(hc:Calls prog g #[rv,c1] w λe w'=>e=.returned (.tuple #[])/\Q w'):
  Calls prog 48 #[.pointer (some ⟨pb,0,none⟩),.func (.func g) #[] #[c1]] w λe w'=>e=.returned (.tuple #[])/\Q w':=by
 have HC:=Hd hc;have HO:=Hd ho;clear hc ho
 go_enter_defers func48,ntmps48
 go_wp2_with fail
 rw[HO.out,Oper.upon_enter];refine HC.out.mono ?_;rintro e w1⟨rfl,hq⟩;have HQ:=Hd hq;clear hq;go_wp2;refine leaves_cons (f:=77) (args:=#[]) (by simp) (by simp[go_sem]) ?_;refine(tell_idle _).mono ?_;rintro e u' w''⟨rfl,rfl,rfl⟩;simp[Leaves,settle,results,Tryz.results48,go_sem];exact HQ.out
theorem tell_two{c1 c2:Value}{Q:World->Prop}(ho:Own g)(hr:w.cell? ⟨pb,1,none⟩=some rv)(hlt:pb<w.heap.size)(hc:Calls prog g #[rv,c1,c2] w λe w'=>e=.returned (.tuple #[])/\Q w'):
  Calls prog 48 #[.pointer (some ⟨pb,0,none⟩),.func (.func g) #[] #[c1,c2]] w λe w'=>e=.returned (.tuple #[])/\Q w':=by
 have HC:=Hd hc;have HO:=Hd ho;clear hc ho
 go_enter_defers func48,ntmps48
 go_wp2_with fail
 rw[HO.out,Oper.upon_enter];refine HC.out.mono ?_;rintro e w1⟨rfl,hq⟩;have HQ:=Hd hq;clear hq;go_wp2;refine leaves_cons (f:=77) (args:=#[]) (by simp) (by simp[go_sem]) ?_;refine(tell_idle _).mono ?_;rintro e u' w''⟨rfl,rfl,rfl⟩;simp[Leaves,settle,results,Tryz.results48,go_sem];exact HQ.out
end
end
section
open Go.Maps Go.Proofs.Tryz Go.RowKit
structure FrS where
 id:Nat
 val:Nat
 pins:Nat
 dirty:Bool
def zF:FrS:=⟨0,0,0,false⟩
def frX(x:FrS)(j:Nat):Value:=match j with
 |0=>.int .u32 x.id
 |1=>.int .u64 x.val
 |2=>.int .i64 x.pins
 |_=>.bool x.dirty
def frV(f:Nat->FrS)(i:Nat):Value:=frX (f (i/4)) (i%4)
theorem frV_at(f:Nat->FrS)(k:Nat){j:Nat}(hj:j<4):frV f (k*4+j)=frX (f k) j:=by
 unfold frV;rw[show(k*4+j)/4=k from by omega,show(k*4+j)%4=j from by omega]
theorem frV_0(f:Nat->FrS)(k:Nat):frV f (k*4)=.int .u32 (f k).id:=frV_at f k (j:=0) (by omega)
theorem frV_1(f:Nat->FrS)(k:Nat):frV f (k*4+1)=.int .u64 (f k).val:=frV_at f k (j:=1) (by omega)
theorem frV_2(f:Nat->FrS)(k:Nat):frV f (k*4+2)=.int .i64 (f k).pins:=frV_at f k (j:=2) (by omega)
theorem frV_3(f:Nat->FrS)(k:Nat):frV f (k*4+3)=.bool (f k).dirty:=frV_at f k (j:=3) (by omega)
theorem frV_set(f:Nat->FrS)(k:Nat){j:Nat}(hj:j<4)(x:FrS)(u:Value)(hu:u=frX x j)(ho:∀i,i<4->¬i=j->frX x i=frX (f k) i):upd (frV f) (k*4+j) u=frV (upd f k x):=by
 funext i
 by_cases e:i=k*4+j
 .subst e;rw[upd_same,frV_at _ _ hj,upd_same,hu]
 .rw[upd_other _ _ e]
  unfold frV;by_cases e2:i/4=k
  .rw[e2,upd_same,ho _ (by omega) (by omega)]
  .rw[upd_other _ _ e2]
theorem frV_setp(f:Nat->FrS)(k p:Nat):upd (frV f) (k*4+2) (.int .i64 (p:Nat))=frV (upd f k {f k with pins:=p}):=
 frV_set f k (by omega) _ _ rfl (λi hi h=>by
  match i,hi,h with
  |0,_,_=>rfl
  |1,_,_=>rfl
  |2,_,h=>exact absurd rfl h
  |3,_,_=>rfl)
theorem frV_setd(f:Nat->FrS)(k:Nat)(b:Bool):upd (frV f) (k*4+3) (.bool b)=frV (upd f k {f k with dirty:=b}):=
 frV_set f k (by omega) _ _ rfl (λi hi h=>by
  match i,hi,h with
  |0,_,_=>rfl
  |1,_,_=>rfl
  |2,_,_=>rfl
  |3,_,h=>exact absurd rfl h)
theorem frV_setv(f:Nat->FrS)(k v:Nat):upd (frV f) (k*4+1) (.int .u64 (v:Nat))=frV (upd f k {f k with val:=v}):=
 frV_set f k (by omega) _ _ rfl (λi hi h=>by
  match i,hi,h with
  |0,_,_=>rfl
  |1,_,h=>exact absurd rfl h
  |2,_,_=>rfl
  |3,_,_=>rfl)
theorem frV_all(f:Nat->FrS)(k:Nat)(x:FrS):upd (upd (upd (upd (frV f) (k*4) (.int .u32 (x.id:Nat))) (k*4+1) (.int .u64 (x.val:Nat))) (k*4+2) (.int .i64 (x.pins:Nat))) (k*4+3) (.bool x.dirty)=frV (upd f k x):=by
 funext i
 by_cases e2:i/4=k
 .have h4:i=k*4\/i=k*4+1\/i=k*4+2\/i=k*4+3:=by omega
  rcases h4 with rfl|rfl|rfl|rfl
  .rw[frV_0,upd_same,upd_other _ _ (by omega),upd_other _ _ (by omega),upd_other _ _ (by omega),upd_same]
  .rw[frV_1,upd_same,upd_other _ _ (by omega),upd_other _ _ (by omega),upd_same]
  .rw[frV_2,upd_same,upd_other _ _ (by omega),upd_same]
  .rw[frV_3,upd_same,upd_same]
 .rw[upd_other _ _ (by omega),upd_other _ _ (by omega),upd_other _ _ (by omega),upd_other _ _ (by omega)]
  unfold frV;rw[upd_other _ _ e2]
def plV(pl:Nat->Option Int):Int->Option Value:=λx=>if x<0 then none else(pl x.toNat).map (Value.int .i64)
def updO(pl:Nat->Option Int)(id:Nat)(x:Option Int):Nat->Option Int:=λy=>if y=id then x else pl y
theorem updO_same(pl:Nat->Option Int)(id:Nat)(x:Option Int):updO pl id x id=x:=by simp[updO]
theorem updO_other(pl:Nat->Option Int){id y:Nat}(x:Option Int)(h:¬y=id):updO pl id x y=pl y:=by simp[updO,h]
theorem plV_at(pl:Nat->Option Int)(id:Nat):plV pl (id:Int)=(pl id).map (Value.int .i64):=by
 unfold plV;rw[if_neg (by omega)];rfl
theorem plV_upd(pl:Nat->Option Int)(id:Nat)(x:Option Int):updV (plV pl) (id:Int) (x.map (Value.int .i64))=plV (updO pl id x):=by
 funext z
 by_cases e:z=(id:Int)
 .subst e;rw[updV_same,plV_at,updO_same]
 .rw[updV_other _ _ e]
  unfold plV;by_cases h:z<0
  .rw[if_pos h,if_pos h]
  .rw[if_neg h,if_neg h,updO_other _ _ (by omega)]
theorem MVi:MV prog 61 32 3 .u32 (.int .i64 0):=⟨underlying61,underlying32,λw=>by kernel_rfl⟩
structure PP where
 n:Nat
 pb:Nat
 db:Nat
 fb:Nat
 mb:Nat
 rv:Value
 ev:Value
 eh:Nat->Nat
 eL:Nat
 iv:Value
 ih:Nat->Nat
 iL:Nat
def PP.own(p:PP)(i:Nat):Prop:=i=p.pb\/i=p.fb\/i=p.mb\/LF p.ev p.eh p.eL i\/LF p.iv p.ih p.iL i
def PP.ptr(p:PP):Value:=.pointer (some ⟨p.pb,0,none⟩)
def pH(p:PP)(ce ci sc:Nat)(i:Nat):Value:=match i with
 |0=>.pointer (some ⟨p.db,0,none⟩)
 |1=>p.rv
 |2=>.slice (some ⟨p.fb,0,none⟩) p.n p.n
 |3=>.map (some p.mb)
 |4=>.int .i64 p.n
 |5=>.int .i64 ce
 |6=>p.ev
 |7=>.int .i64 p.n
 |8=>.int .i64 ci
 |9=>p.iv
 |_=>.int .i64 sc
theorem pH_5(p:PP)(ce ci sc x:Nat):upd (pH p ce ci sc) 5 (.int .i64 (x:Nat))=pH p x ci sc:=by
 funext j
 match j with
 |0=>rfl
 |1=>rfl
 |2=>rfl
 |3=>rfl
 |4=>rfl
 |5=>rfl
 |6=>rfl
 |7=>rfl
 |8=>rfl
 |9=>rfl
 |j+10=>simp[upd,pH]
theorem pH_8(p:PP)(ce ci sc x:Nat):upd (pH p ce ci sc) 8 (.int .i64 (x:Nat))=pH p ce x sc:=by
 funext j
 match j with
 |0=>rfl
 |1=>rfl
 |2=>rfl
 |3=>rfl
 |4=>rfl
 |5=>rfl
 |6=>rfl
 |7=>rfl
 |8=>rfl
 |9=>rfl
 |j+10=>simp[upd,pH]
theorem pH_10(p:PP)(ce ci sc x:Nat):∀i,i<11->upd (pH p ce ci sc) 10 (.int .i64 (x:Nat)) i=pH p ce ci x i:=by
 intro j hj
 match j with
 |0=>rfl
 |1=>rfl
 |2=>rfl
 |3=>rfl
 |4=>rfl
 |5=>rfl
 |6=>rfl
 |7=>rfl
 |8=>rfl
 |9=>rfl
 |10=>rfl
 |j+11=>omega
structure MP(w:World)(p:PP)(f:Nat->FrS)(pl:Nat->Option Int)(E I:Nat->Bool)(sc m:Nat):Prop where
 hd:Blk w p.pb 11 (pH p (cntB E p.n) (cntB I p.n) sc)
 fr:Blk w p.fb (p.n*4) (frV f)
 mp:∃c,c<=m/\MpV prog 32 .u32 (.int .i64 0) w p.mb c (plV pl)
 se:LS w p.n E p.ev p.eh p.eL
 si:LS w p.n I p.iv p.ih p.iL
 d1:¬p.fb=p.pb/\¬p.mb=p.pb/\¬p.mb=p.fb
 d2:∀i,LF p.ev p.eh p.eL i->¬i=p.pb/\¬i=p.fb/\¬i=p.mb/\¬LF p.iv p.ih p.iL i
 d3:∀i,LF p.iv p.ih p.iL i->¬i=p.pb/\¬i=p.fb/\¬i=p.mb
 tab:TabT w
 nt:¬p.own 0
 bd:sc<=m/\∀i,(f i).id<4294967296/\(f i).val<18446744073709551616/\(f i).pins<=m
section
variable{w w':World}{p:PP}{f:Nat->FrS}{pl:Nat->Option Int}{E I:Nat->Bool}{sc m:Nat}
theorem MP.hn(H:MP w p f pl E I sc m):1<=p.n/\p.n<=65535:=⟨H.se.r.lo,H.se.r.hi⟩
theorem MP.fro(H:MP w p f pl E I sc m){G:Nat->Prop}(g:Fr G w w')(hG:∀i,p.own i->¬G i)(ht:¬G 0):MP w' p f pl E I sc m:=by
 obtain⟨c,hc,hm⟩:=H.mp;exact⟨H.hd.fr g (hG _ (.inl rfl)),H.fr.fr g (hG _ (.inr (.inl rfl))),⟨c,hc,hm.fr g (hG _ (.inr (.inr (.inl rfl))))⟩,⟨H.se.r.fr g (λk q=>hG k (.inr (.inr (.inr (.inl q))))),H.se.dom⟩,⟨H.si.r.fr g (λk q=>hG k (.inr (.inr (.inr (.inr q))))),H.si.dom⟩,H.d1,H.d2,H.d3,H.tab.fr g ht,H.nt,H.bd⟩
theorem MP.fr0(H:MP w p f pl E I sc m)(g:Fr NoF w w'):MP w' p f pl E I sc m:=H.fro g (λ_ _ q=>q) id
theorem MP.lt(H:MP w p f pl E I sc m):∀i,p.own i->i<w.heap.size:=by
 obtain⟨c,hc,hm⟩:=H.mp;rintro i(rfl|rfl|rfl|q|q)
 .exact H.hd.lt
 .exact H.fr.lt
 .exact hm.lt
 .exact H.se.r.lt i q
 .exact H.si.r.lt i q
theorem MP.more(H:MP w p f pl E I sc m){k:Nat}(hk:m<=k):MP w p f pl E I sc k:=by
 obtain⟨c,hc,hm⟩:=H.mp;exact⟨H.hd,H.fr,⟨c,by omega,hm⟩,H.se,H.si,H.d1,H.d2,H.d3,H.tab,H.nt,by have:=H.bd.1;omega,λi=>⟨(H.bd.2 i).1,(H.bd.2 i).2.1,by have:=(H.bd.2 i).2.2;omega⟩⟩
theorem MP.ce(H:MP w p f pl E I sc m)(i:Nat)(hi:i<11):w.cell? ⟨p.pb,i,none⟩=some (pH p (cntB E p.n) (cntB I p.n) sc i):=H.hd.cell hi
theorem MP.cf(H:MP w p f pl E I sc m){k:Nat}(hk:k<p.n):w.cell? ⟨p.fb,k*4,none⟩=some (.int .u32 (f k).id)/\w.cell? ⟨p.fb,k*4+1,none⟩=some (.int .u64 (f k).val)/\w.cell? ⟨p.fb,k*4+2,none⟩=some (.int .i64 (f k).pins)/\w.cell? ⟨p.fb,k*4+3,none⟩=some (.bool (f k).dirty):=by
 have h0:=H.fr.cell (i:=k*4) (by omega);have h1:=H.fr.cell (i:=k*4+1) (by omega);have h2:=H.fr.cell (i:=k*4+2) (by omega);have h3:=H.fr.cell (i:=k*4+3) (by omega);rw[frV_0]at h0;rw[frV_1]at h1;rw[frV_2]at h2;rw[frV_3]at h3;exact⟨h0,h1,h2,h3⟩
theorem MP.cE(H:MP w p f pl E I sc m):LC w p.pb 4 11 (pH p (cntB E p.n) (cntB I p.n) sc) p.n E p.ev p.eh p.eL:=⟨H.hd,by omega,rfl,rfl,rfl,H.se,λq=>(H.d2 _ q).1 rfl⟩
theorem MP.cI(H:MP w p f pl E I sc m):LC w p.pb 7 11 (pH p (cntB E p.n) (cntB I p.n) sc) p.n I p.iv p.ih p.iL:=⟨H.hd,by omega,rfl,rfl,rfl,H.si,λq=>(H.d3 _ q).1 rfl⟩
theorem wf_u{id:Nat}(h:id<4294967296):(Lit.int .u32 (id:Nat)).wf=true:=WalkArith.wf_u32 ⟨by omega,by omega⟩
theorem MP.look(H:MP w p f pl E I sc m){id:Nat}(hid:id<4294967296):(Instr.lookup 61 (.map (some p.mb)) (.int .u32 (id:Nat)) true).run prog w=.ok (.tuple #[.int .i64 ((pl id).getD 0),.bool (pl id).isSome]) w:=by
 obtain⟨c,hc,hm⟩:=H.mp;have:=hm.look_ok_run MVi (wf_u hid);rw[plV_at]at this;rw[this]
 cases pl id<;>rfl
theorem MP.put(H:MP w p f pl E I sc m)(hm:m<900000){id:Nat}(hid:id<4294967296)(x:Int):∃w',(Instr.mapUpdate 61 (.map (some p.mb)) (.int .u32 (id:Nat)) (.int .i64 x)).run prog w=.ok () w'/\MP w' p f (updO pl id (some x)) E I sc (m+1)/\Fr (λi=>i=p.mb) w w':=by
 obtain⟨c,hc,hm⟩:=H.mp;obtain⟨w',h1,h2,h3⟩:=hm.put_run MVi (by omega) (wf_u hid) (.int .i64 x);have h4:=plV_upd pl id (some x);simp only[Option.map_some]at h4;rw[h4]at h2;refine⟨w',h1,⟨H.hd.fr h3 (λq=>H.d1.2.1 q.symm),H.fr.fr h3 (λq=>H.d1.2.2 q.symm),⟨_,?_,h2⟩,⟨H.se.r.fr h3 (λk q e=>(H.d2 k q).2.2.1 e),H.se.dom⟩,⟨H.si.r.fr h3 (λk q e=>(H.d3 k q).2.2 e),H.si.dom⟩,H.d1,H.d2,H.d3,H.tab.fr h3 (λe=>H.nt (.inr (.inr (.inl e)))),H.nt,by have:=H.bd.1;omega,λi=>⟨(H.bd.2 i).1,(H.bd.2 i).2.1,by have:=(H.bd.2 i).2.2;omega⟩⟩,h3⟩
 split<;>omega
theorem MP.del(H:MP w p f pl E I sc m){id:Nat}(hid:id<4294967296)(ty:TypeId):∃w',(Builtin.delete_ #[61,32] ty #[.map (some p.mb),.int .u32 (id:Nat)]).run prog w=.ok (.tuple #[]) w'/\MP w' p f (updO pl id none) E I sc m/\Fr (λi=>i=p.mb) w w':=by
 obtain⟨c,hc,hm⟩:=H.mp;obtain⟨w',h1,h2,h3⟩:=hm.del_run MVi (wf_u hid) ty;have h4:=plV_upd pl id none;simp only[Option.map_none]at h4;rw[h4]at h2;refine⟨w',h1,⟨H.hd.fr h3 (λq=>H.d1.2.1 q.symm),H.fr.fr h3 (λq=>H.d1.2.2 q.symm),⟨_,?_,h2⟩,⟨H.se.r.fr h3 (λk q e=>(H.d2 k q).2.2.1 e),H.se.dom⟩,⟨H.si.r.fr h3 (λk q e=>(H.d3 k q).2.2 e),H.si.dom⟩,H.d1,H.d2,H.d3,H.tab.fr h3 (λe=>H.nt (.inr (.inr (.inl e)))),H.nt,H.bd⟩,h3⟩
 split<;>omega
theorem MP.frs(H:MP w p f pl E I sc m){f':Nat->FrS}(hb:Blk w' p.fb (p.n*4) (frV f'))(g:Fr (λi=>i=p.fb) w w'){m':Nat}(hm:m<=m')(hk:∀i,(f' i).id<4294967296/\(f' i).val<18446744073709551616/\(f' i).pins<=m'):MP w' p f' pl E I sc m':=by
 obtain⟨c,hc,hm⟩:=H.mp;exact⟨H.hd.fr g (λq=>H.d1.1 q.symm),hb,⟨c,by omega,hm.fr g (λq=>H.d1.2.2 q)⟩,⟨H.se.r.fr g (λk q e=>(H.d2 k q).2.1 e),H.se.dom⟩,⟨H.si.r.fr g (λk q e=>(H.d3 k q).2.1 e),H.si.dom⟩,H.d1,H.d2,H.d3,H.tab.fr g (λe=>H.nt (.inr (.inl e))),H.nt,by have:=H.bd.1;omega,hk⟩
theorem MP.scan(H:MP w p f pl E I sc m){x m':Nat}(hx:x<=m')(hm:m<=m'):MP (w.setCell ⟨p.pb,10,none⟩ (.int .i64 (x:Nat))) p f pl E I x m'/\Fr (λi=>i=p.pb) w (w.setCell ⟨p.pb,10,none⟩ (.int .i64 (x:Nat))):=by
 have g:Fr (λi=>i=p.pb) w (w.setCell ⟨p.pb,10,none⟩ (.int .i64 (x:Nat))):=(Fr.refl (λi=>i=p.pb) w).setCell (p:=⟨p.pb,10,none⟩) (.inl rfl) _;obtain⟨c,hc,hm⟩:=H.mp;exact⟨⟨(H.hd.set _ _).congr (pH_10 p _ _ _ _),H.fr.fr g (λq=>H.d1.1 q),⟨c,by omega,hm.fr g (λq=>H.d1.2.1 q)⟩,⟨H.se.r.fr g (λk q e=>(H.d2 k q).1 e),H.se.dom⟩,⟨H.si.r.fr g (λk q e=>(H.d3 k q).1 e),H.si.dom⟩,H.d1,H.d2,H.d3,H.tab.fr g (λe=>H.nt (.inl e)),H.nt,hx,λi=>⟨(H.bd.2 i).1,(H.bd.2 i).2.1,by have:=(H.bd.2 i).2.2;omega⟩⟩,g⟩
theorem mp_lenE(H:MP w p f pl E I sc m):Calls prog 65 #[.pointer (some ⟨p.pb,4,none⟩)] w λe w'=>e=.returned (.int .i64 (cntB E p.n:Nat))/\w=w':=len_calls H.cE
theorem mp_lenI(H:MP w p f pl E I sc m):Calls prog 65 #[.pointer (some ⟨p.pb,7,none⟩)] w λe w'=>e=.returned (.int .i64 (cntB I p.n:Nat))/\w=w':=len_calls H.cI
theorem mp_hasI(H:MP w p f pl E I sc m)(x:Int):Calls prog 76 #[.pointer (some ⟨p.pb,7,none⟩),.int .i64 x] w λe w'=>e=.returned (.bool (hasZ I x))/\w=w':=has_calls H.cI x
theorem mp_firstE(H:MP w p f pl E I sc m):Calls prog 68 #[.pointer (some ⟨p.pb,4,none⟩)] w λe w'=>w=w'/\((cntB E p.n=0/\(∀x,E x=false)/\e=.returned (.int .i64 (-1)))\/∃x,x<p.n/\IsLeast E x/\e=.returned (.int .i64 (x:Nat))):=first_calls H.tab H.cE
theorem mp_firstI(H:MP w p f pl E I sc m):Calls prog 68 #[.pointer (some ⟨p.pb,7,none⟩)] w λe w'=>w=w'/\((cntB I p.n=0/\(∀x,I x=false)/\e=.returned (.int .i64 (-1)))\/∃x,x<p.n/\IsLeast I x/\e=.returned (.int .i64 (x:Nat))):=first_calls H.tab H.cI
theorem MP.setE(H:MP w p f pl E I sc m){c:Nat->Value}{E':Nat->Bool}(h:LC w' p.pb 4 11 c p.n E' p.ev p.eh p.eL)(hc:c=pH p (cntB E' p.n) (cntB I p.n) sc)(g:Fr (SF p.pb p.ev p.eh p.eL) w w'):MP w' p f pl E' I sc m/\Fr p.own w w':=by
 subst hc;obtain⟨c,hc,hm⟩:=H.mp;refine⟨⟨h.blk,H.fr.fr g ?_,⟨c,hc,hm.fr g ?_⟩,h.ls,⟨H.si.r.fr g ?_,H.si.dom⟩,H.d1,H.d2,H.d3,H.tab.fr g ?_,H.nt,H.bd⟩,g.mono ?_⟩
 .rintro(q|q)
  .exact H.d1.1 q
  .exact(H.d2 _ q).2.1 rfl
 .rintro(q|q)
  .exact H.d1.2.1 q
  .exact(H.d2 _ q).2.2.1 rfl
 .rintro k q(e|e)
  .exact(H.d3 k q).1 e
  .exact(H.d2 _ e).2.2.2 q
 .rintro(q|q)
  .exact H.nt (.inl q)
  .exact H.nt (.inr (.inr (.inr (.inl q))))
 .rintro i(q|q)
  .exact .inl q
  .exact .inr (.inr (.inr (.inl q)))
theorem MP.setI(H:MP w p f pl E I sc m){c:Nat->Value}{I':Nat->Bool}(h:LC w' p.pb 7 11 c p.n I' p.iv p.ih p.iL)(hc:c=pH p (cntB E p.n) (cntB I' p.n) sc)(g:Fr (SF p.pb p.iv p.ih p.iL) w w'):MP w' p f pl E I' sc m/\Fr p.own w w':=by
 subst hc;obtain⟨c,hc,hm⟩:=H.mp;refine⟨⟨h.blk,H.fr.fr g ?_,⟨c,hc,hm.fr g ?_⟩,⟨H.se.r.fr g ?_,H.se.dom⟩,h.ls,H.d1,H.d2,H.d3,H.tab.fr g ?_,H.nt,H.bd⟩,g.mono ?_⟩
 .rintro(q|q)
  .exact H.d1.1 q
  .exact(H.d3 _ q).2.1 rfl
 .rintro(q|q)
  .exact H.d1.2.1 q
  .exact(H.d3 _ q).2.2 rfl
 .rintro k q(e|e)
  .exact(H.d2 k q).1 e
  .exact(H.d2 k q).2.2.2 e
 .rintro(q|q)
  .exact H.nt (.inl q)
  .exact H.nt (.inr (.inr (.inr (.inr q))))
 .rintro i(q|q)
  .exact .inl q
  .exact .inr (.inr (.inr (.inr q)))
theorem updB_id{S:Nat->Bool}{x:Nat}{b:Bool}(h:S x=b):updB S x b=S:=by
 funext y
 by_cases e:y=x
 .subst e;rw[updB_same,h]
 .rw[updB_other _ _ e]
theorem mp_addE(H:MP w p f pl E I sc m){k:Nat}(hk:k<p.n)(hE:E k=false):Calls prog 47 #[.pointer (some ⟨p.pb,4,none⟩),.int .i64 k] w λe w'=>e=.returned (.tuple #[])/\MP w' p f pl (updB E k true) I sc m/\Fr p.own w w':=
 (add_in H.cE hk hE).mono λe w' ⟨he,h,g⟩=>⟨he,H.setE h (by rw[show 4+1=5 from rfl,show((cntB E p.n:Nat)+1:Int)=((cntB (updB E k true) p.n:Nat):Int)from by rw[cntB_add E hE p.n hk];omega];exact pH_5 _ _ _ _ _) g⟩
theorem mp_addI(H:MP w p f pl E I sc m){k:Nat}(hk:k<p.n)(hE:I k=false):Calls prog 47 #[.pointer (some ⟨p.pb,7,none⟩),.int .i64 k] w λe w'=>e=.returned (.tuple #[])/\MP w' p f pl E (updB I k true) sc m/\Fr p.own w w':=
 (add_in H.cI hk hE).mono λe w' ⟨he,h,g⟩=>⟨he,H.setI h (by rw[show 7+1=8 from rfl,show((cntB I p.n:Nat)+1:Int)=((cntB (updB I k true) p.n:Nat):Int)from by rw[cntB_add I hE p.n hk];omega];exact pH_8 _ _ _ _ _) g⟩
theorem mp_dropE(H:MP w p f pl E I sc m){k:Nat}(hk:k<p.n):Calls prog 74 #[.pointer (some ⟨p.pb,4,none⟩),.int .i64 k] w λe w'=>e=.returned (.tuple #[])/\MP w' p f pl (updB E k false) I sc m/\Fr p.own w w':=by
 cases hE:E k with
 |false=>
  rw[updB_id hE];refine(drop_no H.cE (x:=(k:Int)) (by unfold hasZ;rw[if_neg (by omega)];exact hE)).mono ?_;rintro e w'⟨he,rfl⟩;exact⟨he,H,Fr.refl _ _⟩
 |true=>
  have hq:=cntB_drop E hE p.n hk;exact(drop_in H.cE hE).mono λe w' ⟨he,h,g⟩=>⟨he,H.setE h (by rw[show 4+1=5 from rfl,show((cntB E p.n:Nat)-1:Int)=((cntB (updB E k false) p.n:Nat):Int)from by omega];exact pH_5 _ _ _ _ _) g⟩
theorem mp_dropI(H:MP w p f pl E I sc m){k:Nat}(hk:k<p.n):Calls prog 74 #[.pointer (some ⟨p.pb,7,none⟩),.int .i64 k] w λe w'=>e=.returned (.tuple #[])/\MP w' p f pl E (updB I k false) sc m/\Fr p.own w w':=by
 cases hE:I k with
 |false=>
  rw[updB_id hE];refine(drop_no H.cI (x:=(k:Int)) (by unfold hasZ;rw[if_neg (by omega)];exact hE)).mono ?_;rintro e w'⟨he,rfl⟩;exact⟨he,H,Fr.refl _ _⟩
 |true=>
  have hq:=cntB_drop I hE p.n hk;exact(drop_in H.cI hE).mono λe w' ⟨he,h,g⟩=>⟨he,H.setI h (by rw[show 7+1=8 from rfl,show((cntB I p.n:Nat)-1:Int)=((cntB (updB I k false) p.n:Nat):Int)from by omega];exact pH_8 _ _ _ _ _) g⟩
end
end
section
open Go.Proofs.Tryz Go.RowKit
structure Adv(σ:Type) where
 miss:σ->Nat->σ
 access:σ->Nat->Nat->σ
 set:σ->Nat->Bool->σ
 victim:σ->Nat->Option Nat
 aft:σ->Nat->σ
 remove:σ->Nat->σ
def Tld{τ:Type}(RR:World->τ->(Nat->Prop)->Prop)(s':τ)(F:Nat->Prop)(w w':World):Prop:=∃F',RR w' s' F'/\Fr F w w'/\∀i,F' i->F i\/w.heap.size<=i
def Goer(n:Nat)(pg:Nat->Nat)(ev:Nat->Bool)(x:Nat):Prop:=x<n/\¬pg x=0/\ev x=true
structure RepSys{τ:Type}(P:Adv τ)(RR:World->τ->(Nat->Prop)->Prop)(pb:Nat)(rv:Value)(n:Nat)(ok:Nat->τ->(Nat->Nat)->(Nat->Bool)->Prop):Prop where
 fr:∀{w w':World} {s:τ} {F G:Nat->Prop},RR w s F->Fr G w w'->(∀i,F i->¬G i)->RR w' s F
 lt:∀{w:World} {s:τ} {F:Nat->Prop},RR w s F->∀i,F i->i<w.heap.size
 more:∀{m k:Nat} {s:τ} {pg:Nat->Nat} {ev:Nat->Bool},ok m s pg ev->m<=k->ok k s pg ev
 same:∀{m:Nat} {s:τ} {pg pg':Nat->Nat} {ev ev':Nat->Bool},ok m s pg ev->(∀i,i<n->pg i=pg' i)->(∀i,i<n->¬pg i=0->ev i=ev' i)->ok m s pg' ev'
 miss:∀{w:World} {s:τ} {F:Nat->Prop} {m:Nat} {pg:Nat->Nat} {ev:Nat->Bool} {id b:Nat},RR w s F->ok m s pg ev->m<90000->1<=id->id<4294967296->(∀i,i<n->¬pg i=id)->
  w.cell? ⟨b,0,none⟩=some (.int .u32 id)->b<w.heap.size->¬F b->Calls prog 67 #[rv,.pointer (some ⟨b,0,none⟩)] w λe w'=>e=.returned (.tuple #[])/\Tld RR (P.miss s id) F w w'
 acc:∀{w:World} {s:τ} {F:Nat->Prop} {m:Nat} {pg:Nat->Nat} {ev:Nat->Bool} {id k b1 b2:Nat} {g:FuncId},RR w s F->ok m s pg ev->m<90000->1<=id->id<4294967296->k<n->(pg k=id\/pg k=0/\∀i,i<n->¬pg i=id)->
  w.cell? ⟨b1,0,none⟩=some (.int .i64 k)->w.cell? ⟨b2,0,none⟩=some (.int .u32 id)->b1<w.heap.size->b2<w.heap.size->¬F b1->¬F b2->
  (g=70\/g=75\/g=78)->
  Calls prog g #[rv,.pointer (some ⟨b1,0,none⟩),.pointer (some ⟨b2,0,none⟩)] w λe w'=>e=.returned (.tuple #[])/\Tld RR (P.access s k id) F w w'
 setT:∀{w:World} {s:τ} {F:Nat->Prop} {m:Nat} {pg:Nat->Nat} {ev:Nat->Bool} {k b:Nat} {g:FuncId},RR w s F->ok m s pg ev->m<90000->k<n->¬pg k=0->
  w.cell? ⟨b,0,none⟩=some (.int .i64 k)->b<w.heap.size->¬F b->(g=71\/g=49)->
  Calls prog g #[rv,.pointer (some ⟨b,0,none⟩)] w λe w'=>e=.returned (.tuple #[])/\Tld RR (P.set s k true) F w w'
 setF:∀{w:World} {s:τ} {F:Nat->Prop} {m:Nat} {pg:Nat->Nat} {ev:Nat->Bool} {k b:Nat},RR w s F->ok m s pg ev->m<90000->k<n->¬pg k=0->
  w.cell? ⟨b,0,none⟩=some (.int .i64 k)->b<w.heap.size->¬F b->
  Calls prog 79 #[rv,.pointer (some ⟨b,0,none⟩)] w λe w'=>e=.returned (.tuple #[])/\Tld RR (P.set s k false) F w w'
 rem:∀{w:World} {s:τ} {F:Nat->Prop} {m:Nat} {pg:Nat->Nat} {ev:Nat->Bool} {k b:Nat} {g:FuncId},RR w s F->ok m s pg ev->m<90000->k<n->¬pg k=0->
  w.cell? ⟨b,0,none⟩=some (.int .i64 k)->b<w.heap.size->¬F b->(g=89\/g=80)->
  Calls prog g #[rv,.pointer (some ⟨b,0,none⟩)] w λe w'=>e=.returned (.tuple #[])/\Tld RR (P.remove s k) F w w'
 ask:∀{w:World} {s:τ} {F:Nat->Prop} {m:Nat} {pg:Nat->Nat} {ev:Nat->Bool} {id:Nat},RR w s F->ok m s pg ev->m<90000->1<=id->id<4294967296->(∀i,i<n->¬pg i=id)->(∃x,Goer n pg ev x)->
  w.cell? ⟨pb,1,none⟩=some rv->pb<w.heap.size->¬F pb->Calls prog 88 #[.pointer (some ⟨pb,0,none⟩),.int .u32 id] w λe w'=>
   (match P.victim s id with
    |none=>∃x:Int,e=.returned (.tuple #[.int .i64 x,.bool false])
    |some a=>e=.returned (.tuple #[.int .i64 a,.bool true]))/\Tld RR (P.aft s id) F w w'
 okMiss:∀{m:Nat} {s:τ} {pg:Nat->Nat} {ev:Nat->Bool} {id:Nat},ok m s pg ev->m<90000->1<=id->(∀i,i<n->¬pg i=id)->ok (m+1) (P.miss s id) pg ev
 okNew:∀{m:Nat} {s:τ} {pg:Nat->Nat} {ev:Nat->Bool} {id k:Nat},ok m s pg ev->m<90000->1<=id->id<4294967296->k<n->pg k=0->(∀i,i<n->¬pg i=id)->ok (m+1) (P.access s k id) (upd pg k id) (upd ev k false)
 okOld:∀{m:Nat} {s:τ} {pg:Nat->Nat} {ev:Nat->Bool} {id k:Nat},ok m s pg ev->m<90000->1<=id->k<n->pg k=id->ok (m+1) (P.access s k id) pg ev
 okSet:∀{m:Nat} {s:τ} {pg:Nat->Nat} {ev:Nat->Bool} {k:Nat} (b:Bool),ok m s pg ev->m<90000->k<n->¬pg k=0->ok (m+1) (P.set s k b) pg (upd ev k b)
 okRem:∀{m:Nat} {s:τ} {pg:Nat->Nat} {ev:Nat->Bool} {k:Nat},ok m s pg ev->m<90000->k<n->¬pg k=0->ok (m+1) (P.remove s k) (upd pg k 0) (upd ev k false)
 okYes:∀{m:Nat} {s:τ} {pg:Nat->Nat} {ev:Nat->Bool} {id x:Nat},ok m s pg ev->m<90000->1<=id->(∀i,i<n->¬pg i=id)->P.victim s id=some x->Goer n pg ev x->ok (m+1) (P.aft s id) (upd pg x 0) (upd ev x false)
 okNo:∀{m:Nat} {s:τ} {pg:Nat->Nat} {ev:Nat->Bool} {id:Nat},ok m s pg ev->m<90000->1<=id->(∀i,i<n->¬pg i=id)->(∀x,P.victim s id=some x->¬Goer n pg ev x)->ok (m+1) (P.aft s id) pg ev
end
section
open Go.Maps Go.Proofs.Tryz Go.RowKit
section
variable{w w':World}{p:PP}{f:Nat->FrS}{pl:Nat->Option Int}{E I:Nat->Bool}{sc m:Nat}
theorem find_none(H:MP w p f pl E I sc m){id:Nat}(hid:id<4294967296)(hp:pl id=none):Calls prog 30 #[p.ptr,.int .u32 id] w λe w'=>e=.returned (.tuple #[.int .i64 (-1),.int .i64 3])/\w=w':=by
 have c3:w.cell? ⟨p.pb,3,none⟩=some (.map (some p.mb)):=H.ce 3 (by omega);have lk:=H.look hid;rw[hp]at lk;simp only[Option.getD_none,Option.isSome_none]at lk;have lb:=H.hd.lt;obtain⟨n,pb,db,fb,mb,rv,ev,eh,eL,iv,ih,iL⟩:=p;unfold PP.ptr
 dsimp only at*
 clear H hp;go_enter func30,ntmps30;go_wp2;go_returns;exact⟨rfl,rfl⟩
theorem find_some(H:MP w p f pl E I sc m){id:Nat}(hid:id<4294967296){x:Int}(hp:pl id=some x):Calls prog 30 #[p.ptr,.int .u32 id] w λe w'=>e=.returned (.tuple #[.int .i64 x,.int .i64 0])/\w=w':=by
 have c3:w.cell? ⟨p.pb,3,none⟩=some (.map (some p.mb)):=H.ce 3 (by omega);have lk:=H.look hid;rw[hp]at lk;simp only[Option.getD_some,Option.isSome_some]at lk;have lb:=H.hd.lt;obtain⟨n,pb,db,fb,mb,rv,ev,eh,eL,iv,ih,iL⟩:=p;unfold PP.ptr
 dsimp only at*
 clear H hp;go_enter func30,ntmps30;go_wp2;go_returns;exact⟨rfl,rfl⟩
def HeldNo(n:Nat)(f:Nat->FrS)(pl:Nat->Option Int)(id e:Nat):Prop:=(pl id=none/\e=3)\/(pl id=some (-1)/\e=5)\/∃k:Nat,k<n/\pl id=some (k:Int)/\(f k).pins=0/\e=5
theorem held_no(H:MP w p f pl E I sc m){id e0:Nat}(hid:id<4294967296)(hp:HeldNo p.n f pl id e0):Calls prog 29 #[p.ptr,.int .u32 id] w λe w'=>e=.returned (.tuple #[.int .i64 (-1),.int .i64 e0])/\w=w':=by
 have c2:w.cell? ⟨p.pb,2,none⟩=some (.slice (some ⟨p.fb,0,none⟩) p.n p.n):=H.ce 2 (by omega);have lb:=H.hd.lt;have lf:=H.fr.lt;have hn:=H.hn;rcases hp with⟨hp,rfl⟩|⟨hp,rfl⟩|⟨k,hk,hp,h0,rfl⟩
 .have HC:=Hd (find_none H hid hp)
  obtain⟨n,pb,db,fb,mb,rv,ev,eh,eL,iv,ih,iL⟩:=p;unfold PP.ptr at*
  dsimp only at*
  clear H hp;go_enter func29,ntmps29
  go_wp2_with fail
  refine HC.out.mono ?_;rintro e w1⟨rfl,rfl⟩;go_wp2;go_returns;exact⟨rfl,rfl⟩
 .have HC:=Hd (find_some H hid hp)
  obtain⟨n,pb,db,fb,mb,rv,ev,eh,eL,iv,ih,iL⟩:=p;unfold PP.ptr at*
  dsimp only at*
  clear H hp;go_enter func29,ntmps29
  go_wp2_with fail
  refine HC.out.mono ?_;rintro e w1⟨rfl,rfl⟩;go_wp2;go_returns;exact⟨rfl,rfl⟩
 .have HC:=Hd (find_some H hid hp)
  obtain⟨_,_,cp,_⟩:=H.cf hk;rw[h0]at cp;obtain⟨n,pb,db,fb,mb,rv,ev,eh,eL,iv,ih,iL⟩:=p;unfold PP.ptr at*
  dsimp only at*
  clear H hp h0;go_enter func29,ntmps29
  go_wp2_with fail
  refine HC.out.mono ?_;rintro e w1⟨rfl,rfl⟩;have hne:((k:Int)==(-1))=false:=by simp<;>omega
  go_wp2;go_returns;exact⟨rfl,rfl⟩
theorem held_yes(H:MP w p f pl E I sc m){id k:Nat}(hid:id<4294967296)(hk:k<p.n)(hp:pl id=some (k:Int))(h0:¬(f k).pins=0):Calls prog 29 #[p.ptr,.int .u32 id] w λe w'=>e=.returned (.tuple #[.int .i64 k,.int .i64 0])/\w=w':=by
 have c2:w.cell? ⟨p.pb,2,none⟩=some (.slice (some ⟨p.fb,0,none⟩) p.n p.n):=H.ce 2 (by omega);have lb:=H.hd.lt;have lf:=H.fr.lt;have hn:=H.hn;have HC:=Hd (find_some H hid hp);obtain⟨_,_,cp,_⟩:=H.cf hk;have h0':(((f k).pins:Int)==0)=false:=by simp<;>exact h0
 generalize(f k).pins=q at*;obtain⟨n,pb,db,fb,mb,rv,ev,eh,eL,iv,ih,iL⟩:=p;unfold PP.ptr at*
 dsimp only at*
 clear H hp h0;go_enter func29,ntmps29
 go_wp2_with fail
 refine HC.out.mono ?_;rintro e w1⟨rfl,rfl⟩;have hne:((k:Int)==(-1))=false:=by simp<;>omega
 go_wp2;go_returns;exact⟨rfl,rfl⟩
theorem allp_calls(H:MP w p f pl E I sc m):Calls prog 42 #[p.ptr] w λe w'=>e=.returned (.bool (decide (cntB E p.n=0/\cntB I p.n=0)))/\w=w':=by
 have HE:=Hd (mp_lenE H);have HI:=Hd (mp_lenI H);have lb:=H.hd.lt;obtain⟨n,pb,db,fb,mb,rv,ev,eh,eL,iv,ih,iL⟩:=p;unfold PP.ptr
 dsimp only at*
 generalize cntB E n=a at*;generalize cntB I n=b at*;clear H;go_enter func42,ntmps42
 go_wp2_with fail
 refine HE.out.mono ?_;rintro e w1⟨rfl,rfl⟩;by_cases h:a=0
 .subst h
  go_wp2_with fail
  refine HI.out.mono ?_;rintro e w1⟨rfl,rfl⟩;go_wp2;go_returns;refine⟨?_,rfl⟩;by_cases h2:b=0<;>simp[h2]
 .have hne:((a:Int)==0)=false:=by simp<;>exact h
  go_wp2;go_returns;refine⟨?_,rfl⟩;simp[h]
end
end
end Go.Proofs.YtpkbkhffglikhaaGreatDoor
