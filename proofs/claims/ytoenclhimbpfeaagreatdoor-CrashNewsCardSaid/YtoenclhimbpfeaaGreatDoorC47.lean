/- Part 47. -/
import Derived.RangeFuncNested
import Derived.RangeFuncBound
import Derived.Sort.MapsRangeIn
import Derived.Shelf.Abstract
import Derived.TacticsInMore
import Derived.LoopNIn
import Derived.LoopIn
import Derived.Test.YtoenclhimbpfeaaGreatDoorC07
namespace Go.Proofs.YtoenclhimbpfeaaGreatDoor
set_option linter.all false
set_option maxHeartbeats 16000000
set_option maxRecDepth 100000
section
open Go.Maps Go.Proofs.Tryz Go.RowKit Go.Shelf
section
attribute [local go_sem] Oper.semAt_some
abbrev zV:Value:=.slice none 0 0
theorem u32_keyed:Keyed prog 34:=int_keyed underlying34
theorem keys_one(F:Fence)(n:Nat)(h7:F.fn 77)(hro:F.round=none)(hn:1<=n)(Bs b x:Nat)(v:Value)(w:World)(hl:Bs<w.heap.size)(hBs:w.cell? ⟨Bs,0,none⟩=some (.map (some b)))
  (hM:MpV prog 34 .u32 zV w b 1 (fun z=>if z=(x:Int)then some v else none)):
  SeqStopsK F n prog 77 #[.pointer (some ⟨Bs,0,none⟩)] (fun y:Nat=>#[.int .u32 y]) KeepsWalks (fun ys=>ys=[x]) (fun _=>True) 1 w:=fun l J Jx W hW hJ hJx hY h0=>by
 have hc:W.cell? ⟨Bs,0,none⟩=some (.map (some b)):=(hW.cell (p:=⟨Bs,0,none⟩) hl).trans hBs;obtain⟨D,hown,hs,hv⟩:=hM.ofHeap (hW.block b hM.lt);refine callsIn_of_wp func77 rfl h7 ?_ hro;simp only[ntmps77,List.size_toArray,List.length_cons,List.length_nil,Nat.reduceAdd,Nat.reduceSub,Array.replicate_succ,Array.replicate_zero,List.push_toArray,List.append_toArray,List.nil_append,List.cons_append]
 gi_wp2_with (first
  |(gi_at_range;refine wpListIn_range_own _ rfl _ 103 rfl 34 65 u32_keyed underlying103 _ b 1 _ rfl hown ?_;intro w0 hrg0 hg0 hs0)
  |gi_in)
 try go_frame
 gi_loopw [3] (fun _ wr=>∃(left:Lit->Bool) (cnt:Nat),wr.ranges prog 34 rdV b W.heap.size 1 D left cnt∧((cnt=1∧left=Maps.has D∧J [] wr)∨(cnt=0∧J [x] wr)))
  (fun _ wr=>wr.rangeLeft b W.heap.size)
 case atStart=>
  exact⟨_,_,hrg0,.inl ⟨hs,rfl,hJ [] W w0 none h0 hg0 (fun r e=>by cases e)⟩⟩
 case round=>
  obtain⟨left,cnt,hrg,hst⟩:=hrel
  gi_wp2_with (first
   |(gi_at_next;refine wpListIn_next_ranges _ rfl _ rfl 34 u32_keyed rdV (fun z:Int=>Value.int .u32 z) (fun v:Value=>v) (fun key kl hk=>by obtain⟨z,hz,_⟩:=Maps.keyOf_int_inv underlying34 hk;exact⟨z,hz⟩) (fun v _ _=>⟨v,rfl⟩) b W.heap.size 1 _ _ _ rfl hrg ?_ ?_)
   |gi_in)
  .intro hc0 hl0
   rcases hst with⟨c1,_⟩|⟨_,hJs⟩
   .omega
   .gi_wp2
    go_end0
    exact⟨⟨_,rfl⟩,.inl ⟨_,rfl,hJs⟩⟩
  .intro z c kl yd yp w2 cnt2 hkey hlk hvv hat hrg2 hlt hg2 hs2 hen
   rcases hst with⟨rfl,rfl,hJs⟩|⟨c1,_⟩
   case inr=>omega
   obtain⟨z',ex,rfl,hwf⟩:=Maps.keyOf_int_inv underlying34 hkey;simp only[Value.int.injEq,true_and]at ex;subst ex
   have hz:z=(x:Int):=Classical.byContradiction fun q=>by
    have:=(hv z hwf).1 (if_neg q);rw[this]at hlk
    cases hlk
   subst hz;have hJ2:J [] w2:=hJ [] wr w2 (some W.heap.size) hJs hg2 (fun r e=>by cases e;exact⟨Nat.le_refl _,hrg.iter_walk⟩);obtain⟨fn,tmps,assign,body,hy,hR⟩:=hY [] x w2 hJ2 (by simp);clear hs2
   gi_wp2
   refine hR.mono ?_;rintro e W3(⟨rfl,hJ3,hk3⟩|⟨rfl,hJx3⟩)
   .gi_wp2
    have hrg3:=hrg2.of_walks hk3
    go_roundw
    case rel=>exact⟨_,cnt2,hrg3,.inr ⟨by omega,hJ3⟩⟩
    case measure=>rw[hrg3.left_eq,hrg.left_eq];exact hlt
   .gi_wp2
    refine bodyPost_ret (results_none rfl _ _ _) rfl ?_;exact⟨⟨_,rfl⟩,.inr ⟨_,trivial,hJx3⟩⟩
def u32C(ys:List Nat):List Value:=ys.map fun y=>.int .u32 (y:Nat)
theorem u32_info:(prog.info? 34).map (fun i=>(i.zero,i.size,i.bytes))=some (some (.int .u32 0),1,4):=by kernel_rfl
theorem cell_one_new(w:World)(a:Value)(t:TypeId):∀j u,[a][j]?=some u->(w.alloc (.cells #[a] t)).cell? ((⟨w.heap.size,0,none⟩:Addr).add j)=some u:=by
 intro j u hj;have hh:(w.alloc (.cells #[a] t)).heap[w.heap.size]?=some (.cells #[a] t (0,0)):=World.alloc_heap_new w _;generalize w.alloc (.cells #[a] t)=W at hh;generalize w.heap.size=m at hh
 match j,hj with
 |0,hj=>simp[Addr.add,World.cell?,hh]at hj⊢;exact hj
theorem appendU_in(F:Fence)(n:Nat)(h32:F.fn 102)(hro:F.round=none)(hn:2<=n)(g:Nat)(lb:Array Value)(hFg:F.fn g)(eg:∀args w,(callFunc g args).run prog w=.ok (.enter g args) w)
  (S:List Nat->Prop)(N:Nat)(hN:N<1000000)(w:World)(hseq:SeqStopsK F (n-1) prog g lb (fun x:Nat=>#[.int .u32 x]) KeepsWalks S (fun _=>True) N w):
  CallsIn F n prog 102 #[.slice none 0 0,.func (.func g) #[] lb] w fun e w'=>∃(v:Value) (ts:List Nat),e=.returned v∧S ts∧w'.ownsRow w.heap.size 34 1 v ts.length (u32C ts)∧Below w.heap.size w w':=by
 have h1:1<=n:=by omega
 obtain⟨i0,hi,hz0,hz1,hz2⟩:=info_parts u32_info;refine callsIn_of_wp_marks func102 rfl h32 ?_ hro;simp only[ntmps102,List.size_toArray,List.length_cons,List.length_nil,Nat.reduceAdd,Nat.reduceSub,Array.replicate_succ,Array.replicate_zero,List.push_toArray,List.append_toArray,List.nil_append,List.cons_append]
 gi_wp2
 have bS:=Boxed.new w 51 (.slice none 0 0);have hB0:Below w.heap.size w (w.alloc (.cells #[.slice none 0 0] 51)):=(Below.refl _ w).alloc (Nat.le_refl _) _;have hsz:(w.alloc (.cells #[.slice none 0 0] 51)).heap.size=w.heap.size+1:=by simp
 obtain⟨W0,hW0⟩:∃W0,w.alloc (.cells #[.slice none 0 0] 51)=W0:=⟨_,rfl⟩;rw[hW0]at bS hB0 hsz⊢;clear hW0
 refine wpIn_rangeFunc_ownH hro h1 (gf:=g) (lb:=lb) rfl hFg eg hseq walksK_t walksK_b hB0 (fun _=>rfl)
  (fun pre W=>(∃v,Boxed W w.heap.size 51 v∧W.ownsRow w.heap.size 34 1 v pre.length (u32C pre)∧True)∧Below w.heap.size w W)
  (fun _ _ _=>False)
  (OwnFrom.and (Own.from (holdsRow_own w.heap.size w.heap.size 51 34 1 (fun pre:List Nat=>pre.length) (fun pre=>u32C pre) (fun _ _=>True)) _) (ownFrom_below (Nat.le_refl _) (by omega)))
  (fun _ _ _ _ _ hs _ _=>hs)
  ⟨⟨_,bS,World.ownsRow_nil _ _ _ _,trivial⟩,hB0⟩
  (fun x a' W=>a'={tmps:=#[.slice none 0 0,.func (.func g) #[] lb,.pointer (some ⟨w.heap.size,0,none⟩),undef,.slice none 0 0,.int .u32 (x:Nat),.func (.func g) #[] lb,.int .u32 (x:Nat),undef,undef,undef,undef,undef],defers:=[]})
  (fun x a' _ X Y row hs hg hr=>hs)
  ?assign ?body ?done ?stop
 case assign=>
  rintro l pre x W K⟨⟨v,hv,hrow,_⟩,hB⟩hK
  gi_wp2
  exact hK _ _ ((KeepsOthers.refl _).from _) (KeepsOthers.refl _).walks ⟨⟨v,hv,hrow,trivial⟩,hB⟩ rfl
 case body=>
  rintro l pre x a' W hl⟨r,hr⟩⟨⟨v,hv,hrow,_⟩,hB⟩rfl hlt;have cB:=hv.cell
  gi_wp2_with (gi_at_builtin;refine wpListIn_append_own _ rfl _ _ 51 rfl w.heap.size 34 i0 (.int .u32 0) 1 4 underlying51 hi hz0 hz1 hz2 rfl (by decide) _ _ _ rfl (hrow.alloc _) ⟨W.heap.size,0,none⟩ 1 1 [.int .u32 x] rfl rfl (cell_one_new _ _ _) (by simp[Value.oneCell']) (by unfold maxLen;omega) (by omega) (by have:=hB.size;simp;omega) ?_;intro v' w1 hown' hgrow _;obtain⟨g',cap',rfl⟩:=ownsRow_succ hown';obtain⟨hv1,hv2,hr2,hk2,hb2⟩:=hv.appended (by decide) hrow hB.size (Nat.le_refl _) hown' hgrow;have hc1:=hv1.cell;have hf1:=hv1.frozen)
  exact⟨hk2.from _,hk2.walks,⟨_,hv2,by simpa[u32C]using hr2,trivial⟩,hB.trans hb2⟩
 case done=>
  rintro D ys W hD hS⟨⟨v,hv,hrow,_⟩,hB⟩hK;have cB:=hv.cell
  gi_wp2
  refine⟨by simp,.inl ⟨_,_,rfl,run_takeDeferred hK,?_⟩⟩;exact⟨_,results_tmp rfl _ _ _,v,ys,rfl,hS,ownsRow_putObj hrow _ hK rfl,hB.trans (belowK_b (w:=w) (Nat.le_refl _) W D _ _ (by omega) hK rfl rfl)⟩
 case stop=>
  rintro D c pre W _ _ h _;exact h.elim
theorem collectU_in(F:Fence)(n:Nat)(h26:F.fn 75)(h32:F.fn 102)(hro:F.round=none)(hn:3<=n)(g:Nat)(lb:Array Value)(hFg:F.fn g)(eg:∀args w,(callFunc g args).run prog w=.ok (.enter g args) w)
  (S:List Nat->Prop)(N:Nat)(hN:N<1000000)(w:World)(hseq:SeqStopsK F (n-1-1) prog g lb (fun x:Nat=>#[.int .u32 x]) KeepsWalks S (fun _=>True) N w):
  CallsIn F n prog 75 #[.func (.func g) #[] lb] w fun e w'=>∃(v:Value) (ts:List Nat),e=.returned v∧S ts∧w'.ownsRow w.heap.size 34 1 v ts.length (u32C ts)∧Below w.heap.size w w':=by
 have h1:1<=n:=by omega
 refine callsIn_of_wp func75 rfl h26 ?_ hro;simp only[ntmps75,List.size_toArray,List.length_cons,List.length_nil,Nat.reduceAdd,Nat.reduceSub,Array.replicate_succ,Array.replicate_zero,List.push_toArray,List.append_toArray,List.nil_append,List.cons_append]
 gi_wp2_with (gi_at_call 102;refine(appendU_in F (n-1) h32 hro (by omega) g lb hFg eg S N hN _ hseq).mono ?_;rintro e w'⟨v,ss,rfl,hS,hrow,hb⟩)
 go_ret
 exact⟨v,ss,rfl,hS,hrow,hb⟩
end
section
variable{w w':World}
theorem len64_one(w:World):Calls prog 123 #[.int .u64 1] w fun e w'=>(∃r:Int,e=.returned (.int .i64 r))∧w=w':=by
 go_enter func123,ntmps123;go_wp2;go_returns;exact⟨⟨_,rfl⟩,rfl⟩
theorem len_one(w:World):Calls prog 104 #[.int .u64 1] w fun e w'=>(∃r:Int,e=.returned (.int .i64 r))∧w=w':=by
 go_enter func104,ntmps104
 go_wp2_with fail
 refine(len64_one _).mono ?_;rintro e w'⟨⟨r,rfl⟩,rfl⟩;go_wp2;go_returns;exact⟨⟨_,rfl⟩,rfl⟩
theorem insert_one(v:Value)(w:World):Calls prog 113 #[v,.int .i64 0,.int .i64 1] w fun e w'=>e=.returned (.tuple #[])∧w=w':=by
 go_enter func113,ntmps113;go_wp2
 go_loopw [6] (fun i wr=>i=.int .i64 1∧wr=w) (fun _ _=>0)
 case atStart=>exact⟨rfl,rfl⟩
 case round=>
  obtain⟨rfl,rfl⟩:=hrel;go_wp2;go_returns;exact⟨rfl,rfl⟩
theorem pdq_one(v:Value)(r:Int)(w:World):Calls prog 103 #[v,.int .i64 0,.int .i64 1,.int .i64 r] w fun e w'=>e=.returned (.tuple #[])∧w=w':=by
 go_enter func103,ntmps103;go_wp2
 go_loopw [1,2] (fun a b wr=>a=.int .i64 0∧b=.int .i64 1∧wr=w) (fun _ _ _=>0)
 case atStart=>exact⟨rfl,rfl,rfl⟩
 case round=>
  obtain⟨rfl,rfl,rfl⟩:=hrel
  go_wp2_with fail
  refine(insert_one _ _).mono ?_;rintro e w'⟨rfl,rfl⟩;go_wp2;go_returns;exact⟨rfl,rfl⟩
theorem sort_one(a:Option Addr)(c:Nat)(w:World):Calls prog 76 #[.slice a 1 c] w fun e w'=>e=.returned (.tuple #[])∧w=w':=by
 go_enter func76,ntmps76
 go_wp2_with fail
 refine(len_one _).mono ?_;rintro e w'⟨⟨r,rfl⟩,rfl⟩
 go_wp2_with fail
 refine(pdq_one _ r _).mono ?_;rintro e w'⟨rfl,rfl⟩;go_wp2;go_returns;exact⟨rfl,rfl⟩
theorem collect_one{Bs b x:Nat}{v:Value}(hl:Bs<w.heap.size)(hBs:w.cell? ⟨Bs,0,none⟩=some (.map (some b)))(hM:MpV prog 34 .u32 zV w b 1 (fun z=>if z=(x:Int)then some v else none)):
  Calls prog 75 #[.func (.func 77) #[] #[.pointer (some ⟨Bs,0,none⟩)]] w fun e w'=>∃u,e=.returned u∧w'.ownsRow w.heap.size 34 1 u 1 [.int .u32 (x:Nat)]∧Fr NoF w w':=by
 have h:=collectU_in Fence.wide 10 trivial trivial rfl (by omega) 77 #[.pointer (some ⟨Bs,0,none⟩)] trivial (enters_of func77 (by kernel_rfl) rfl) (fun ys=>ys=[x]) 1 (by omega) w
  (keys_one Fence.wide 8 trivial rfl (by omega) Bs b x v w hl hBs hM)
 refine(callsIn_wide.1 h).mono ?_;rintro e w'⟨u,ts,rfl,rfl,hrow,hb⟩;exact⟨u,rfl,hrow,Fr.ofBelow hb⟩
theorem keys_calls(b:Nat)(w:World):Calls prog 58 #[.map (some b)] w fun e w'=>e=.returned (.func (.func 77) #[] #[.pointer (some ⟨w.heap.size,0,none⟩)])∧w'=w.alloc (.cells #[.map (some b)] 103):=by
 go_enter func58,ntmps58;go_wp2;go_returns;exact⟨rfl,rfl⟩
theorem sorted_one{Bs b x:Nat}{v:Value}(hl:Bs<w.heap.size)(hBs:w.cell? ⟨Bs,0,none⟩=some (.map (some b)))(hM:MpV prog 34 .u32 zV w b 1 (fun z=>if z=(x:Int)then some v else none)):
  Calls prog 57 #[.func (.func 77) #[] #[.pointer (some ⟨Bs,0,none⟩)]] w fun e w'=>∃u,e=.returned u∧w'.ownsRow w.heap.size 34 1 u 1 [.int .u32 (x:Nat)]∧Fr NoF w w':=by
 have HC:=Hd (collect_one hl hBs hM);clear hM hBs hl;go_enter func57,ntmps57
 go_wp2_with fail
 refine HC.out.mono ?_;rintro e w1⟨u,rfl,hrow,hf⟩;have HK:=Hd (And.intro hrow hf);obtain⟨a,c,rfl,_,_⟩:=SlC.shape (SlC.ofOwn hrow (by intro y hy;simp at hy;subst hy;rfl));clear hrow hf HC
 go_wp2_with fail
 refine(sort_one _ _ _).mono ?_;rintro e w'⟨rfl,rfl⟩;go_wp2;go_returns;exact⟨_,rfl,HK.out⟩
end
end
section
open Go.RowKit
section
variable{P:Program}{Q:Exit->Act->World->Prop}
def tailQ(P:Program)(ops:Array Oper)(last:Oper)(Q:Exit->Act->World->Prop):Exit->Act->World->Prop
 |.normal,a,w=>wpList P ops Q [last] a w
 |e,a,w=>Q e a w
def tailOk(md:Region.Mode)(l:List Oper)(last:Oper):Bool:=
 ((List.range l.length).all fun i=>(last.after.any fun e=>Region.binds md e&&e.on==i)||(List.range l.length).any fun j=>decide (i<j)&&match l[j]? with|none=>false|some o=>o.after.any fun e=>Region.binds md e&&e.on==i)&&
 ((List.range l.length).all fun i=>match l[i]? with
   |none=>false
   |some o=>(o.after.all fun e=>decide (e.on<i))&&(match o.guard with|none=>true|some (g,_)=>decide (g<l.length)))&&
 (last.after.all fun e=>decide (e.on<l.length))&&(match last.guard with|none=>true|some (g,_)=>decide (g<l.length))
def ClT(md:Region.Mode)(l:List Oper)(d:Array Bool):Prop:=∀(j:Nat) (o:Oper),l[j]?=some o->d.getD j false=true->∀e∈o.after,Region.binds md e=true->d.getD e.on false=true
variable{md:Region.Mode}{l:List Oper}{last:Oper}
theorem tail_wait(h:tailOk md l last=true){i:Nat}(hi:i<l.length):(∃e∈last.after,Region.binds md e=true∧e.on=i)∨∃j o,i<j∧l[j]?=some o∧∃e∈o.after,Region.binds md e=true∧e.on=i:=by
 simp only[tailOk,Bool.and_eq_true,List.all_eq_true,List.mem_range]at h;rcases Bool.or_eq_true _ _|>.mp (h.1.1.1 i hi)with q|q
 .obtain⟨e,he,hb⟩:=Array.any_eq_true'.1 q
  simp only[Bool.and_eq_true,beq_iff_eq]at hb;exact .inl ⟨e,he,hb⟩
 .obtain⟨j,hj,q⟩:=List.any_eq_true.1 q
  simp only[Bool.and_eq_true,decide_eq_true_eq]at q;obtain⟨q1,q2⟩:=q
  cases e:l[j]? with
  |none=>rw[e]at q2;cases q2
  |some o=>
   rw[e]at q2;obtain⟨e',he,hb⟩:=Array.any_eq_true'.1 q2;simp only[Bool.and_eq_true,beq_iff_eq]at hb;exact .inr ⟨j,o,q1,e,e',he,hb⟩
theorem tail_edges(h:tailOk md l last=true){i:Nat}{o:Oper}(ho:l[i]?=some o):(∀e∈o.after,e.on<i)∧∀g b,o.guard=some (g,b)->g<l.length:=by
 simp only[tailOk,Bool.and_eq_true,List.all_eq_true,List.mem_range]at h;have:=h.1.1.2 i (List.getElem?_eq_some_iff.1 ho).1;rw[ho]at this;simp only[Bool.and_eq_true]at this;refine⟨fun e he=>by simpa using Array.all_eq_true'.1 this.1 e he,fun g b hg=>?_⟩;rw[hg]at this;simpa using this.2
theorem tail_last(h:tailOk md l last=true):(∀e∈last.after,e.on<l.length)∧∀g b,last.guard=some (g,b)->g<l.length:=by
 simp only[tailOk,Bool.and_eq_true]at h;refine⟨fun e he=>by simpa using Array.all_eq_true'.1 h.1.2 e he,fun g b hg=>?_⟩;have:=h.2;rw[hg]at this;simpa using this
theorem getD_push(d:Array Bool)(j:Nat)(hj:j<d.size)(x b:Bool):(d.push b).getD j x=d.getD j x:=by
 simp[hj,Nat.lt_succ_of_lt hj,Array.getElem_push_lt]
theorem getD_push_at(d:Array Bool)(x b:Bool):(d.push b).getD d.size x=b:=by simp
theorem set_push(d:Array Bool)(i:Nat)(hi:i<d.size)(b:Bool):(d.push b).setIfInBounds i true=(d.setIfInBounds i true).push b:=by
 apply Array.ext_getElem?;intro j;simp only[Array.getElem?_setIfInBounds,Array.getElem?_push,Array.size_setIfInBounds,Array.size_push];by_cases e:i=j
 .subst e
  have h1:i<d.size+1:=by omega
  have h2:¬i=d.size:=by omega
  simp[hi,h1,h2]
 .simp[e]
theorem ready_in{d:Array Bool}(hd:d.size=l.length){i:Nat}(hi:i<l.length)(h:tailOk md l last=true):
  i∈Region.ready md (l++[last]).toArray (d.push false)↔i∈Region.ready md l.toArray d:=by
 rw[mem_ready,mem_ready,getD_push d i (by omega)];have e:((l++[last]).toArray)[i]?=l.toArray[i]?:=by simp[List.getElem?_append_left hi]
 rw[e];constructor
 .rintro⟨h0,o,ho,ha⟩
  refine⟨h0,o,ho,fun e he hb=>?_⟩;have hlt:=(tail_edges h (by simpa using ho)).1 e he;have:=ha e he hb
  rwa [getD_push d e.on (by omega)]at this
 .rintro⟨h0,o,ho,ha⟩
  refine⟨h0,o,ho,fun e he hb=>?_⟩;have hlt:=(tail_edges h (by simpa using ho)).1 e he;rw[getD_push d e.on (by omega)];exact ha e he hb
theorem all_listed{d:Array Bool}(hd:d.size=l.length)(h:tailOk md l last=true)(hr:Region.ready md l.toArray d=[]):∀i,i<l.length->d.getD i false=true:=by
 intro i
 induction i using Nat.strongRecOn with
 |_ i ih=>
  intro hi
  cases e:d.getD i false with
  |true=>rfl
  |false=>
   have hm:i∈Region.ready md l.toArray d:=by
    rw[mem_ready];refine⟨?_,l[i],by simp,fun e' he hb=>?_⟩
    .have:i<d.size:=by omega
     simpa[this]using e
    .have hlt:=(tail_edges h (List.getElem?_eq_getElem hi)).1 e' he
     exact ih e'.on hlt (by omega)
   rw[hr]at hm;cases hm
theorem last_ready{d:Array Bool}(hd:d.size=l.length)(h:tailOk md l last=true)(hc:ClT md l d):l.length∈Region.ready md (l++[last]).toArray (d.push false)↔∀i,i<l.length->d.getD i false=true:=by
 rw[mem_ready];constructor
 .rintro⟨_,o,ho,ha⟩
  have:o=last:=by simpa using ho.symm
  subst this
  have key:∀k i,l.length-i=k->i<l.length->d.getD i false=true:=by
   intro k
   induction k using Nat.strongRecOn with
   |_ k ih=>
    intro i hk hi;rcases tail_wait h hi with⟨e,he,hb,rfl⟩|⟨j,o',hij,hj,e,he,hb,rfl⟩
    .have:=ha e he hb
     rwa [getD_push d e.on (by omega)]at this
    .have hjl:=(List.getElem?_eq_some_iff.1 hj).1
     exact hc j o' hj (ih (l.length-j) (by omega) j rfl hjl) e he hb
  exact fun i hi=>key _ i rfl hi
 .intro hall
  refine⟨by rw[<-hd];exact getD_push_at d true false,last,by simp,fun e he hb=>?_⟩;have hlt:=(tail_last h).1 e he;rw[getD_push d e.on (by omega)];exact hall e.on hlt
theorem ClT.set{d:Array Bool}(hd:d.size=l.length)(hc:ClT md l d){i:Nat}(hi:i∈Region.ready md l.toArray d):ClT md l (d.setIfInBounds i true):=by
 obtain⟨h0,o,ho,ha⟩:=mem_ready.1 hi;have hio:l[i]?=some o:=by simpa using ho
 have up:∀k,d.getD k false=true->(d.setIfInBounds i true).getD k false=true:=by
  intro k hk;simp only[Array.getD_eq_getD_getElem?,Array.getElem?_setIfInBounds]at*
  split
  .split<;>simp_all
  .exact hk
 intro j o' hj hdj e he hb;by_cases e':i=j
 .subst e'
  rw[hio]at hj
  injection hj with hj
  subst hj;exact up _ (ha e he hb)
 .refine up _ (hc j o' hj ?_ e he hb)
  simp only[Array.getD_eq_getD_getElem?,Array.getElem?_setIfInBounds,if_neg e']at hdj;simpa[Array.getD_eq_getD_getElem?]using hdj
theorem yielded_in(tmps:Array Value){g:Nat}(hg:g<l.length):yielded (l++[last]).toArray tmps g=yielded l.toArray tmps g:=by
 unfold yielded;rw[show((l++[last]).toArray)[g]?=l.toArray[g]? from by simp[List.getElem?_append_left hg]]
theorem wanted_in(tmps:Array Value){o:Oper}(ho:∀g b,o.guard=some (g,b)->g<l.length):Region.wanted o (yielded (l++[last]).toArray tmps)=Region.wanted o (yielded l.toArray tmps):=by
 unfold Region.wanted
 cases e:o.guard with
 |none=>rfl
 |some x=>
  obtain⟨g,b⟩:=x;simp only[yielded_in tmps (ho g b e)]
theorem wp_tailQ{ops:Array Oper}{o:Oper}{a:Act}{w:World}{K:Act->World->Prop}(h:o.wp P a w K (tailQ P ops last Q)):o.wp P a w K Q:=by
 unfold Oper.wp at*;generalize(execOp a.eval o).run P w=r at*
 cases r with
 |ok n w'=>
  cases n<;>simp only[Oper.upon]at h⊢<;>
   first
    |exact h
    |exact Calls.mono h (fun e w'' he=>by cases e<;>exact he)
 |halt x w'=>cases x<;>simp only[Oper.upon]at h⊢<;>exact h
theorem wpOp_tail{i:Nat}(hi:i<l.length)(hok:tailOk md l last=true){a:Act}{w:World}{K K':Act->World->Prop}(hK:∀a w,K a w->K' a w)
  (h:wpOp P l.toArray (tailQ P (l++[last]).toArray last Q) i K a w):wpOp P (l++[last]).toArray Q i K' a w:=by
 refine wpOp_mono hK ?_;unfold wpOp at*;rw[show((l++[last]).toArray)[i]?=l.toArray[i]? from by simp[List.getElem?_append_left hi]]
 cases e:l.toArray[i]? with
 |none=>rw[e]at h;exact h
 |some o=>
  rw[e]at h;simp only at h⊢;rw[wanted_in a.tmps (tail_edges hok (by simpa using e)).2]
  split
  .rename_i hw
   rw[if_pos hw]at h;exact h.imp wp_tailQ id
  .rename_i hw
   rw[if_neg hw]at h;exact h
theorem wpOp_last{a:Act}{w:World}(h:wpList P (l++[last]).toArray Q [last] a w){K:Act->World->Prop}(hK:∀a w,Q .normal a w->K a w):wpOp P (l++[last]).toArray Q l.length K a w:=by
 unfold wpOp;rw[show((l++[last]).toArray)[l.length]?=some last from by simp];simp only[wpList]at h⊢
 split
 .rename_i hw
  rw[if_pos hw]at h;exact h.imp (Oper.wp_mono hK) id
 .rename_i hw
  rw[if_neg hw]at h;exact hK _ _ h
theorem wpAny_tail(hok:tailOk md l last=true):∀(fuel:Nat) (d:Array Bool) (a:Act) (w:World),d.size=l.length->ClT md l d->
  wpAny P md l.toArray (tailQ P (l++[last]).toArray last Q) fuel d a w->wpAny P md (l++[last]).toArray Q (fuel+1) (d.push false) a w:=by
 have fin:∀(fuel:Nat) (d:Array Bool) (a:Act) (w:World),d.size=l.length->ClT md l d->Region.ready md l.toArray d=[]->wpList P (l++[last]).toArray Q [last] a w->
   wpAny P md (l++[last]).toArray Q (fuel+1) (d.push false) a w:=by
  intro fuel d a w hd hc hr hl;have hall:=all_listed (last:=last) hd hok hr;have hlr:=(last_ready hd hok hc).2 hall;refine⟨fun h0=>(by rw[h0]at hlr;cases hlr),fun i hi=>?_⟩
  have hil:i=l.length:=by
   rcases Nat.lt_or_ge i l.length with q|q
   .rw[ready_in hd q hok,hr]at hi;cases hi
   .obtain⟨_,o,ho,_⟩:=mem_ready.1 hi
    have:i<(l++[last]).toArray.size:=(Array.getElem?_eq_some_iff.1 ho).1;simp at this;omega
  subst hil;refine wpOp_last hl (fun a' w' hq=>?_)
  have hset:(d.push false).setIfInBounds l.length true=d.push true:=by
   apply Array.ext_getElem?;intro j;simp only[Array.getElem?_setIfInBounds,Array.getElem?_push,Array.size_push];by_cases e:l.length=j
   .subst e
    have h2:l.length=d.size:=hd.symm;simp[h2]
   .have h3:¬j=d.size:=by omega
    simp[e,h3]
  have hnil:Region.ready md (l++[last]).toArray (d.push true)=[]:=by
   rw[List.eq_nil_iff_forall_not_mem];intro j hj;obtain⟨h0,o,ho,_⟩:=mem_ready.1 hj;have hj':j<(l++[last]).toArray.size:=(Array.getElem?_eq_some_iff.1 ho).1;simp at hj';rcases Nat.lt_or_ge j l.length with q|q
   .have h1:=hall j q
    rw[getD_push d j (by omega)]at h0;have:j<d.size:=by omega
    simp[this]at h0 h1;rw[h0]at h1;cases h1
   .obtain rfl:j=d.size:=by omega
    rw[getD_push_at]at h0;cases h0
  rw[hset]
  cases fuel with
  |zero=>exact⟨hnil,hq⟩
  |succ f=>exact⟨fun _=>hq,by rw[hnil];simp⟩
 intro fuel
 induction fuel with
 |zero=>intro d a w hd hc h;exact fin 0 d a w hd hc h.1 h.2
 |succ fuel ih=>
  intro d a w hd hc h;by_cases hr:Region.ready md l.toArray d=[]
  .exact fin (fuel+1) d a w hd hc hr (h.1 hr)
  .refine⟨fun h0=>?_,fun i hi=>?_⟩
   .obtain⟨j,hj⟩:=List.exists_mem_of_ne_nil _ hr
    have hjl:j<l.length:=by
     obtain⟨_,o,ho,_⟩:=mem_ready.1 hj;have:=(Array.getElem?_eq_some_iff.1 ho).1;simpa using this
    have:=(ready_in hd hjl hok).2 hj;rw[h0]at this;cases this
   .rcases Nat.lt_or_ge i l.length with q|q
    .have hi':=(ready_in hd q hok).1 hi
     refine wpOp_tail q hok (fun a' w' hh=>?_) (h.2 i hi');rw[set_push d i (by omega)];exact ih _ a' w' (by simp[hd]) (hc.set hd hi') hh
    .obtain⟨_,o,ho,_⟩:=mem_ready.1 hi
     have h2:i<(l++[last]).toArray.size:=(Array.getElem?_eq_some_iff.1 ho).1;have hil:i=l.length:=by simp at h2;omega
     subst hil;have hall:=(last_ready hd hok hc).1 hi
     have:Region.ready md l.toArray d=[]:=by
      rw[List.eq_nil_iff_forall_not_mem];intro j hj;obtain⟨h0,o,ho,_⟩:=mem_ready.1 hj;have hj':j<l.toArray.size:=(Array.getElem?_eq_some_iff.1 ho).1;have hj'':j<l.length:=by simpa using hj'
      have h1:=hall j hj'';have:j<d.size:=by omega
      simp[this]at h0 h1;rw[h0]at h1;cases h1
     exact(hr this).elim
theorem region_tail(S:World->Prop)(n:Nat){id:Nat}{l:List Oper}{last:Oper}{a:Act}{w:World}(hm:P.follows .mixedOrders=true)(hn:l=l.take n++[last])(hln:(l.take n).length=n)(hok:tailOk .any (l.take n) last=true)
  (h:wpAnyH P .any (l.take n).toArray (tailQ P l.toArray last Q) S n (Array.replicate n false) a w.drew):(Code.region id l.toArray true).wp P Q a w:=by
 refine wp_region_any hm ?_;have h1:=wpAny_tail (P:=P) (Q:=Q) (md:=.any) hok n (Array.replicate n false) a w.drew (by simp[hln]) (fun j o _ hd=>by simp[Array.getD_eq_getD_getElem?,Array.getElem?_replicate]at hd;split at hd<;>cases hd) (by rw[<-hn];exact wpAny_of_held _ _ _ _ h);rw[<-hn]at h1
 have e1:l.toArray.size=n+1:=by
  have e0:=congrArg List.length hn;rw[List.length_append,hln]at e0;simpa using e0
 have e2:(Array.replicate n false).push false=Array.replicate (n+1) false:=by
  apply Array.ext_getElem?;intro j;simp only[Array.getElem?_push,Array.getElem?_replicate,Array.size_replicate];by_cases e:j=n
  .subst e;simp
  .by_cases h2:j<n
   .have:j<n+1:=by omega
    simp[e,h2,this]
   .have:¬j<n+1:=by omega
    simp[e,h2,this]
 rw[e2]at h1;rw[e1];exact h1
end
end
end Go.Proofs.YtoenclhimbpfeaaGreatDoor
