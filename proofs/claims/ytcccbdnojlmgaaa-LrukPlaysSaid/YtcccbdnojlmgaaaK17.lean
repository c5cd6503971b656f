/- Part 17. -/
import Derived.RangeFuncNested
import Derived.RangeFuncBound
import Derived.Shelf.RegionOpen
import Derived.OwnWalkIn
import Derived.LoopNIn
import Derived.LoopIn
import Derived.Test.YtcccbdnojlmgaaaK08
namespace Go.Proofs.Ytcccbdnojlmgaaa
set_option linter.all false
set_option maxHeartbeats 16000000
set_option maxRecDepth 100000
section
open Go.Maps Go.RowKit Go.Shelf
attribute [local go_sem] Oper.semAt_some
def uptoT(a:Nat->Th)(k:Nat):List Th:=(List.range k).map a
theorem uptoT_succ(a:Nat->Th)(k:Nat):uptoT a (k+1)=uptoT a k++[a k]:=by simp[uptoT,List.range_succ]
theorem uptoT_length(a:Nat->Th)(k:Nat):(uptoT a k).length=k:=by simp[uptoT]
def ThAt(W:World)(b n:Nat)(a:Nat->Th):Prop:=∀j,j<n->W.cell? ⟨b,j*3,none⟩=some (.int .i64 (a j).x)∧W.cell? ⟨b,j*3+1,none⟩=some (.int .i64 (a j).a)∧W.cell? ⟨b,j*3+2,none⟩=some (.int .i64 (a j).b)
theorem ThAt.below{n₀:Nat}{A B:World}{b n:Nat}{a:Nat->Th}(h:Below n₀ A B)(hb:b<n₀)(hc:ThAt A b n a):ThAt B b n a:=fun j hj=>
 ⟨(h.cell (p:=⟨b,j*3,none⟩) hb).trans (hc j hj).1,(h.cell (p:=⟨b,j*3+1,none⟩) hb).trans (hc j hj).2.1,(h.cell (p:=⟨b,j*3+2,none⟩) hb).trans (hc j hj).2.2⟩
theorem values1_in(F:Fence)(n:Nat)(h7:F.fn 62)(hro:F.round=none)(hn:1<=n)(l Bs n₀ b len cap:Nat)(a:Nat->Th)(hlen:len<1000000)(hb:b<n₀)(J Jx:List Th->World->Prop)
  (hY:∀pre x W,J pre W->pre.length<len->YieldAt F (n-1) Try.prog l #[thV x] W fun e W'=>
   (e=.returned (.bool true)∧J (pre++[x]) W'∧Below n₀ W W')∨(e=.returned (.bool false)∧Jx (pre++[x]) W'))
  (W:World)(hJ:AbidesFrom W.heap.size J)(hn₀:n₀<=W.heap.size)(hBs:W.cell? ⟨Bs,0,none⟩=some (.slice (some ⟨b,0,none⟩) len cap))(hc:ThAt W b len a)(h0:J [] W):
  CallsIn F n Try.prog 62 #[.func (.yield l) #[] #[],.pointer (some ⟨Bs,0,none⟩)] W fun e W'=>(∃v,e=.returned v)∧
   ((∃ys,ys=uptoT a len∧J ys W')∨(∃pre,(∃k,k<=len∧pre=uptoT a k)∧Jx pre W')):=by
 refine callsIn_of_wp Try.func62 rfl h7 ?_ hro;simp only[Try.ntmps62,List.size_toArray,List.length_cons,List.length_nil,Nat.reduceAdd,Nat.reduceSub,Array.replicate_succ,Array.replicate_zero,List.push_toArray,List.append_toArray,List.nil_append,List.cons_append]
 gi_wp2
 gi_loopw [7] (fun i wr=>∃k:Nat,k<=len∧i=.int .i64 k∧J (uptoT a k) wr∧Below n₀ W wr)
  (fun i _=>len-(intOf i).toNat)
 case atStart=>exact⟨0,Nat.zero_le _,rfl,h0,Below.refl _ _⟩
 case round=>
  obtain⟨k,hk,rfl,hJs,hnx⟩:=hrel;by_cases hlt:k<len
  .have hsz:=hnx.size
   have hJa:J (uptoT a k) (wr.alloc (.cells #[.int .i64 (a k).x,.int .i64 (a k).a,.int .i64 (a k).b] 108)):=hJ _ _ _ none hJs (World.grownBy_alloc _ _ none) (fun r e=>by cases e);have hBa:Below n₀ wr (wr.alloc (.cells #[.int .i64 (a k).x,.int .i64 (a k).a,.int .i64 (a k).b] 108)):=(Below.refl _ _).alloc (by omega) _;obtain⟨fn,tmps,assign,body,hy,hR⟩:=hY _ (a k) _ hJa (by rw[uptoT_length];exact hlt);have hnx':=hnx.trans hBa;obtain⟨i0,i1,i2⟩:=(ThAt.below hnx hb hc) k hlt;have hUS:=uptoT_succ a k;generalize(a k)=t at*;obtain⟨tx,ta,tb⟩:=t;simp only[thV]at hy
   dsimp only at i0 i1 i2 hy hR hJa hBa hnx'
   gi_wp2
   refine hR.mono ?_;rintro e W3(⟨rfl,hJ3,hk3⟩|⟨rfl,hJx3⟩)
   .gi_wp2
    go_roundw
    case rel=>exact⟨k+1,by omega,by simp,by rw[hUS];exact hJ3,hnx'.trans hk3⟩
    case measure=>simp[intOf];omega
   .gi_wp2
    refine bodyPost_ret (results_none rfl _ _ _) rfl ?_;exact⟨⟨_,rfl⟩,.inr ⟨_,⟨k+1,by omega,hUS.symm⟩,hJx3⟩⟩
  .obtain rfl:k=len:=by omega
   gi_wp2
   go_end0
   exact⟨⟨_,rfl⟩,.inl ⟨_,rfl,hJs⟩⟩
theorem values1_nil_in(F:Fence)(n:Nat)(h7:F.fn 62)(hro:F.round=none)(l Bs:Nat)(J:List Th->World->Prop)(W:World)(hBs:W.cell? ⟨Bs,0,none⟩=some (.slice none 0 0))(h0:J [] W):
  CallsIn F n Try.prog 62 #[.func (.yield l) #[] #[],.pointer (some ⟨Bs,0,none⟩)] W fun e W'=>(∃v,e=.returned v)∧J [] W':=by
 refine callsIn_of_wp Try.func62 rfl h7 ?_ hro;simp only[Try.ntmps62,List.size_toArray,List.length_cons,List.length_nil,Nat.reduceAdd,Nat.reduceSub,Array.replicate_succ,Array.replicate_zero,List.push_toArray,List.append_toArray,List.nil_append,List.cons_append]
 gi_wp2
 gi_loopw [7] (fun i wr=>i=.int .i64 0∧J [] wr) (fun _ _=>0)
 case atStart=>exact⟨rfl,h0⟩
 case round=>
  obtain⟨rfl,hJs⟩:=hrel
  gi_wp2
  go_end0
  exact⟨⟨_,rfl⟩,hJs⟩
theorem values_in(F:Fence)(n:Nat)(h5:F.fn 54)(hro:F.round=none)(a:Option Addr)(len cap:Nat)(w:World):
  CallsIn F n Try.prog 54 #[.slice a len cap] w fun e w'=>e=.returned (.func (.func 62) #[] #[.pointer (some ⟨w.heap.size,0,none⟩)])∧w'=w.alloc (.cells #[.slice a len cap] 73):=by
 refine callsIn_of_wp Try.func54 rfl h5 ?_ hro;simp only[Try.ntmps54,List.size_toArray,List.length_cons,List.length_nil,Nat.reduceAdd,Nat.reduceSub,Array.replicate_succ,Array.replicate_zero,List.push_toArray,List.append_toArray,List.nil_append,List.cons_append]
 gi_wp2
 go_ret
 exact⟨rfl,rfl⟩
def ThSl(n₀:Nat)(W:World)(sv:Value)(n:Nat)(a:Nat->Th):Prop:=
 (sv=.slice none 0 0∧n=0)∨∃b cap,sv=.slice (some ⟨b,0,none⟩) n cap∧b<n₀∧ThAt W b n a
theorem ThSl.below{n₀ m:Nat}{A B:World}(h:Below n₀ A B)(hm:m<=n₀){sv:Value}{n:Nat}{a:Nat->Th}:ThSl m A sv n a->ThSl m B sv n a
 |.inl e=>.inl e
 |.inr ⟨b,cap,e,hb,hc⟩=>.inr ⟨b,cap,e,hb,ThAt.below h (by omega) hc⟩
theorem values_stops(F:Fence)(n:Nat)(h7:F.fn 62)(hro:F.round=none)(hn:1<=n)(Bs n₀ len:Nat)(sv:Value)(a:Nat->Th)(hlen:len<1000000)(w:World)(hBs:Bs<w.heap.size)(hn₀:n₀<=w.heap.size)
  (hc:w.cell? ⟨Bs,0,none⟩=some sv)(hI:ThSl n₀ w sv len a):
  SeqStopsK F n Try.prog 62 #[.pointer (some ⟨Bs,0,none⟩)] (fun x:Th=>#[thV x]) (Below n₀) (fun ys=>ys=uptoT a len) (fun _=>True) len w:=fun l J Jx W hW hJ _ hY h0=>by
 have hc':=(hW.cell (p:=⟨Bs,0,none⟩) hBs).trans hc;have hsz:=hW.size;rcases hI.below hW (by omega)with⟨rfl,rfl⟩|⟨b,cap,rfl,hb,hcs⟩
 .exact(values1_nil_in F n h7 hro l Bs J W hc' h0).mono fun e W' ⟨he,hj⟩=>⟨he,.inl ⟨_,rfl,hj⟩⟩
 .refine(values1_in F n h7 hro hn l Bs n₀ b len cap a hlen hb J Jx hY W hJ (by omega) hc' hcs h0).mono ?_
  rintro e W'⟨he,⟨ys,rfl,hj⟩|⟨pre,⟨k,hk,rfl⟩,hj⟩⟩
  .exact⟨he,.inl ⟨_,rfl,hj⟩⟩
  .exact⟨he,.inr ⟨_,trivial,hj⟩⟩
attribute [local go_sem] Oper.semAt_some
def thC(t:Th):List Value:=[.int .i64 t.x,.int .i64 t.a,.int .i64 t.b]
theorem thing_info:(Try.prog.info? 108).map (fun i=>(i.zero,i.size,i.bytes))=some (some (.agg #[.int .i64 0,.int .i64 0,.int .i64 0]),3,24):=by kernel_rfl
def Box3(W:World)(B:Nat)(t:Th):Prop:=W.heap[B]?=some (.cells #[.int .i64 t.x,.int .i64 t.a,.int .i64 t.b] 108 (0,0))
theorem Box3.c{W:World}{B:Nat}{t:Th}(h:Box3 W B t):W.cell? ⟨B,0,none⟩=some (.int .i64 t.x)∧W.cell? ⟨B,1,none⟩=some (.int .i64 t.a)∧W.cell? ⟨B,2,none⟩=some (.int .i64 t.b):=by
 have h:W.heap[B]?=some (.cells #[.int .i64 t.x,.int .i64 t.a,.int .i64 t.b] 108 (0,0)):=h;refine⟨?_,?_,?_⟩<;>simp[World.cell?,h]
theorem cell_three_new(w:World)(a b c:Value)(t:TypeId):∀j u,[a,b,c][j]?=some u->(w.alloc (.cells #[a,b,c] t)).cell? ((⟨w.heap.size,0,none⟩:Addr).add j)=some u:=by
 intro j u hj;have hh:(w.alloc (.cells #[a,b,c] t)).heap[w.heap.size]?=some (.cells #[a,b,c] t (0,0)):=World.alloc_heap_new w _;generalize w.alloc (.cells #[a,b,c] t)=W at hh;generalize w.heap.size=m at hh
 match j,hj with
 |0,hj=>simp[Addr.add,World.cell?,hh]at hj⊢;exact hj
 |1,hj=>simp[Addr.add,World.cell?,hh]at hj⊢;exact hj
 |2,hj=>simp[Addr.add,World.cell?,hh]at hj⊢;exact hj
theorem appendSeq_in(F:Fence)(n:Nat)(h32:F.fn 66)(hro:F.round=none)(hn:2<=n)(g:Nat)(lb:Array Value)(hFg:F.fn g)(eg:∀args w,(callFunc g args).run Try.prog w=.ok (.enter g args) w)
  (S:List Th->Prop)(N:Nat)(hN:N<1000000)(n₀:Nat)(w:World)(hn₀:n₀<=w.heap.size)(hseq:SeqStopsK F (n-1) Try.prog g lb (fun x:Th=>#[thV x]) (Below n₀) S (fun _=>True) N w):
  CallsIn F n Try.prog 66 #[.slice none 0 0,.func (.func g) #[] lb] w fun e w'=>∃(v:Value) (ts:List Th),e=.returned v∧S ts∧w'.ownsRow w.heap.size 108 3 v ts.length (ts.flatMap thC)∧Below w.heap.size w w':=by
 have h1:1<=n:=by omega
 obtain⟨i0,hi,hz0,hz1,hz2⟩:=info_parts thing_info;refine callsIn_of_wp_marks Try.func66 rfl h32 ?_ hro;simp only[Try.ntmps66,List.size_toArray,List.length_cons,List.length_nil,Nat.reduceAdd,Nat.reduceSub,Array.replicate_succ,Array.replicate_zero,List.push_toArray,List.append_toArray,List.nil_append,List.cons_append]
 gi_wp2
 have bS:=Boxed.new w 73 (.slice none 0 0);have hB0:Below w.heap.size w (w.alloc (.cells #[.slice none 0 0] 73)):=(Below.refl _ w).alloc (Nat.le_refl _) _;have hsz:(w.alloc (.cells #[.slice none 0 0] 73)).heap.size=w.heap.size+1:=by simp
 obtain⟨W0,hW0⟩:∃W0,w.alloc (.cells #[.slice none 0 0] 73)=W0:=⟨_,rfl⟩;rw[hW0]at bS hB0 hsz⊢;clear hW0
 refine wpIn_rangeFunc_ownH hro h1 (gf:=g) (lb:=lb) rfl hFg eg hseq belowK_t (belowK_b (by omega)) hB0 (fun _=>rfl)
  (fun pre W=>(∃v,Boxed W w.heap.size 73 v∧W.ownsRow w.heap.size 108 3 v pre.length (pre.flatMap thC)∧True)∧Below w.heap.size w W)
  (fun _ _ _=>False)
  (OwnFrom.and (Own.from (holdsRow_own w.heap.size w.heap.size 73 108 3 (fun pre:List Th=>pre.length) (fun pre=>pre.flatMap thC) (fun _ _=>True)) _) (ownFrom_below (Nat.le_refl _) (by omega)))
  (fun _ _ _ _ _ hs _ _=>hs)
  ⟨⟨_,bS,World.ownsRow_nil _ _ _ _,trivial⟩,hB0⟩
  (fun x a' W=>∃Bx,w.heap.size<Bx∧Box3 W Bx x∧a'={tmps:=#[.slice none 0 0,.func (.func g) #[] lb,.pointer (some ⟨w.heap.size,0,none⟩),undef,.slice none 0 0,.pointer (some ⟨Bx,0,none⟩),.func (.func g) #[] lb,thV x,undef,undef,undef,undef,undef],defers:=[]})
  (fun x a' _ X Y row hs hg hr=>by
   obtain⟨Bx,q1,q2,q3⟩:=hs;refine⟨Bx,q1,?_,q3⟩;have hl:Bx<X.heap.size:=(Array.getElem?_eq_some_iff.1 (show X.heap[Bx]?=_ from q2)).1;refine(hg.block Bx hl (fun e=>?_)).trans q2;obtain⟨_,o,ho,hc⟩:=hr Bx e.symm;rw[show X.heap[Bx]?=_ from q2]at ho;cases ho;cases hc)
  ?assign ?body ?done ?stop
 case assign=>
  rintro l pre x W K⟨⟨v,hv,hrow,_⟩,hB⟩hK;obtain⟨tx,ta,tb⟩:=x;simp only[thV]at hK⊢
  gi_wp2
  exact hK _ _ ((KeepsOthers.alloc _ _).from _) ((Below.refl _ W).alloc (Nat.le_trans hn₀ hB.size) _) ⟨⟨v,hv.alloc _,hrow.alloc _,trivial⟩,hB.alloc hB.size _⟩ ⟨W.heap.size,hv.lt,World.alloc_heap_new W _,rfl⟩
 case body=>
  rintro l pre x a' W hl⟨r,hr⟩⟨⟨v,hv,hrow,_⟩,hB⟩⟨Bx,hBx,bX,rfl⟩hlt;have cB:=hv.cell;obtain⟨x0,x1,x2⟩:=bX.c;obtain⟨tx,ta,tb⟩:=x;simp only[thV]at x0 x1 x2⊢
  gi_wp2_with (gi_at_builtin;refine wpListIn_append_own _ rfl _ _ 73 rfl w.heap.size 108 i0 (.agg #[.int .i64 0,.int .i64 0,.int .i64 0]) 3 24 Try.underlying73 hi hz0 hz1 hz2 rfl (by decide) _ _ _ rfl (hrow.alloc _) ⟨W.heap.size,0,none⟩ 1 1 [.int .i64 tx,.int .i64 ta,.int .i64 tb] rfl rfl (cell_three_new _ _ _ _ _) (by simp[Value.oneCell']) (by unfold maxLen;omega) (by omega) (by have:=hB.size;simp;omega) ?_;intro v' w1 hown' hgrow _;obtain⟨g',cap',rfl⟩:=ownsRow_succ hown';obtain⟨hv1,hv2,hr2,hk2,hb2⟩:=hv.appended (by decide) hrow hB.size (Nat.le_refl _) hown' hgrow;have hc1:=hv1.cell;have hf1:=hv1.frozen)
  exact⟨hk2.from _,hb2.mono hn₀,⟨_,hv2,by simpa[thC]using hr2,trivial⟩,hB.trans hb2⟩
 case done=>
  rintro D ys W hD hS⟨⟨v,hv,hrow,_⟩,hB⟩hK;have cB:=hv.cell
  gi_wp2
  refine⟨by simp,.inl ⟨_,_,rfl,run_takeDeferred hK,?_⟩⟩;exact⟨_,results_tmp rfl _ _ _,v,ys,rfl,hS,ownsRow_putObj hrow _ hK rfl,hB.trans (belowK_b (w:=w) (Nat.le_refl _) W D _ _ (by omega) hK rfl rfl)⟩
 case stop=>
  rintro D c pre W _ _ h _;exact h.elim
theorem collect_in(F:Fence)(n:Nat)(h26:F.fn 60)(h32:F.fn 66)(hro:F.round=none)(hn:3<=n)(g:Nat)(lb:Array Value)(hFg:F.fn g)(eg:∀args w,(callFunc g args).run Try.prog w=.ok (.enter g args) w)
  (S:List Th->Prop)(N:Nat)(hN:N<1000000)(n₀:Nat)(w:World)(hn₀:n₀<=w.heap.size)(hseq:SeqStopsK F (n-1-1) Try.prog g lb (fun x:Th=>#[thV x]) (Below n₀) S (fun _=>True) N w):
  CallsIn F n Try.prog 60 #[.func (.func g) #[] lb] w fun e w'=>∃(v:Value) (ts:List Th),e=.returned v∧S ts∧w'.ownsRow w.heap.size 108 3 v ts.length (ts.flatMap thC)∧Below w.heap.size w w':=by
 have h1:1<=n:=by omega
 refine callsIn_of_wp Try.func60 rfl h26 ?_ hro;simp only[Try.ntmps60,List.size_toArray,List.length_cons,List.length_nil,Nat.reduceAdd,Nat.reduceSub,Array.replicate_succ,Array.replicate_zero,List.push_toArray,List.append_toArray,List.nil_append,List.cons_append]
 gi_wp2_with (gi_at_call 66;refine(appendSeq_in F (n-1) h32 hro (by omega) g lb hFg eg S N hN n₀ _ hn₀ hseq).mono ?_;rintro e w'⟨v,ss,rfl,hS,hrow,hb⟩)
 go_ret
 exact⟨v,ss,rfl,hS,hrow,hb⟩
end
end Go.Proofs.Ytcccbdnojlmgaaa
