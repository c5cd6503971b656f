/- Part 48. -/
import Derived.RangeFuncNested
import Derived.RangeFuncBound
import Derived.Sort.MapsRangeIn
import Derived.TacticsInMore
import Derived.LoopNIn
import Derived.LoopIn
import Derived.Test.YtoenclhimbpfeaaGreatDoorW47
namespace Go.Proofs.YtoenclhimbpfeaaGreatDoor
set_option linter.all false
set_option maxHeartbeats 16000000
set_option maxRecDepth 100000
section
open Go.Maps Go.Proofs.Tryz Go.RowKit Go.Shelf
section
attribute [local go_sem] Oper.semAt_some
abbrev zV:Value:=.slice none 0 0
theorem nj:Keyed prog 34:=int_keyed underlying34
theorem Bg(F:Fence)(n:Nat)(h7:F.fn 77)(hro:F.round=none)(hn:1<=n)(Bs b x:Nat)(v:Value)(w:World)(hl:Bs<w.heap.size)(hBs:w.cell? ⟨Bs,0,none⟩=some (.map (some b)))
  (hM:MpV prog 34 .u32 zV w b 1 (λz=>if z=(x:Int)then some v else none)):
  SeqStopsK F n prog 77 #[.pointer (some ⟨Bs,0,none⟩)] (λy:Nat=>#[.int .u32 y]) KeepsWalks (λys=>ys=[x]) (λ_=>True) 1 w:=λl J Jx W hW hJ hJx hY h0=>by
 have hc:W.cell? ⟨Bs,0,none⟩=some (.map (some b)):=(hW.cell (p:=⟨Bs,0,none⟩) hl).trans hBs;obtain⟨D,hown,hs,hv⟩:=hM.ofHeap (hW.block b hM.lt);refine callsIn_of_wp func77 rfl h7 ?_ hro;simp only[ntmps77,List.size_toArray,List.length_cons,List.length_nil,Nat.reduceAdd,Nat.reduceSub,Array.replicate_succ,Array.replicate_zero,List.push_toArray,List.append_toArray,List.nil_append,List.cons_append]
 gi_wp2_with (first
  |(gi_at_range;refine wpListIn_range_own _ rfl _ 103 rfl 34 65 nj underlying103 _ b 1 _ rfl hown ?_;intro w0 hrg0 hg0 hs0)
  |gi_in)
 try go_frame
 gi_loopw [3] (λ_ wr=>∃(left:Lit->Bool) (cnt:Nat),wr.ranges prog 34 rdV b W.heap.size 1 D left cnt/\((cnt=1/\left=Maps.has D/\J [] wr)\/(cnt=0/\J [x] wr)))
  (λ_ wr=>wr.rangeLeft b W.heap.size)
 case atStart=>
  exact⟨_,_,hrg0,.inl ⟨hs,rfl,hJ [] W w0 none h0 hg0 (λr e=>by cases e)⟩⟩
 case round=>
  obtain⟨left,cnt,hrg,hst⟩:=hrel
  gi_wp2_with (first
   |(gi_at_next;refine wpListIn_next_ranges _ rfl _ rfl 34 nj rdV (λz:Int=>Value.int .u32 z) (λv:Value=>v) (λkey kl hk=>by obtain⟨z,hz,_⟩:=Maps.keyOf_int_inv underlying34 hk;exact⟨z,hz⟩) (λv _ _=>⟨v,rfl⟩) b W.heap.size 1 _ _ _ rfl hrg ?_ ?_)
   |gi_in)
  .intro hc0 hl0
   rcases hst with⟨c1,_⟩|⟨_,hJs⟩
   .omega
   .gi_wp2
    go_end0
    exact⟨⟨_,rfl⟩,.inl ⟨_,rfl,hJs⟩⟩
  .intro z c kl yd yp w2 cnt2 hkey hlk hvv hat hrg2 hlt hg2 hs2 hen
   rcases hst with⟨rfl,rfl,hJs⟩|⟨c1,_⟩
   case inr=>omega
   obtain⟨z',ex,rfl,hwf⟩:=Maps.keyOf_int_inv underlying34 hkey;simp only[Value.int.injEq,true_and]at ex;subst ex
   have hz:z=(x:Int):=Classical.byContradiction λq=>by
    have:=(hv z hwf).1 (if_neg q);rw[this]at hlk
    cases hlk
   subst hz;have hJ2:J [] w2:=hJ [] wr w2 (some W.heap.size) hJs hg2 (λr e=>by cases e;exact⟨Nat.le_refl _,hrg.iter_walk⟩);obtain⟨fn,tmps,assign,body,hy,hR⟩:=hY [] x w2 hJ2 (by simp);clear hs2
   gi_wp2
   refine hR.mono ?_;rintro e W3(⟨rfl,hJ3,hk3⟩|⟨rfl,hJx3⟩)
   .gi_wp2
    have hrg3:=hrg2.of_walks hk3
    go_roundw
    case rel=>exact⟨_,cnt2,hrg3,.inr ⟨by omega,hJ3⟩⟩
    case measure=>rw[hrg3.left_eq,hrg.left_eq];exact hlt
   .gi_wp2
    refine bodyPost_ret (results_none rfl _ _ _) rfl ?_;exact⟨⟨_,rfl⟩,.inr ⟨_,trivial,hJx3⟩⟩
def A9(ys:List Nat):List Value:=ys.map λy=>.int .u32 (y:Nat)
theorem zN:(prog.info? 34).map (λi=>(i.zero,i.size,i.bytes))=some (some (.int .u32 0),1,4):=by kernel_rfl
theorem ic(w:World)(a:Value)(t:TypeId):∀j u,[a][j]?=some u->(w.alloc (.cells #[a] t)).cell? ((⟨w.heap.size,0,none⟩:Addr).add j)=some u:=by
 intro j u hj;have hh:(w.alloc (.cells #[a] t)).heap[w.heap.size]?=some (.cells #[a] t (0,0)):=World.alloc_heap_new w _;generalize w.alloc (.cells #[a] t)=W at hh;generalize w.heap.size=m at hh
 match j,hj with
 |0,hj=>simp[Addr.add,World.cell?,hh]at hj⊢;exact hj
theorem tB(F:Fence)(n:Nat)(h32:F.fn 102)(hro:F.round=none)(hn:2<=n)(g:Nat)(lb:Array Value)(hFg:F.fn g)(eg:∀args w,(callFunc g args).run prog w=.ok (.enter g args) w)
  (S:List Nat->Prop)(N:Nat)(hN:N<1000000)(w:World)(hseq:SeqStopsK F (n-1) prog g lb (λx:Nat=>#[.int .u32 x]) KeepsWalks S (λ_=>True) N w):
  CallsIn F n prog 102 #[.slice none 0 0,.func (.func g) #[] lb] w λe w'=>∃(v:Value) (ts:List Nat),e=.returned v/\S ts/\w'.ownsRow w.heap.size 34 1 v ts.length (A9 ts)/\Below w.heap.size w w':=by
 have h1:1<=n:=by omega
 obtain⟨i0,hi,hz0,hz1,hz2⟩:=info_parts zN;refine callsIn_of_wp_marks func102 rfl h32 ?_ hro;simp only[ntmps102,List.size_toArray,List.length_cons,List.length_nil,Nat.reduceAdd,Nat.reduceSub,Array.replicate_succ,Array.replicate_zero,List.push_toArray,List.append_toArray,List.nil_append,List.cons_append]
 gi_wp2
 have bS:=Boxed.new w 51 (.slice none 0 0);have hB0:Below w.heap.size w (w.alloc (.cells #[.slice none 0 0] 51)):=(Below.refl _ w).alloc (Nat.le_refl _) _;have hsz:(w.alloc (.cells #[.slice none 0 0] 51)).heap.size=w.heap.size+1:=by simp
 obtain⟨W0,hW0⟩:∃W0,w.alloc (.cells #[.slice none 0 0] 51)=W0:=⟨_,rfl⟩;rw[hW0]at bS hB0 hsz⊢;clear hW0
 refine wpIn_rangeFunc_ownH hro h1 (gf:=g) (lb:=lb) rfl hFg eg hseq walksK_t walksK_b hB0 (λ_=>rfl)
  (λpre W=>(∃v,Boxed W w.heap.size 51 v/\W.ownsRow w.heap.size 34 1 v pre.length (A9 pre)/\True)/\Below w.heap.size w W)
  (λ_ _ _=>False)
  (OwnFrom.and (Own.from (holdsRow_own w.heap.size w.heap.size 51 34 1 (λpre:List Nat=>pre.length) (λpre=>A9 pre) (λ_ _=>True)) _) (ownFrom_below (Nat.le_refl _) (by omega)))
  (λ_ _ _ _ _ hs _ _=>hs)
  ⟨⟨_,bS,World.ownsRow_nil _ _ _ _,trivial⟩,hB0⟩
  (λx a' W=>a'={tmps:=#[.slice none 0 0,.func (.func g) #[] lb,.pointer (some ⟨w.heap.size,0,none⟩),undef,.slice none 0 0,.int .u32 (x:Nat),.func (.func g) #[] lb,.int .u32 (x:Nat),undef,undef,undef,undef,undef],defers:=[]})
  (λx a' _ X Y row hs hg hr=>hs)
  ?assign ?body ?done ?stop
 case assign=>
  rintro l pre x W K⟨⟨v,hv,hrow,_⟩,hB⟩hK
  gi_wp2
  exact hK _ _ ((KeepsOthers.refl _).from _) (KeepsOthers.refl _).walks ⟨⟨v,hv,hrow,trivial⟩,hB⟩ rfl
 case body=>
  rintro l pre x a' W hl⟨r,hr⟩⟨⟨v,hv,hrow,_⟩,hB⟩rfl hlt;have cB:=hv.cell
  gi_wp2_with (gi_at_builtin;refine wpListIn_append_own _ rfl _ _ 51 rfl w.heap.size 34 i0 (.int .u32 0) 1 4 underlying51 hi hz0 hz1 hz2 rfl (by decide) _ _ _ rfl (hrow.alloc _) ⟨W.heap.size,0,none⟩ 1 1 [.int .u32 x] rfl rfl (ic _ _ _) (by simp[Value.oneCell']) (by unfold maxLen;omega) (by omega) (by have:=hB.size;simp;omega) ?_;intro v' w1 hown' hgrow _;obtain⟨g',cap',rfl⟩:=ownsRow_succ hown';obtain⟨hv1,hv2,hr2,hk2,hb2⟩:=hv.appended (by decide) hrow hB.size (Nat.le_refl _) hown' hgrow;have hc1:=hv1.cell;have hf1:=hv1.frozen)
  exact⟨hk2.from _,hk2.walks,⟨_,hv2,by simpa[A9]using hr2,trivial⟩,hB.trans hb2⟩
 case done=>
  rintro D ys W hD hS⟨⟨v,hv,hrow,_⟩,hB⟩hK;have cB:=hv.cell
  gi_wp2
  refine⟨by simp,.inl ⟨_,_,rfl,run_takeDeferred hK,?_⟩⟩;exact⟨_,results_tmp rfl _ _ _,v,ys,rfl,hS,ownsRow_putObj hrow _ hK rfl,hB.trans (belowK_b (w:=w) (Nat.le_refl _) W D _ _ (by omega) hK rfl rfl)⟩
 case stop=>
  rintro D c pre W _ _ h _;exact h.elim
theorem qB(F:Fence)(n:Nat)(h26:F.fn 75)(h32:F.fn 102)(hro:F.round=none)(hn:3<=n)(g:Nat)(lb:Array Value)(hFg:F.fn g)(eg:∀args w,(callFunc g args).run prog w=.ok (.enter g args) w)
  (S:List Nat->Prop)(N:Nat)(hN:N<1000000)(w:World)(hseq:SeqStopsK F (n-1-1) prog g lb (λx:Nat=>#[.int .u32 x]) KeepsWalks S (λ_=>True) N w):
  CallsIn F n prog 75 #[.func (.func g) #[] lb] w λe w'=>∃(v:Value) (ts:List Nat),e=.returned v/\S ts/\w'.ownsRow w.heap.size 34 1 v ts.length (A9 ts)/\Below w.heap.size w w':=by
 have h1:1<=n:=by omega
 refine callsIn_of_wp func75 rfl h26 ?_ hro;simp only[ntmps75,List.size_toArray,List.length_cons,List.length_nil,Nat.reduceAdd,Nat.reduceSub,Array.replicate_succ,Array.replicate_zero,List.push_toArray,List.append_toArray,List.nil_append,List.cons_append]
 gi_wp2_with (gi_at_call 102;refine(tB F (n-1) h32 hro (by omega) g lb hFg eg S N hN _ hseq).mono ?_;rintro e w'⟨v,ss,rfl,hS,hrow,hb⟩)
 go_ret
 exact⟨v,ss,rfl,hS,hrow,hb⟩
end
section
variable{w w':World}
theorem xB(w:World):Calls prog 123 #[.int .u64 1] w λe w'=>(∃r:Int,e=.returned (.int .i64 r))/\w=w':=by
 go_enter func123,ntmps123;go_wp2;go_returns;exact⟨⟨_,rfl⟩,rfl⟩
theorem CU(w:World):Calls prog 104 #[.int .u64 1] w λe w'=>(∃r:Int,e=.returned (.int .i64 r))/\w=w':=by
 go_enter func104,ntmps104
 go_wp2_with fail
 refine(xB _).mono ?_;rintro e w'⟨⟨r,rfl⟩,rfl⟩;go_wp2;go_returns;exact⟨⟨_,rfl⟩,rfl⟩
theorem s5(v:Value)(w:World):Calls prog 113 #[v,.int .i64 0,.int .i64 1] w λe w'=>e=.returned (.tuple #[])/\w=w':=by
 go_enter func113,ntmps113;go_wp2
 go_loopw [6] (λi wr=>i=.int .i64 1/\wr=w) (λ_ _=>0)
 case atStart=>exact⟨rfl,rfl⟩
 case round=>
  obtain⟨rfl,rfl⟩:=hrel;go_wp2;go_returns;exact⟨rfl,rfl⟩
theorem Ds(v:Value)(r:Int)(w:World):Calls prog 103 #[v,.int .i64 0,.int .i64 1,.int .i64 r] w λe w'=>e=.returned (.tuple #[])/\w=w':=by
 go_enter func103,ntmps103;go_wp2
 go_loopw [1,2] (λa b wr=>a=.int .i64 0/\b=.int .i64 1/\wr=w) (λ_ _ _=>0)
 case atStart=>exact⟨rfl,rfl,rfl⟩
 case round=>
  obtain⟨rfl,rfl,rfl⟩:=hrel
  go_wp2_with fail
  refine(s5 _ _).mono ?_;rintro e w'⟨rfl,rfl⟩;go_wp2;go_returns;exact⟨rfl,rfl⟩
theorem AB(a:Option Addr)(c:Nat)(w:World):Calls prog 76 #[.slice a 1 c] w λe w'=>e=.returned (.tuple #[])/\w=w':=by
 go_enter func76,ntmps76
 go_wp2_with fail
 refine(CU _).mono ?_;rintro e w'⟨⟨r,rfl⟩,rfl⟩
 go_wp2_with fail
 refine(Ds _ r _).mono ?_;rintro e w'⟨rfl,rfl⟩;go_wp2;go_returns;exact⟨rfl,rfl⟩
theorem qD{Bs b x:Nat}{v:Value}(hl:Bs<w.heap.size)(hBs:w.cell? ⟨Bs,0,none⟩=some (.map (some b)))(hM:MpV prog 34 .u32 zV w b 1 (λz=>if z=(x:Int)then some v else none)):
  Calls prog 75 #[.func (.func 77) #[] #[.pointer (some ⟨Bs,0,none⟩)]] w λe w'=>∃u,e=.returned u/\w'.ownsRow w.heap.size 34 1 u 1 [.int .u32 (x:Nat)]/\Fr NoF w w':=by
 have h:=qB Fence.wide 10 trivial trivial rfl (by omega) 77 #[.pointer (some ⟨Bs,0,none⟩)] trivial (enters_of func77 (by kernel_rfl) rfl) (λys=>ys=[x]) 1 (by omega) w
  (Bg Fence.wide 8 trivial rfl (by omega) Bs b x v w hl hBs hM)
 refine(callsIn_wide.1 h).mono ?_;rintro e w'⟨u,ts,rfl,rfl,hrow,hb⟩;exact⟨u,rfl,hrow,Fr.ofBelow hb⟩
theorem sH(b:Nat)(w:World):Calls prog 58 #[.map (some b)] w λe w'=>e=.returned (.func (.func 77) #[] #[.pointer (some ⟨w.heap.size,0,none⟩)])/\w'=w.alloc (.cells #[.map (some b)] 103):=by
 go_enter func58,ntmps58;go_wp2;go_returns;exact⟨rfl,rfl⟩
theorem rQ{Bs b x:Nat}{v:Value}(hl:Bs<w.heap.size)(hBs:w.cell? ⟨Bs,0,none⟩=some (.map (some b)))(hM:MpV prog 34 .u32 zV w b 1 (λz=>if z=(x:Int)then some v else none)):
  Calls prog 57 #[.func (.func 77) #[] #[.pointer (some ⟨Bs,0,none⟩)]] w λe w'=>∃u,e=.returned u/\w'.ownsRow w.heap.size 34 1 u 1 [.int .u32 (x:Nat)]/\Fr NoF w w':=by
 have HC:=Hd (qD hl hBs hM);clear hM hBs hl;go_enter func57,ntmps57
 go_wp2_with fail
 refine HC.out.mono ?_;rintro e w1⟨u,rfl,hrow,hf⟩;have HK:=Hd (And.intro hrow hf);obtain⟨a,c,rfl,_,_⟩:=SlC.shape (SlC.ofOwn hrow (by intro y hy;simp at hy;subst hy;rfl));clear hrow hf HC
 go_wp2_with fail
 refine(AB _ _ _).mono ?_;rintro e w'⟨rfl,rfl⟩;go_wp2;go_returns;exact⟨_,rfl,HK.out⟩
end
end
section
open Go.Maps Go.Proofs.Tryz Go.RowKit
abbrev qN(x:Nat)(v:Value):Int->Option Value:=λz=>if z=(x:Int)then some v else none
theorem pC(x:Nat)(v v':Value):dJ (qN x v) (x:Int) (some v')=qN x v':=by
 funext z
 unfold dJ qN
 split<;>rfl
theorem wW(x:Nat)(v':Value):dJ (λ_=>none) (x:Int) (some v')=qN x v':=by
 funext z
 unfold dJ qN
 split<;>rfl
theorem il(x:Nat)(v:Value):qN x v (x:Int)=some v:=if_pos rfl
abbrev PgV(w:World)(mb c:Nat)(m:Int->Option Value):Prop:=MpV prog 34 .u32 zV w mb c m
theorem xz:MV prog 103 34 65 .u32 zV:=⟨underlying103,underlying34,λw=>by kernel_rfl⟩
theorem EIq:EI prog 65 27 1 8:=EI.mk' (z:=.int .u64 0) underlying65 (by kernel_rfl) rfl (by decide)
theorem GS:EI prog 51 34 1 4:=EI.mk' (z:=.int .u32 0) underlying51 (by kernel_rfl) rfl (by decide)
theorem o8{x:Nat}(h:x<4294967296):(Lit.int .u32 (x:Int)).wf=true:=by simp[Lit.wf,IntKind.min,IntKind.max,IntKind.signed,IntKind.bits];omega
def pgS(mb:Nat)(wv:Value):Nat->Value:=λi=>match i with|0=>.map (some mb)|1=>wv|_=>.nilFunc
theorem Ey(mb:Nat)(wv wv':Value):upd (pgS mb wv) 1 wv'=pgS mb wv':=by
 funext j
 unfold upd
 match j with
 |0|1=>rfl
 |_+2=>simp[pgS]
def u64C(l:List Nat):List Value:=l.map λy=>.int .u64 (y:Nat)
theorem kI(l:List Nat):∀u∈u64C l,u.oneCell'=true:=by
 intro u hu;obtain⟨y,_,rfl⟩:=List.mem_map.1 hu;rfl
structure eR(base pb mb x kk:Nat)(v:Value)(l:List Nat)(w:World):Prop where
 ex:∃wv k zs,k<=kk/\Blk w pb 2 (pgS mb wv)/\w.ownsRow base 34 1 wv k zs/\(∀u∈zs,u.oneCell'=true)/\∀b,wv.ownBlock=some b->¬b=pb/\¬b=mb/\¬v.ownBlock=some b
 mp:PgV w mb 1 (qN x v)
 vl:w.ownsRow base 27 1 v l.length (u64C l)
 nv:∀b,v.ownBlock=some b->¬b=pb/\¬b=mb
 n1:¬pb=mb
 lo:base<=pb/\base<=mb
theorem mM{w:World}{base base' e size n:Nat}{v:Value}{xs:List Value}(h:w.ownsRow base e size v n xs)(hb:base'<=base):w.ownsRow base' e size v n xs:=
 ⟨h.1,h.2.imp id (λ⟨g,cap,cur,e1,h1,h2⟩=>⟨g,cap,cur,e1,Nat.le_trans hb h1,h2⟩)⟩
section
variable{w w':World}{base pb mb x kk:Nat}{v wv:Value}{l:List Nat}
theorem eR.fr0(h:eR base pb mb x kk v l w)(f:Fr NoF w w'):eR base pb mb x kk v l w':=by
 obtain⟨wv,k,zs,h0,h1,h2,h3,h4⟩:=h.ex;exact⟨⟨wv,k,zs,h0,h1.fr f id,ak h2 f (λ_ _ q=>q),h3,h4⟩,h.mp.fr f id,ak h.vl f (λ_ _ q=>q),h.nv,h.n1,h.lo⟩
structure NoP(base pb mb:Nat)(w:World):Prop where
 hd:Blk w pb 2 (pgS mb (.slice none 0 0))
 mp:PgV w mb 0 (λ_=>none)
 n1:¬pb=mb
 lo:base<=pb/\base<=mb
theorem NoP.fr0(h:NoP base pb mb w)(f:Fr NoF w w'):NoP base pb mb w':=⟨h.hd.fr f id,h.mp.fr f id,h.n1,h.lo⟩
theorem xL(h:NoP base pb mb w)(hx:x<4294967296):Calls prog 31 #[.pointer (some ⟨pb,0,none⟩),.agg #[.int .i64 0,.int .u32 0,.int .u64 0],.agg #[.int .i64 0,.int .u32 x,.int .u64 0]] w λe w'=>e=.returned (.tuple #[])/\(∃v,eR base pb mb x 0 v [0] w')/\Fr (λi=>base<=i) w w':=by
 have hwf:=o8 hx;have HA:Fr NoF w ((w.alloc (.cells #[.int .i64 0,.int .u32 0,.int .u64 0] 36)).alloc (.cells #[.int .i64 0,.int .u32 (x:Nat),.int .u64 0] 48)):=((Fr.refl NoF w).alloc _).alloc _;have hb:base<=w.heap.size:=Nat.le_trans h.lo.1 (Nat.le_of_lt h.hd.lt);obtain⟨wA,hwA⟩:∃wA,wA=(w.alloc (.cells #[.int .i64 0,.int .u32 0,.int .u64 0] 36)).alloc (.cells #[.int .i64 0,.int .u32 (x:Nat),.int .u64 0] 48):=⟨_,rfl⟩;rw[<-hwA]at HA;have hsA:wA.heap.size=w.heap.size+1+1:=by rw[hwA];simp only[World.size_alloc]
 have H0:=h.fr0 HA;have hd0:Fr NoF wA ((wA.alloc (.cells #[.int .u64 0] 27)).drew):=((Fr.refl NoF wA).alloc _).drew;have H1:=H0.fr0 hd0;have how:((wA.alloc (.cells #[.int .u64 0] 27)).drew).ownsRow base 27 1 (.slice (some ⟨wA.heap.size,0,none⟩) 1 1) 1 [.int .u64 0]:=ak (mM (aQ (w:=wA) (w0:=wA) (Nat.le_refl _) #[.int .u64 0] 27 1 1 wA.heap.size rfl rfl (by unfold maxLen;omega)) (by omega)) (Fr.refl NoF _).drew (λ_ _ q=>q);obtain⟨w2,hrun,m1,m2⟩:=H1.mp.put_run xz (by omega) hwf (.slice (some ⟨wA.heap.size,0,none⟩) 1 1);rw[wW]at m1;have hml:=H0.mp.lt;have hpl:=H0.hd.lt
 have HR:Hid ((∃v,eR base pb mb x 0 v [0] w2)/\Fr (λi=>base<=i) w w2):=by
  have hlo:=h.lo;refine⟨⟨_,⟨⟨.slice none 0 0,0,[],Nat.zero_le _,H1.hd.fr m2 h.n1,World.ownsRow_nil _ _ _ _,λu q=>(by cases q),λb q=>(by cases q)⟩,m1,ak how m2 (λb q e=>by simp[Value.ownBlock]at q;omega),λb q=>?_,h.n1,hlo⟩⟩,?_⟩
  .simp[Value.ownBlock]at q;omega
  .exact((HA.trans hd0 (λ_ q=>.inl q)).none).trans m2 (λi q=>.inl (by show base<=i;rw[q];exact hlo.2))
 have hd1:Fr NoF wA (wA.alloc (.cells #[.int .u64 0] 27)):=(Fr.refl NoF wA).alloc _;have c0:=H0.hd.cell (i:=0) (by omega);have l0:=H0.hd.lt;have c1:=(H0.fr0 hd1).hd.cell (i:=0) (by omega);have l1:=(H0.fr0 hd1).hd.lt;simp only[pgS]at c0 c1;clear hd1;rw[hwA]at hrun c0 c1 l0 l1;simp only[World.size_alloc]at hrun;have hpw:=h.hd.lt;clear hpl h H0 H1 HA m1 m2 how hd0 hsA hml hwA hb;go_enter func31,ntmps31
 go_wp2_with fail
 go_region
 go_returns;exact⟨rfl,HR.out⟩
theorem sE{a b:Nat}(h:eR base pb mb x kk v [a,b] w)(hx:x<4294967296):Calls prog 55 #[.pointer (some ⟨pb,0,none⟩),.int .u32 x] w λe w'=>e=.returned (.tuple #[])/\(∃v,eR base pb mb x kk v [b] w')/\Fr (λi=>base<=i) w w':=by
 have hwf:=o8 hx;obtain⟨wv,k,zs,hk,h1,h2,h3,h4⟩:=h.ex;have hlo:=h.lo;have hb:base<=w.heap.size:=Nat.le_trans hlo.1 (Nat.le_of_lt h1.lt);have hlk:=h.mp.look_run xz hwf;rw[il]at hlk;simp only[Option.getD_some]at hlk;obtain⟨g,off,cap,rfl,q1,q2,gl,gc⟩:=(SlC.ofOwn h.vl (kI _)).at (k:=1) (by show 1<2;omega) (by omega)
 obtain rfl:off=0:=by
  obtain⟨_,z⟩:=h.vl;rcases z with⟨e,_⟩|⟨_,_,_,e,_⟩
  .cases e
  .simp at e;omega
 have g1:w.cell? ⟨g,1,none⟩=some (.int .u64 b):=by have:=gc 1 (.int .u64 (b:Nat)) rfl;simpa using this
 clear gc;have hd0:Fr NoF w ((w.alloc (.cells #[.int .u64 (b:Nat)] 27)).drew):=((Fr.refl NoF w).alloc _).drew;have how:((w.alloc (.cells #[.int .u64 (b:Nat)] 27)).drew).ownsRow base 27 1 (.slice (some ⟨w.heap.size,0,none⟩) 1 1) 1 [.int .u64 (b:Nat)]:=ak (mM (aQ (w:=w) (w0:=w) (Nat.le_refl _) #[.int .u64 (b:Nat)] 27 1 1 w.heap.size rfl rfl (by unfold maxLen;omega)) hb) (Fr.refl NoF _).drew (λ_ _ q=>q);obtain⟨w2,hrun,m1,m2⟩:=(h.mp.fr hd0 id).put_run xz (by omega) hwf (.slice (some ⟨w.heap.size,0,none⟩) 1 1);rw[pC]at m1;have e1:(if(qN x (.slice (some ⟨g,0,none⟩) [a,b].length cap) (x:Int)).isSome then 1 else 1+1)=1:=by rw[il];rfl
 rw[e1]at m1;have hml:=h.mp.lt;have hpl:=h1.lt
 have HR:Hid ((∃v,eR base pb mb x kk v [b] w2)/\Fr (λi=>base<=i) w w2):=by
  refine⟨⟨_,⟨⟨wv,k,zs,hk,(h1.fr hd0 id).fr m2 h.n1,ak (ak h2 hd0 (λ_ _ q=>q)) m2 (λb q e=>(h4 b q).2.1 e),h3,λb q=>⟨(h4 b q).1,(h4 b q).2.1,λe=>?_⟩⟩,m1,ak how m2 (λb q e=>by simp[Value.ownBlock]at q;omega),λb q=>?_,h.n1,hlo⟩⟩,?_⟩
  .have:=(World.ownsRow.lt h2 b q).1
   have:=(World.ownsRow.lt h2 b q).2;simp[Value.ownBlock]at e;omega
  .simp[Value.ownBlock]at q;omega
  .exact(hd0.none).trans m2 (λi q=>.inl (by show base<=i;rw[q];exact hlo.2))
 have c0:=h1.cell (i:=0) (by omega);simp only[pgS]at c0;simp only[List.length_cons,List.length_nil,Nat.zero_add,Nat.reduceAdd]at hlk hrun;clear h h1 h2 h3 h4 m1 m2 how hd0 hb hml e1 q1 q2;go_enter func55,ntmps55
 go_wp2_with fail
 go_region
 go_returns;exact⟨rfl,HR.out⟩
theorem wO{a b:Nat}(h:eR base pb mb x kk v [a] w)(hkk:kk<=1000)(hx:x<4294967296):Calls prog 54 #[.pointer (some ⟨pb,0,none⟩),.int .u32 x,.int .u64 b] w λe w'=>e=.returned (.tuple #[])/\(∃v,eR base pb mb x (kk+1) v [a,b] w')/\Fr (λi=>base<=i) w w':=by
 have hwf:=o8 hx;obtain⟨wv,k,zs,hk,h1,h2,h3,h4⟩:=h.ex;have hlo:=h.lo;have hb:base<=w.heap.size:=Nat.le_trans hlo.1 (Nat.le_of_lt h1.lt);have hlk:=h.mp.look_ok_run xz hwf;rw[il]at hlk;simp only[Option.getD_some,Option.isSome_some]at hlk;obtain⟨va,vc,rfl,q1,q2⟩:=(SlC.ofOwn h.vl (kI _)).shape;obtain⟨wa,wc,rfl,q3,q4⟩:=(SlC.ofOwn h2 h3).shape;have c0:=h1.cell (i:=0) (by omega);have c1:=h1.cell (i:=1) (by omega);have f1:=h1.frozen 1;have hpl:=h1.lt;simp only[pgS]at c0 c1;have HV:=Hd h.vl;have HM:=Hd h.mp;have HP:=Hd h1;have HKK:=Hd hk;have HW:=Hd (And.intro h2 (And.intro h3 h4));have HNV:=Hd h.nv;have HN1:=Hd h.n1;unfold maxLen at q2 q4;simp only[List.length_cons,List.length_nil,Nat.zero_add,Nat.reduceAdd]at hlk q1;clear h h1 h2 h3 h4;go_enter func54,ntmps54
 go_wp2_with(at_builtin;go_must(refine eT (base:=base) GS rfl _ _ rfl (by rfl) (by rfl) (by simp only[World.size_alloc];omega) (ak HW.out.1 ((Fr.refl NoF _).alloc _) (λ_ _ q=>q)) (SlC.ofOwn (aQ (w0:=w) (Nat.le_refl _) #[.int .u32 (x:Nat)] 34 1 1 _ rfl rfl (by unfold maxLen;omega)) (by simp[Value.oneCell'])) (by unfold maxLen;omega) (by omega) ?_);intro v' w2 hown' hf' hob';obtain⟨a8,c8,rfl,_,_⟩:=(SlC.ofOwn hown' (by intro u hu;rcases List.mem_append.1 hu with q|q;exact HW.out.2.1 u q;simp at q;subst q;rfl)).shape;have HF':=Hd (Fr.trans (F:=λb=>(Value.slice wa k wc).ownBlock=some b) (a:=w) (Fr.none ((Fr.refl NoF w).alloc _)) hf' (λi hi=>.inl hi));have HO':=Hd hown';have HB':=Hd hob';have hb2:=HP.out.fr HF'.out (λe=>(HW.out.2.2 _ e).1 rfl);have g5:=hb2.cell (i:=1) (by omega);simp only[pgS]at g5;have gf:=hb2.frozen 1;have gl:=hb2.lt;have HB2:=Hd hb2;clear hf' hown' hob' hb2)
 have HX:Hid (Blk (w2.setCell ⟨pb,1,none⟩ (.slice a8 (k+1) c8)) pb 2 (pgS mb (.slice a8 (k+1) c8))):=by
  have:=HB2.out.set 1 (.slice a8 (k+1) c8)
  rwa [Ey]at this
 have FX:Hid (Fr (λb=>b=pb\/(Value.slice wa k wc).ownBlock=some b) w (w2.setCell ⟨pb,1,none⟩ (.slice a8 (k+1) c8))):=(HF'.out.mono (λ_ q=>.inr q)).setCell (p:=⟨pb,1,none⟩) (.inl (.inl rfl)) _
 have OX:Hid ((w2.setCell ⟨pb,1,none⟩ (.slice a8 (k+1) c8)).ownsRow base 34 1 (.slice a8 (k+1) c8) (k+1) (zs++[.int .u32 (x:Nat)])/\∀b,(Value.slice a8 (k+1) c8).ownBlock=some b->¬b=pb/\¬b=mb/\¬(Value.slice va 1 vc).ownBlock=some b):=by
  have key:∀b,(Value.slice a8 (k+1) c8).ownBlock=some b->¬b=pb/\¬b=mb/\¬(Value.slice va 1 vc).ownBlock=some b:=λb q=>by
   rcases HB'.out b q with z|z
   .exact HW.out.2.2 b z
   .have e1:=HP.out.lt
    have e2:=HM.out.lt;simp only[World.size_alloc]at z;refine⟨by omega,by omega,λz2=>?_⟩;have:=(World.ownsRow.lt HV.out b z2).2;omega
  exact⟨ak HO'.out ((Fr.refl (λb=>b=pb) w2).setCell (p:=⟨pb,1,none⟩) (.inl rfl) _) (λb q e=>(key b q).1 e),key⟩
 clear HO' HB' HB2 HF' HP c0 c1 f1 hpl g5 gf gl;generalize w2.setCell ⟨pb,1,none⟩ (.slice a8 (k+1) c8)=w3 at*;have c0:Hid (∀W,Fr NoF w3 W->W.cell? ⟨pb,0,none⟩=some (.map (some mb))):=λW f=>(HX.out.fr f id).cell (i:=0) (by omega)
 go_wp2_with fail
 refine qQ (λw'=>w'.cell? ⟨pb,0,none⟩=some (.map (some mb))) 9 (by kernel_rfl) rfl rfl (by kernel_rfl) ?_;simp only[List.take_succ_cons,List.take_zero];have hS:(λw'=>w'.cell? ⟨pb,0,none⟩=some (.map (some mb))) w3.drew:=c0.out _ (Fr.refl NoF _).drew;refine wpAnyH_take (i:=0) (v:=?_) rfl (by decide+kernel) (by decide+kernel) (by decide+kernel) (λ_ _ _ h=>h) (Or.inl ⟨by rfl,?_⟩) hS ?_
 rotate_left
 .intro wS hSw;(try dsimp only at hSw);go_simp
  try with_reducible rfl
 try simp only[Act.put,List.setIfInBounds_toArray,List.set_cons_zero,List.set_cons_succ]
 refine wpAnyH_take (i:=1) (v:=?_) rfl (by decide+kernel) (by decide+kernel) (by decide+kernel) (λ_ _ _ h=>h) (Or.inl ⟨by rfl,?_⟩) hS ?_
 rotate_left
 .intro wS hSw;(try dsimp only at hSw);go_simp
  try with_reducible rfl
 try simp only[Act.put,List.setIfInBounds_toArray,List.set_cons_zero,List.set_cons_succ]
 refine wpAnyH_take (i:=2) (v:=?_) rfl (by decide+kernel) (by decide+kernel) (by decide+kernel) (λ_ _ _ h=>h) (Or.inl ⟨by rfl,?_⟩) hS ?_
 rotate_left
 .intro wS hSw;(try dsimp only at hSw);go_simp
  try with_reducible rfl
 try simp only[Act.put,List.setIfInBounds_toArray,List.set_cons_zero,List.set_cons_succ]
 refine wpAnyH_take (i:=3) (v:=?_) rfl (by decide+kernel) (by decide+kernel) (by decide+kernel) (λ_ _ _ h=>h) (Or.inl ⟨by rfl,?_⟩) hS ?_
 rotate_left
 .intro wS hSw;(try dsimp only at hSw);go_simp
  try with_reducible rfl
 try simp only[Act.put,List.setIfInBounds_toArray,List.set_cons_zero,List.set_cons_succ]
 refine wpAnyH_take (i:=4) (v:=?_) rfl (by decide+kernel) (by decide+kernel) (by decide+kernel) (λ_ _ _ h=>h) (Or.inl ⟨by rfl,?_⟩) hS ?_
 rotate_left
 .intro wS hSw;(try dsimp only at hSw);go_simp
  try with_reducible rfl
 try simp only[Act.put,List.setIfInBounds_toArray,List.set_cons_zero,List.set_cons_succ]
 refine wpAnyH_take (i:=5) (v:=?_) rfl (by decide+kernel) (by decide+kernel) (by decide+kernel) (λ_ _ _ h=>h) (Or.inl ⟨by rfl,?_⟩) hS ?_
 rotate_left
 .intro wS hSw;(try dsimp only at hSw);go_simp
  try with_reducible rfl
 try simp only[Act.put,List.setIfInBounds_toArray,List.set_cons_zero,List.set_cons_succ]
 refine wpAnyH_take (i:=6) (v:=?_) rfl (by decide+kernel) (by decide+kernel) (by decide+kernel) (λ_ _ _ h=>h) (Or.inl ⟨by rfl,?_⟩) hS ?_
 rotate_left
 .intro wS hSw;(try dsimp only at hSw);go_simp
  try with_reducible rfl
 try simp only[Act.put,List.setIfInBounds_toArray,List.set_cons_zero,List.set_cons_succ]
 clear hS;refine wpAnyH_ready (rs:=[7]) (by kernel_rfl) (by simp) ?_;refine AllReadyH.cons rfl (λK hK=>?_) ?_
 .go_simp
  refine hK.out _ _ (by exact c0.out _ ((Fr.refl NoF _).drew.alloc _)) (λhS=>?_);clear hK K
  try simp only[Act.put,List.setIfInBounds_toArray,List.set_cons_zero,List.set_cons_succ]
  refine wpAnyH_ready (rs:=[8]) (by kernel_rfl) (by simp) ?_;refine AllReadyH.cons rfl (λK hK=>?_) ?_
  .have fa:Fr NoF w3 (w3.drew.alloc (.cells #[.int .u64 (b:Nat)] 27)):=(Fr.refl NoF w3).drew.alloc _
   have fz:Fr (λb=>b=pb\/(Value.slice wa k wc).ownBlock=some b) w (w3.drew.alloc (.cells #[.int .u64 (b:Nat)] 27)):=FX.out.trans fa (λ_ q=>q.elim);have vz:=ak HV.out fz (λb q e=>e.elim (λe=>(HNV.out b q).1 e) (λe=>(HW.out.2.2 b e).2.2 q));refine eU (base:=base) EIq rfl (.tmp 37) (.tmp 39) rfl (by rfl) (by rfl) (Nat.le_trans hb fz.size) vz (SlC.ofOwn (aQ (w:=w3.drew) (w0:=w3.drew) (Nat.le_refl _) #[.int .u64 (b:Nat)] 27 1 1 _ rfl rfl (by unfold maxLen;omega)) (by intro u hu;simp at hu;subst hu;rfl)) (by unfold maxLen;simp) (by simp) ?_;intro v2 w4 hown2 hf2 hob2
   have hpb4:w4.cell? ⟨pb,0,none⟩=some (.map (some mb)):=by
    have z:=(HX.out.fr fa id).fr hf2 (λe=>(HNV.out _ e).1 rfl);exact z.cell (i:=0) (by omega)
   refine hK.out _ _ (by exact hpb4) (λhS=>?_);clear hK K
   try simp only[Act.put,List.setIfInBounds_toArray,List.set_cons_zero,List.set_cons_succ]
   refine wpAnyH_done (by kernel_rfl) ?_ _
   show wpList _ _ _ _ _ _
   have MZ:=Hd ((HM.out.fr fz (λe=>e.elim (λe=>HN1.out e.symm) (λe=>(HW.out.2.2 _ e).2.1 rfl))).fr hf2 (λe=>(HNV.out _ e).2 rfl));have XZ:=Hd ((HX.out.fr fa id).fr hf2 (λe=>(HNV.out _ e).1 rfl));have OZ:=Hd (ak (ak OX.out.1 fa (λ_ _ q=>q)) hf2 (λb q e=>(OX.out.2 b q).2.2 e));have VZ:=Hd hown2
   have BZ:Hid (∀b,v2.ownBlock=some b->¬b=pb/\¬b=mb/\¬(Value.slice a8 (k+1) c8).ownBlock=some b):=λb q=>by
    rcases hob2 b q with z|z
    .exact⟨(HNV.out b z).1,(HNV.out b z).2,λe=>(OX.out.2 b e).2.2 z⟩
    .have e1:=HX.out.lt
     have e2:=HM.out.lt;have e3:=FX.out.size;have z:_<=b:=z;rw[show∀W:World,W.drew.heap.size=W.heap.size from λ_=>rfl,World.size_alloc]at z;refine⟨by omega,by omega,λe=>?_⟩;have:=(World.ownsRow.lt OX.out.1 b e).2;omega
   have FZ:Hid (Fr (λi=>base<=i) w w4):=(fz.mono (λi q=>by
    rcases q with q|q
    .rw[q];exact hlo.1
    .exact aj HW.out.1 i q)).trans hf2 (λi q=>.inl (aj HV.out i q))
   clear hf2 hown2 hob2 fa fz vz hpb4
   go_wp2_with(at_mapUpdate;go_must(refine Ci xz MZ.out (by omega) rfl _ _ _ rfl (by rfl) (by rfl) (by rfl) hwf ?_);intro w5 m1 m2;have HM1:=Hd m1;have HM2:=Hd m2;clear m1 m2)
   go_returns;have m1:=HM1.out;rw[pC,il]at m1;refine⟨rfl,⟨v2,⟨⟨_,k+1,_,by have:=HKK.out;omega,XZ.out.fr HM2.out HN1.out,ak OZ.out HM2.out (λb q e=>(OX.out.2 b q).2.1 e),λu hu=>?_,λb q=>⟨(OX.out.2 b q).1,(OX.out.2 b q).2.1,λe=>(BZ.out b e).2.2 q⟩⟩,m1,ak VZ.out HM2.out (λb q e=>(BZ.out b q).2.1 e),λb q=>⟨(BZ.out b q).1,(BZ.out b q).2.1⟩,HN1.out,hlo⟩⟩,FZ.out.trans HM2.out (λi q=>.inl (by show base<=i;rw[q];exact hlo.2))⟩;rcases List.mem_append.1 hu with q|q
   .exact HW.out.2.1 u q
   .simp at q;subst q;rfl
  .exact AllReadyH.nil
 .exact AllReadyH.nil
end
section
variable{w w':World}{base pb mb x kk a b:Nat}{v:Value}
theorem jJ(h:eR base pb mb x kk v [a] w)(hkk:kk<=1000)(hx:x<4294967296):Calls prog 31 #[.pointer (some ⟨pb,0,none⟩),.agg #[.int .i64 4,.int .u32 x,.int .u64 b],.agg #[.int .i64 0,.int .u32 0,.int .u64 0]] w λe w'=>e=.returned (.tuple #[])/\(∃v,eR base pb mb x (kk+1) v [a,b] w')/\Fr (λi=>base<=i) w w':=by
 have HA:Hid (Fr NoF w ((w.alloc (.cells #[.int .i64 4,.int .u32 (x:Nat),.int .u64 (b:Nat)] 36)).alloc (.cells #[.int .i64 0,.int .u32 0,.int .u64 0] 48))):=((Fr.refl NoF w).alloc _).alloc _;have HC:=Hd (wO (b:=b) (h.fr0 HA.out) hkk hx);clear h;go_enter func31,ntmps31
 go_wp2_with fail
 refine HC.out.mono ?_;rintro e w1⟨rfl,h1,f1⟩;have HK:=Hd (And.intro h1 (HA.out.none.trans f1 (λi q=>.inl q)));clear h1 f1 HC HA;go_wp2;go_returns;exact⟨rfl,HK.out⟩
theorem ql(h:eR base pb mb x kk v [a,b] w)(hx:x<4294967296):Calls prog 31 #[.pointer (some ⟨pb,0,none⟩),.agg #[.int .i64 5,.int .u32 x,.int .u64 0],.agg #[.int .i64 0,.int .u32 0,.int .u64 0]] w λe w'=>e=.returned (.tuple #[])/\(∃v,eR base pb mb x kk v [b] w')/\Fr (λi=>base<=i) w w':=by
 have HA:Hid (Fr NoF w ((w.alloc (.cells #[.int .i64 5,.int .u32 (x:Nat),.int .u64 0] 36)).alloc (.cells #[.int .i64 0,.int .u32 0,.int .u64 0] 48))):=((Fr.refl NoF w).alloc _).alloc _;have HC:=Hd (sE (h.fr0 HA.out) hx);clear h;go_enter func31,ntmps31
 go_wp2_with fail
 refine HC.out.mono ?_;rintro e w1⟨rfl,h1,f1⟩;have HK:=Hd (And.intro h1 (HA.out.none.trans f1 (λi q=>.inl q)));clear h1 f1 HC HA;go_wp2;go_returns;exact⟨rfl,HK.out⟩
theorem Fy(w:World)(v:Value)(t:TypeId):(w.alloc (.cells #[v] t)).cell? ⟨w.heap.size,0,none⟩=some v/\w.heap.size<(w.alloc (.cells #[v] t)).heap.size/\Fr NoF w (w.alloc (.cells #[v] t)):=
 ⟨ic w v t 0 v rfl,by simp,(Fr.refl NoF w).alloc _⟩
theorem EIk:EI prog 63 67 2 32:=EI.mk' (z:=.agg #[.int .u32 0,.slice none 0 0]) underlying63 (by kernel_rfl) rfl (by decide)
theorem vX(w:World):(Instr.makeSlice 63 (.int .i64 0) (.int .i64 1)).run prog w=.ok (.slice (some ⟨w.heap.size,0,none⟩) 0 1) (w.alloc (.cells (madeCells #[.int .u32 0,.slice none 0 0] 2) 67)):=by
 obtain⟨i0,hi,hz,hs,hb⟩:=bq (P:=prog) (e:=67) (z:=.agg #[.int .u32 0,.slice none 0 0]) (s:=2) (b:=32) (by kernel_rfl);have:=run_make (P:=prog) w 63 67 i0 _ underlying63 hi hz .i64 .i64 (0:Int) (1:Int) (by omega) (by omega) (by rw[hb];omega) (by omega);rw[hs]at this;exact this
theorem sP(h:eR base pb mb x kk v [a,b] w)(hx:x<4294967296):Calls prog 32 #[.pointer (some ⟨pb,0,none⟩)] w λe w'=>∃u,e=.returned u/\w'.ownsRow w.heap.size 67 2 u 1 [.int .u32 (x:Nat),v]/\Fr NoF w w':=by
 have hwf:=o8 hx;obtain⟨wv,k,zs,hk,h1,h2,h3,h4⟩:=h.ex;have c0:Hid (∀W,Fr NoF w W->W.cell? ⟨pb,0,none⟩=some (.map (some mb))/\pb<W.heap.size):=λW f=>⟨(h1.fr f id).cell (i:=0) (by omega),(h1.fr f id).lt⟩
 obtain⟨va,vc,rfl,_,_⟩:=(SlC.ofOwn h.vl (kI _)).shape;simp only[List.length_cons,List.length_nil,Nat.zero_add,Nat.reduceAdd]at*;have c00:=c0.out w (Fr.refl _ _);obtain⟨c01,c02⟩:=c00;have hmp:=h.mp;obtain⟨D,hown,hs,hsv⟩:=h.mp;have HM:=Hd h.mp;have HMK:=vX;clear h h1 h2 h3 h4;have hD:=hs;go_enter func32,ntmps32
 go_wp2_with(at_len;refine wpList_len_own _ rfl _ 103 rfl 34 65 underlying103 _ mb 1 D rfl hown ?_;rw[hD];have hmk:=HMK w)
 have fA:Fr NoF w (w.alloc (.cells (madeCells #[.int .u32 0,.slice none 0 0] 2) 67)):=(Fr.refl NoF w).alloc _
 have OA:Hid ((w.alloc (.cells (madeCells #[.int .u32 0,.slice none 0 0] 2) 67)).ownsRow w.heap.size 67 2 (.slice (some ⟨w.heap.size,0,none⟩) 0 1) 0 []):=
  ⟨rfl,.inr ⟨w.heap.size,1,_,rfl,Nat.le_refl _,heap_alloc_new _ _ _ rfl,Nat.zero_le _,by unfold maxLen;omega,by simp[size_madeCells],by simp⟩⟩
 have FA:=Hd fA;have FA0:Hid (w.heap.size<(w.alloc (.cells (madeCells #[.int .u32 0,.slice none 0 0] 2) 67)).heap.size):=by show w.heap.size<_;simp
 clear hown hmp hs hD;generalize w.alloc (.cells (madeCells #[.int .u32 0,.slice none 0 0] 2) 67)=w1 at*;obtain⟨c1,l1⟩:=c0.out w1 fA;clear fA hmk c01 c02
 go_wp2_with fail
 refine(sH mb w1).mono ?_;rintro e w2⟨rfl,rfl⟩;have f2:Fr NoF w1 (w1.alloc (.cells #[.map (some mb)] 103)):=(Fr.refl NoF w1).alloc _;obtain⟨b1,b2,b3⟩:=Fy w1 (.map (some mb)) 103;have HS:=Hd (rQ (w:=w1.alloc (.cells #[.map (some mb)] 103)) (Bs:=w1.heap.size) (b:=mb) (x:=x) (v:=.slice va 2 vc) b2 b1 (HM.out.fr (FA.out.trans b3 (λ_ q=>.inl q)) id));have F2:=Hd (FA.out.trans b3 (λ_ q=>.inl q));have O2:=Hd (ak OA.out b3 (λ_ _ q=>q));clear f2 b1 b2 b3 c1 l1 FA OA
 go_wp2_with fail
 refine HS.out.mono ?_;rintro e w3⟨u,rfl,hrow,hf⟩;have U3:=Hd (SlC.ofOwn hrow (by intro y hy;simp at hy;subst hy;rfl));have F3:=Hd (F2.out.trans hf (λ_ q=>.inl q));have O3:=Hd (ak O2.out hf (λ_ _ q=>q));obtain⟨ub,uo,uc,rfl,r1,r2,ul,ug⟩:=U3.out.at (k:=0) (by omega) (by omega);have ug:=ug 0 _ rfl
 have hub:¬ub=w.heap.size:=λe=>by
  have:=aj hrow ub rfl;have:=F2.out.size;have:=FA0.out;simp only[World.size_alloc]at*;omega
 clear hrow hf HS F2 O2
 go_wp2_with fail
 obtain⟨wo,ewo⟩:∃y,y=w3:=⟨w3,rfl⟩;subst ewo
 go_loopw [19,3] (λi o wr=>Fr (λj=>j=w.heap.size) wo wr/\((i=.int .i64 0/\o=.slice (some ⟨w.heap.size,0,none⟩) 0 1/\wr.ownsRow w.heap.size 67 2 (.slice (some ⟨w.heap.size,0,none⟩) 0 1) 0 [])\/(i=.int .i64 1/\wr.ownsRow w.heap.size 67 2 o 1 [.int .u32 (x:Nat),.slice va 2 vc]))) (λi _ _=>1-(intOf i).toNat)
 case atStart=>exact⟨Fr.refl _ _,.inl ⟨rfl,rfl,O3.out⟩⟩
 case round=>
  obtain⟨hf,hst⟩:=hrel;have HFQ:=Hd (F3.out.trans hf (λi q=>.inr (by rw[q];exact Nat.le_refl _)));rcases hst with⟨rfl,rfl,how⟩|⟨rfl,ho⟩
  .have y0:wr.cell? ⟨ub,uo,none⟩=some (.int .u32 (x:Nat)):=by rw[hf.cell (p:=⟨ub,uo,none⟩) ul hub];exact ug
   have yl:ub<wr.heap.size:=Nat.lt_of_lt_of_le ul hf.size;obtain⟨c1,l1⟩:=c0.out wr HFQ.out;have hlk:=(HM.out.fr HFQ.out id).look_run xz hwf;rw[il]at hlk;simp only[Option.getD_some]at hlk;have OW:=Hd how;have HF:=Hd hf;clear hf ug ul how hub
   go_wp2_with(at_builtin;go_must(refine eT (base:=w.heap.size) EIk rfl _ _ rfl (by rfl) (by rfl) (by have:=HFQ.out.size;simp only[World.size_alloc];omega) (ak OW.out ((Fr.refl NoF _).alloc _) (λ_ _ q=>q)) (SlC.ofOwn (aQ (w0:=wr) (Nat.le_refl _) #[.int .u32 (x:Nat),.slice va 2 vc] 67 2 1 _ rfl rfl (by unfold maxLen;omega)) (by intro y hy;simp at hy;rcases hy with rfl|rfl;rfl;rfl)) (by unfold maxLen;omega) (by omega) ?_);intro v' w4 hown' hf' hob';have HO':=Hd hown';have HF':=Hd (HF.out.trans (((Fr.refl NoF wr).alloc (.cells #[.int .u32 (x:Nat),.slice va 2 vc] 67)).none.trans hf' (F:=λj=>j=w.heap.size) (λi q=>.inl (by simp[Value.ownBlock]at q;exact q.symm))) (λ_ q=>.inl q));clear hown' hf' hob')
   go_roundw
   case rel=>exact⟨HF'.out,.inr ⟨by first|rfl|go_num,HO'.out⟩⟩
   case measure=>simp[intOf]
  .clear hf
   go_wp2;go_returns;exact⟨_,rfl,ho,HFQ.out⟩
end
end
end Go.Proofs.YtoenclhimbpfeaaGreatDoor
