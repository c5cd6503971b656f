/- Part 18. -/
import Derived.Test.YtcccbdnojlmgaaaK17
import Derived.Shelf.SlSortCmp.NoneTotal
namespace Go.Proofs.Ytcccbdnojlmgaaa
set_option linter.all false
set_option maxHeartbeats 16000000
set_option maxRecDepth 100000
section
open Go.Lib Go.Maps Go.RowKit Go.Shelf Go.Sort
def Gw(w w':World):Prop:=∃q os',w'=grow (w.drewN q) os'
theorem Gw.refl(w:World):Gw w w:=⟨0,#[],by rw[grow_empty];rfl⟩
theorem Gw.alloc{w w':World}(h:Gw w w')(o:Obj):Gw w (w'.alloc o):=by
 obtain⟨q,os,rfl⟩:=h;exact⟨q,os++#[o],by rw[alloc_eq_grow,grow_grow]⟩
theorem Gw.drewN{w w':World}(h:Gw w w')(n:Nat):Gw w (w'.drewN n):=by
 obtain⟨q,os,rfl⟩:=h;exact⟨q+n,os,by show grow ((w.drewN q).drewN n) os=_;congr 1;simp[World.drewN,Nat.add_assoc]⟩
theorem Gw.drew{w w':World}(h:Gw w w'):Gw w w'.drew:=h.drewN 1
instance:Inhabited Th:=⟨⟨0,0,0⟩⟩
theorem ltOf_cmpT:ltOf cmpT=ltT:=rfl
theorem swoT:SWO (ltOf cmpT) where
 irrefl x:=by rw[ltOf_cmpT,ltT_not];omega
 trans x y z h1 h2:=by rw[ltOf_cmpT,ltT_iff]at*;omega
 ntrans x y z h1 h2:=by rw[ltOf_cmpT,ltT_not]at*;omega
section
variable{w w':World}
theorem compare_gw(t u:Th)(w:World):Calls Try.prog 55 #[thV t,thV u] w fun e w'=>e=.returned (.int .i64 (cmpT t u))∧Gw w w':=by
 obtain⟨tx,ta,tb⟩:=t;obtain⟨ux,ua,ub⟩:=u;unfold thV;have HE:Hid (cmpT ⟨tx,ta,tb⟩ ⟨ux,ua,ub⟩=orI (cmpI ta ua) (cmpI tb ub) (cmpI tx ux)):=rfl;rw[HE.out];have HA:=Lib.hid (fun W=>cmp64 ta ua W);have HB:=Lib.hid (fun W=>cmp64 tb ub W);have HX:=Lib.hid (fun W=>cmpInt tx ux W);generalize cmpI ta ua=p at*;generalize cmpI tb ub=q at*;generalize cmpI tx ux=r at*;go_enter Try.func55,Try.ntmps55
 go_wp2_with fail
 have HBX:Hid (∀W,Fr NoF ((w.alloc (.cells #[.int .i64 tx,.int .i64 ta,.int .i64 tb] 108)).alloc (.cells #[.int .i64 ux,.int .i64 ua,.int .i64 ub] 108)) W->W.cell? ⟨w.heap.size,0,none⟩=some (.int .i64 tx)∧W.cell? ⟨w.heap.size,1,none⟩=some (.int .i64 ta)∧W.cell? ⟨w.heap.size,2,none⟩=some (.int .i64 tb)∧W.cell? ⟨w.heap.size+1,0,none⟩=some (.int .i64 ux)∧W.cell? ⟨w.heap.size+1,1,none⟩=some (.int .i64 ua)∧W.cell? ⟨w.heap.size+1,2,none⟩=some (.int .i64 ub)):=by
  intro W f
  have b1:Blk ((w.alloc (.cells #[.int .i64 tx,.int .i64 ta,.int .i64 tb] 108)).alloc (.cells #[.int .i64 ux,.int .i64 ua,.int .i64 ub] 108)) w.heap.size 3 (fun i=>if i=0 then .int .i64 tx else if i=1 then .int .i64 ta else .int .i64 tb):=(Blk.new w #[.int .i64 tx,.int .i64 ta,.int .i64 tb] 108 3 _ _ rfl rfl (fun i hi=>by
   match i,hi with
   |0,_=>rfl
   |1,_=>rfl
   |2,_=>rfl)).alloc _
  have b2:Blk ((w.alloc (.cells #[.int .i64 tx,.int .i64 ta,.int .i64 tb] 108)).alloc (.cells #[.int .i64 ux,.int .i64 ua,.int .i64 ub] 108)) (w.heap.size+1) 3 (fun i=>if i=0 then .int .i64 ux else if i=1 then .int .i64 ua else .int .i64 ub):=Blk.new _ #[.int .i64 ux,.int .i64 ua,.int .i64 ub] 108 3 _ _ (by simp) rfl (fun i hi=>by
   match i,hi with
   |0,_=>rfl
   |1,_=>rfl
   |2,_=>rfl)
  have c1:=b1.fr f (fun q=>q);have c2:=b2.fr f (fun q=>q);exact⟨c1.cell (i:=0) (by omega),c1.cell (i:=1) (by omega),c1.cell (i:=2) (by omega),c2.cell (i:=0) (by omega),c2.cell (i:=1) (by omega),c2.cell (i:=2) (by omega)⟩
 have HSZ:Hid (Gw w ((w.alloc (.cells #[.int .i64 tx,.int .i64 ta,.int .i64 tb] 108)).alloc (.cells #[.int .i64 ux,.int .i64 ua,.int .i64 ub] 108))):=((Gw.refl w).alloc _).alloc _;have hl1:w.heap.size<((w.alloc (.cells #[.int .i64 tx,.int .i64 ta,.int .i64 tb] 108)).alloc (.cells #[.int .i64 ux,.int .i64 ua,.int .i64 ub] 108)).heap.size:=by simp;omega
 have hl2:w.heap.size+1<((w.alloc (.cells #[.int .i64 tx,.int .i64 ta,.int .i64 tb] 108)).alloc (.cells #[.int .i64 ux,.int .i64 ua,.int .i64 ub] 108)).heap.size:=by simp
 generalize(w.alloc (.cells #[.int .i64 tx,.int .i64 ta,.int .i64 tb] 108)).alloc (.cells #[.int .i64 ux,.int .i64 ua,.int .i64 ub] 108)=wB at*;generalize w.heap.size+1=bU at*;generalize w.heap.size=bT at*
 have HOr:Hid (∀W,Fr NoF (wB.alloc (.cells #[.int .i64 p,.int .i64 q,.int .i64 r] 3)) W->Calls Try.prog 63 #[.slice (some ⟨wB.heap.size,0,none⟩) 3 3] W fun e w'=>e=.returned (.int .i64 (orI p q r))∧W=w'):=by
  intro W f
  have b1:Blk (wB.alloc (.cells #[.int .i64 p,.int .i64 q,.int .i64 r] 3)) wB.heap.size 3 (fun i=>if i=0 then .int .i64 p else if i=1 then .int .i64 q else .int .i64 r):=Blk.new wB #[.int .i64 p,.int .i64 q,.int .i64 r] 3 3 _ _ rfl rfl (fun i hi=>by
   match i,hi with
   |0,_=>rfl
   |1,_=>rfl
   |2,_=>rfl)
  have c1:=b1.fr f (fun q=>q);exact or_calls (c1.cell (i:=0) (by omega)) (c1.cell (i:=1) (by omega)) (c1.cell (i:=2) (by omega))
 go_region_held3(fun w'=>w'.cell? ⟨bT,0,none⟩=some (.int .i64 tx)∧w'.cell? ⟨bT,1,none⟩=some (.int .i64 ta)∧w'.cell? ⟨bT,2,none⟩=some (.int .i64 tb)∧w'.cell? ⟨bU,0,none⟩=some (.int .i64 ux)∧w'.cell? ⟨bU,1,none⟩=some (.int .i64 ua)∧w'.cell? ⟨bU,2,none⟩=some (.int .i64 ub))
  (exact HBX.out _ (by repeat(first|exact Fr.refl NoF _|apply Fr.drew|apply Fr.drewN|apply Fr.alloc)))
  (first
   |(go_at_call 64;(with_reducible refine(HA.out _).mono ?_);rintro e w'⟨rfl,rfl⟩)
   |(go_at_call 64;(with_reducible refine(HB.out _).mono ?_);rintro e w'⟨rfl,rfl⟩)
   |(go_at_call 65;(with_reducible refine(HX.out _).mono ?_);rintro e w'⟨rfl,rfl⟩)
   |(go_at_call 63;(with_reducible refine(HOr.out _ (by repeat(first|exact Fr.refl NoF _|apply Fr.drew|apply Fr.drewN))).mono ?_);rintro e w'⟨rfl,rfl⟩))
 all_goals
  go_wp2;go_returns;exact⟨rfl,by repeat(first|exact HSZ.out|apply Gw.drew|apply Gw.drewN|apply Gw.alloc)⟩
end
def Try.sortTh_ren:Go.Shelf.Ren:=⟨fun|6=>61|15=>68|14=>67|28=>79|29=>80|20=>71|21=>72|22=>73|23=>74|24=>75|25=>76|26=>77|27=>78|46=>81|47=>82|48=>83|49=>84|50=>85|57=>86|n=>n,fun|22=>73|24=>108|25=>112|3=>3|39=>131|0=>0|53=>35|55=>24|4=>4|46=>135|45=>134|50=>56|5=>5|9=>9|66=>141|70=>145|76=>147|77=>148|n=>n,fun|n=>n⟩
theorem Try.sortTh:Go.Proofs.SlLaysF0.n6 Try.prog Try.sortTh_ren:={
 mixed:=by kernel_rfl,
 f6:=⟨Try.f61.name,by decide,Try.func61.trans (congrArg some (by kernel_rfl))⟩,
 f14:=⟨Try.f67.name,by decide,Try.func67.trans (congrArg some (by kernel_rfl))⟩,
 f15:=Try.func68.trans (congrArg some (by kernel_rfl)),
 f20:=⟨Try.f71.name,by decide,Try.func71.trans (congrArg some (by kernel_rfl))⟩,
 f21:=⟨Try.f72.name,by decide,Try.func72.trans (congrArg some (by kernel_rfl))⟩,
 f22:=⟨Try.f73.name,by decide,Try.func73.trans (congrArg some (by kernel_rfl))⟩,
 f23:=⟨Try.f74.name,by decide,Try.func74.trans (congrArg some (by kernel_rfl))⟩,
 f24:=⟨Try.f75.name,by decide,Try.func75.trans (congrArg some (by kernel_rfl))⟩,
 f25:=⟨Try.f76.name,by decide,Try.func76.trans (congrArg some (by kernel_rfl))⟩,
 f26:=⟨Try.f77.name,by decide,Try.func77.trans (congrArg some (by kernel_rfl))⟩,
 f27:=⟨Try.f78.name,by decide,Try.func78.trans (congrArg some (by kernel_rfl))⟩,
 f28:=Try.func79.trans (congrArg some (by kernel_rfl)),
 f29:=Try.func80.trans (congrArg some (by kernel_rfl)),
 f46:=⟨Try.f81.name,by decide,Try.func81.trans (congrArg some (by kernel_rfl))⟩,
 f47:=Try.func82.trans (congrArg some (by kernel_rfl)),
 f48:=Try.func83.trans (congrArg some (by kernel_rfl)),
 f49:=⟨Try.f84.name,by decide,Try.func84.trans (congrArg some (by kernel_rfl))⟩,
 f50:=⟨Try.f85.name,by decide,Try.func85.trans (congrArg some (by kernel_rfl))⟩,
 f57:=⟨Try.f86.name,by decide,Try.func86.trans (congrArg some (by kernel_rfl))⟩,
 t0:=Try.underlying0,
 a0:=Try.isAgg0,
 z0:=Try.sizeOf0,
 v0:=Try.zeroValue0,
 t3:=Try.underlying3,
 a3:=Try.isAgg3,
 z3:=Try.sizeOf3,
 v3:=Try.zeroValue3,
 t4:=Try.underlying4,
 a4:=Try.isAgg4,
 z4:=Try.sizeOf4,
 v4:=Try.zeroValue4,
 t5:=Try.underlying5,
 a5:=Try.isAgg5,
 z5:=Try.sizeOf5,
 v5:=Try.zeroValue5,
 t9:=Try.underlying9,
 a9:=Try.isAgg9,
 z9:=Try.sizeOf9,
 v9:=Try.zeroValue9,
 t22:=Try.underlying73,
 a22:=Try.isAgg73,
 z22:=Try.sizeOf73,
 v22:=Try.zeroValue73,
 t25:=Try.underlying112,
 a25:=Try.isAgg112,
 z25:=Try.sizeOf112,
 v25:=Try.zeroValue112,
 t39:=Try.underlying131,
 a39:=Try.isAgg131,
 z39:=Try.sizeOf131,
 v39:=Try.zeroValue131,
 t45:=Try.underlying134,
 a45:=Try.isAgg134,
 z45:=Try.sizeOf134,
 v45:=Try.zeroValue134,
 t46:=Try.underlying135,
 a46:=Try.isAgg135,
 z46:=Try.sizeOf135,
 v46:=Try.zeroValue135,
 t50:=Try.underlying56,
 a50:=Try.isAgg56,
 z50:=Try.sizeOf56,
 v50:=Try.zeroValue56,
 t53:=Try.underlying35,
 a53:=Try.isAgg35,
 z53:=Try.sizeOf35,
 v53:=Try.zeroValue35,
 t55:=Try.underlying24,
 a55:=Try.isAgg24,
 z55:=Try.sizeOf24,
 v55:=Try.zeroValue24,
 t66:=Try.underlying141,
 a66:=Try.isAgg141,
 z66:=Try.sizeOf141,
 v66:=Try.zeroValue141,
 t70:=Try.underlying145,
 a70:=Try.isAgg145,
 z70:=Try.sizeOf145,
 v70:=Try.zeroValue145,
 t76:=Try.underlying147,
 a76:=Try.isAgg147,
 z76:=Try.sizeOf147,
 v76:=Try.zeroValue147,
 t77:=Try.underlying148,
 a77:=Try.isAgg148,
 z77:=Try.sizeOf148,
 v77:=Try.zeroValue148}
theorem cmpLaysT(blk off size:Nat)(w:World):CmpLays Try.prog 55 #[] thC 3 cmpT blk off size w:=
 fun _ _ _ _ x y=>compare_gw x y _
theorem sort_raw(blk cap:Nat)(d:Array Th)(w:World)(hH:HoldsK thC 3 w blk 0 d)(hblk:blk<w.heap.size)(hsz:d.size<1000000):
  Calls Try.prog 61 #[.slice (some ⟨blk,0,none⟩) d.size cap,.func (.func 55) #[] #[]] w fun e w'=>
   e=.returned (.tuple #[])∧∃d' n os,PermIn 0 d.size d d'∧SortedIn ltT 0 d.size d'∧w'=sortWorldK thC 3 w blk 0 n d' os:=
 AnyQ.slices_SortFunc Try.sortTh 3 Try.isAgg108 Try.sizeOf108 thC (fun _=>rfl) (fun x v hv=>by simp[thC]at hv;rcases hv with rfl|rfl|rfl<;>rfl) cmpT swoT 55 #[] blk 0 cap d w (enters_of Try.func55 (by kernel_rfl) rfl) (cmpLaysT blk 0 d.size w) hH hblk (by omega)
end
section
open Go.Lib Go.Maps Go.RowKit Go.Shelf
open Go.Sort hiding Below
section
variable{w w':World}
theorem uptoT_cells(a:Nat->Th):∀n,(uptoT a n).flatMap thC=(List.range (n*3)).map (thF a):=by
 intro n
 induction n with
 |zero=>rfl
 |succ n ih=>
  rw[uptoT_succ,List.flatMap_append,ih,show(n+1)*3=n*3+1+1+1 from by omega,List.range_succ,List.range_succ,List.range_succ];simp only[List.map_append,List.map_cons,List.map_nil,List.append_assoc,List.flatMap_cons,List.flatMap_nil,thF_0,thF_1,thF_2];rfl
theorem uptoT_get(a:Nat->Th){n k:Nat}(hk:k<n):(uptoT a n).toArray[k]! =a k:=by
 rw[getElem!_pos _ _ (by simpa[uptoT]using hk)];simp[uptoT]
theorem thC_at(t:Th)(j:Nat)(a:Nat->Th)(h:a (j/3)=t):thF a j=(thC t)[j%3]!:=by
 subst h;unfold thF;have h3:j%3<3:=Nat.mod_lt _ (by omega)
 match e:j%3,h3 with
 |0,_=>rfl
 |1,_=>rfl
 |2,_=>rfl
theorem holds_of_row{base n b cap:Nat}{a:Nat->Th}(h:w.ownsRow base 108 3 (.slice (some ⟨b,0,none⟩) n cap) n ((uptoT a n).flatMap thC)):HoldsK thC 3 w b 0 (uptoT a n).toArray:=by
 intro j hj;rw[uptoT_cells]at h;have hs:(uptoT a n).toArray.size=n:=by simp[uptoT]
 have hj':j<n*3:=by
  rw[size_flatK,hs]at hj;exact hj
 obtain⟨hl,h2⟩:=h;rcases h2 with⟨h2,_⟩|⟨g,cap',cur,e,hg,hh,h3,h4,h5,h6⟩
 .cases h2
 .simp only[Value.slice.injEq,Option.some.injEq,Addr.mk.injEq]at e
  obtain⟨⟨rfl,_⟩,_,rfl⟩:=e
  have hc:cur[j]?=some (thF a j):=by
   have hq:(cur.toList.take (n*3))[j]?=some (thF a j):=by rw[h6];simp[hj']
   rw[List.getElem?_take,if_pos hj']at hq;simpa using hq
  rw[get_flatK _ _ _ _ (by rw[hs];exact hj'),uptoT_get a (by omega:j/3<n),<-thC_at _ _ a rfl];constructor
  .simp[World.cell?,hh,hc]
  .simp[World.frozen?,hh]
theorem fr_sorted{blk n:Nat}{d:Array Th}{os:Array Obj}:Fr (fun i=>i=blk) w (sortWorldK thC 3 w blk 0 n d os):=by
 refine⟨rfl,rfl,rfl,size_sortWorldK_c thC 3 w blk 0 n d os,fun k hk hF=>?_⟩
 have e1:(sortWorldK thC 3 w blk 0 n d os).heap[k]?=(putRowK thC 3 (Go.Sort.ahead w n) blk 0 d).heap[k]?:=by
  show((putRowK thC 3 (Go.Sort.ahead w n) blk 0 d).heap++os)[k]?=_
  rw[Array.getElem?_append_left (by rw[size_putRowK];exact hk)]
 rw[e1]
 show(w.heap.modify blk _)[k]?=_
 rw[Array.getElem?_modify,if_neg (fun q=>hF q.symm)]
theorem thAt_of_holds{b:Nat}{d:Array Th}(h:HoldsK thC 3 w b 0 d):ThAt w b d.size (fun j=>d[j]!):=fun j hj=>by
 have c0:=(h.cell (c:=0) hj (by omega)).1;have c1:=(h.cell (c:=1) hj (by omega)).1;have c2:=(h.cell (c:=2) hj (by omega)).1;simp only[Nat.zero_add,Nat.add_zero]at c0 c1 c2;exact⟨c0,c1,c2⟩
def ThL(w:World)(v:Value)(n:Nat)(a:Nat->Th):Prop:=∃ad cap,v=.slice ad n cap∧n<=cap∧cap<=maxLen∧(0<n->∃b,ad=some ⟨b,0,none⟩∧b<w.heap.size∧ThAt w b n a)
def SortT(n:Nat)(a a':Nat->Th):Prop:=(∀i j,i<j->j<n->ltT (a' j) (a' i)=false)∧(uptoT a' n).Perm (uptoT a n)
theorem uptoT_of{d:Array Th}:uptoT (fun j=>d[j]!) d.size=d.toList:=by
 apply List.ext_getElem
 .simp[uptoT]
 .intro i h1 h2
  have:i<d.size:=by simpa using h2
  simp[uptoT,getElem!_pos d i this]
theorem sort_row{base n:Nat}{v:Value}{a:Nat->Th}(hn:n<1000000)(h:w.ownsRow base 108 3 v n ((uptoT a n).flatMap thC)):
  Calls Try.prog 61 #[v,.func (.func 55) #[] #[]] w fun e w'=>
   e=.returned (.tuple #[])∧∃a',SortT n a a'∧ThL w' v n a'∧Fr (fun i=>v.ownBlock=some i) w w':=by
 have hlt:=fun b (hb:v.ownBlock=some b)=>(World.ownsRow.lt h b hb).2
 have h0:=h;obtain⟨hl,h2⟩:=h;rcases h2 with⟨rfl,rfl⟩|⟨g,cap,cur,rfl,hg,hh,h3,h4,h5,h6⟩
 .have hS:=AnyF.slices_SortFunc_none (P:=Try.prog) (ρ:=Try.sortTh_ren) {Try.sortTh with} none 0 (.func (.func 55) #[] #[]) w
  change Calls Try.prog 61 _ _ _ at hS;refine hS.mono ?_;rintro e w'⟨rfl,rfl⟩;exact⟨rfl,a,⟨fun i j _ q=>by omega,List.Perm.refl _⟩,⟨none,0,rfl,by omega,by unfold maxLen;omega,fun q=>by omega⟩,Fr.refl _ _⟩
 .have hs:(uptoT a n).toArray.size=n:=by simp[uptoT]
  have hH:=holds_of_row h0;have hb:g<w.heap.size:=hlt g rfl;have hS:=sort_raw g cap (uptoT a n).toArray w hH hb (by omega);rw[hs]at hS;refine hS.mono ?_;rintro e w'⟨rfl,d',m,os,⟨p1,p2,p3⟩,ho,rfl⟩;have hs':d'.size=n:=by rw[p1,hs]
  have hH':=holdsK_sortWorldK thC 3 w g 0 m (uptoT a n).toArray d' os hb hH p1;have hT:=thAt_of_holds hH';refine⟨rfl,fun j=>d'[j]!,⟨fun i j hij hj=>ho i j (by omega) hij hj,?_⟩,⟨some ⟨g,0,none⟩,cap,rfl,h3,h4,fun _=>⟨g,rfl,Nat.lt_of_lt_of_le hb (size_sortWorldK_c thC 3 w g 0 m d' os),by rw[hs']at hT;exact hT⟩⟩,fr_sorted.mono (fun i q=>by rw[q];rfl)⟩;rw[<-hs',uptoT_of,hs']
  have e1:(d'.extract 0 n).toList=d'.toList:=by
   rw[<-hs'];simp
  have e2:((uptoT a n).toArray.extract 0 n).toList=uptoT a n:=by
   simp[uptoT,List.take_of_length_le]
  rw[e1,e2]at p3;exact p3
theorem collect_calls{n₀ n:Nat}{Bs:Nat}{sv:Value}{a:Nat->Th}(hn:n<1000000)(hn₀:n₀<=w.heap.size)(hBs:Bs<w.heap.size)(hc:w.cell? ⟨Bs,0,none⟩=some sv)(hI:ThSl n₀ w sv n a):
  Calls Try.prog 60 #[.func (.func 62) #[] #[.pointer (some ⟨Bs,0,none⟩)]] w fun e w'=>
   ∃v,e=.returned v∧w'.ownsRow w.heap.size 108 3 v n ((uptoT a n).flatMap thC)∧Fr NoF w w':=by
 have h:=collect_in (w:=w) Fence.wide 10 trivial trivial rfl (by omega) 62 #[.pointer (some ⟨Bs,0,none⟩)] trivial (enters_of Try.func62 (by kernel_rfl) rfl) (fun ys=>ys=uptoT a n) n hn n₀ hn₀
  (values_stops Fence.wide 8 trivial rfl (by omega) Bs n₀ n sv a hn w hBs hn₀ hc hI)
 refine(callsIn_wide.1 h).mono ?_;rintro e w'⟨v,ts,rfl,rfl,hrow,hb⟩;rw[uptoT_length]at hrow;exact⟨v,rfl,hrow,Fr.ofBelow hb⟩
theorem values_calls(ad:Option Addr)(len cap:Nat)(w:World):
  Calls Try.prog 54 #[.slice ad len cap] w fun e w'=>e=.returned (.func (.func 62) #[] #[.pointer (some ⟨w.heap.size,0,none⟩)])∧w'=w.alloc (.cells #[.slice ad len cap] 73):=
 callsIn_wide.1 (values_in Fence.wide 10 trivial rfl ad len cap w)
theorem sorted_calls{n₀ n:Nat}{Bs:Nat}{sv:Value}{a:Nat->Th}(hn:n<1000000)(hn₀:n₀<=w.heap.size)(hBs:Bs<w.heap.size)(hc:w.cell? ⟨Bs,0,none⟩=some sv)(hI:ThSl n₀ w sv n a):
  Calls Try.prog 53 #[.func (.func 62) #[] #[.pointer (some ⟨Bs,0,none⟩)],.func (.func 55) #[] #[]] w fun e w'=>
   ∃v a',e=.returned v∧SortT n a a'∧ThL w' v n a'∧Fr NoF w w'∧∀i,v.ownBlock=some i->w.heap.size<=i:=by
 have HC:=Lib.hid (collect_calls hn hn₀ hBs hc hI);clear hc hI;go_enter Try.func53,Try.ntmps53
 go_wp2_with fail
 refine HC.out.mono ?_;rintro e w1⟨v,rfl,hrow,hf⟩;have HS:=Lib.hid (sort_row hn hrow);have hbl:=Lib.hid (fun b (hb:v.ownBlock=some b)=>(World.ownsRow.lt hrow b hb).1);have HF:=Lib.hid hf
 obtain⟨va,vc,rfl,_,_⟩:∃va vc,v=.slice va n vc∧n<=vc∧vc<=maxLen:=by
  obtain⟨_,h2⟩:=hrow;rcases h2 with⟨h2,h3⟩|⟨g,cap,cur,h2,_,_,h3,h4,_⟩
  .exact⟨none,0,by rw[h2,h3],by omega,by unfold maxLen;omega⟩
  .exact⟨_,cap,h2,h3,h4⟩
 clear hrow hf
 go_wp2_with fail
 refine HS.out.mono ?_;rintro e w2⟨rfl,a',hS,hT,hf2⟩;have HA:=Lib.hid hS;have HT:=Lib.hid hT;have HF2:=Lib.hid hf2;clear hS hT hf2;go_wp2;go_returns;exact⟨_,a',rfl,HA.out,HT.out,HF.out.trans HF2.out (fun i q=>.inr (hbl.out i q)),hbl.out⟩
end
end
end Go.Proofs.Ytcccbdnojlmgaaa
