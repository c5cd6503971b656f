/- Part 21. -/
import Derived.Test.YtcccbdnojlmgaaaK20
namespace Go.Proofs.Ytcccbdnojlmgaaa
set_option linter.all false
set_option maxHeartbeats 16000000
set_option maxRecDepth 100000
section
open Go.Maps Go.RowKit
def newS(n k near kept:Nat):LK:=⟨n,k,near,kept,0,fun _=>(false,0),fun _=>none,fun _=>none,fun _=>false,0,[],0⟩
theorem cntR_none:∀n,cntR (fun _=>none) n=0
 |0=>rfl
 |n+1=>by unfold cntR;rw[cntR_none n];rfl
section
variable{w w':World}
def noneK:Nat->Option (Int×Int):=fun _=>none
theorem noCandidates_calls(w:World):Calls Try.prog 12 #[] w fun e w'=>∃q1 q2 q3,e=.returned (.agg #[.pointer (some ⟨q1,0,none⟩),.pointer (some ⟨q2,0,none⟩),.pointer (some ⟨q3,0,none⟩)])∧QK w' q1 noneK 0 (fun i=>i=q1)∧QK w' q2 noneK 0 (fun i=>i=q2)∧QK w' q3 noneK 0 (fun i=>i=q3)∧w.heap.size<=q1∧q1<q2∧q2<q3∧Fr NoF w w':=by
 have HQ:Hid (∀W,Calls Try.prog 13 #[] W fun e w'=>e=.returned (.pointer (some ⟨W.heap.size,0,none⟩))∧QK w' W.heap.size noneK 0 (fun i=>i=W.heap.size)∧Fr NoF W w'):=fun W=>qk_new W
 have fA:Fr NoF w (w.alloc (.cells #[.pointer none,.pointer none,.pointer none] 48)):=(Fr.refl NoF w).alloc _
 have bA:Blk (w.alloc (.cells #[.pointer none,.pointer none,.pointer none] 48)) w.heap.size 3 (fun _=>.pointer none):=Blk.new w _ 48 3 _ _ rfl rfl (fun i hi=>by
  match i,hi with
  |0,_|1,_|2,_=>rfl)
 have HFA:=Lib.hid fA;have HBA:=Lib.hid bA;have hsz:w.heap.size<(w.alloc (.cells #[.pointer none,.pointer none,.pointer none] 48)).heap.size:=by simp
 have HSA:=Lib.hid hsz;clear fA bA hsz;go_enter Try.func12,Try.ntmps12
 go_wp2_with fail
 generalize w.alloc (.cells #[.pointer none,.pointer none,.pointer none] 48)=wA at*;refine(HQ.out wA).mono ?_;rintro e w1⟨rfl,k1,f1⟩;have K1:=Lib.hid k1;have F1:=Lib.hid f1;clear k1 f1
 go_wp2_with fail
 refine(HQ.out w1).mono ?_;rintro e w2⟨rfl,k2,f2⟩;have K2:=Lib.hid k2;have F2:=Lib.hid f2;clear k2 f2
 go_wp2_with fail
 refine(HQ.out w2).mono ?_;rintro e w3⟨rfl,k3,f3⟩;have K3:=Lib.hid k3;have F3:=Lib.hid f3;have hb3:=(HBA.out.fr F1.out (fun q=>q)).fr F2.out (fun q=>q)|>.fr f3 (fun q=>q)
 have HB3:=Lib.hid hb3;have l3:=hb3.lt;have fz0:=hb3.frozen 0;have fz1:=hb3.frozen 1;have fz2:=hb3.frozen 2;have d0:=hb3.cell (i:=0) (by omega);have d1:=hb3.cell (i:=1) (by omega);have d2:=hb3.cell (i:=2) (by omega);clear k3 f3 hb3;have s0:=Lib.hid HSA.out;have S1:Hid (wA.heap.size<w1.heap.size):=K1.out.lt _ rfl;have S2:Hid (w1.heap.size<w2.heap.size):=K2.out.lt _ rfl;generalize wA.heap.size=g1 at*;generalize w1.heap.size=g2 at*;generalize w2.heap.size=g3 at*;go_wp2
 (try simp only[Exit.inBlock,Exit.then])
 refine bodyPost_ret (results_blk Try.results12 _ _ (((HB3.out.set 0 (.pointer (some ⟨g1,0,none⟩))).set 1 (.pointer (some ⟨g2,0,none⟩))).set 2 (.pointer (some ⟨g3,0,none⟩))) rfl Try.underlying48 rfl (by kernel_rfl)) (by rfl) ?_;have f4:Fr (fun i=>i=w.heap.size) w3 (((w3.setCell ⟨w.heap.size,0,none⟩ (.pointer (some ⟨g1,0,none⟩))).setCell ⟨w.heap.size,1,none⟩ (.pointer (some ⟨g2,0,none⟩))).setCell ⟨w.heap.size,2,none⟩ (.pointer (some ⟨g3,0,none⟩))):=(((Fr.refl (fun i=>i=w.heap.size) w3).setCell (p:=⟨w.heap.size,0,none⟩) (.inl rfl) _).setCell (p:=⟨w.heap.size,1,none⟩) (.inl rfl) _).setCell (p:=⟨w.heap.size,2,none⟩) (.inl rfl) _;have a0:=s0.out;have a1:=S1.out;have a2:=S2.out;refine⟨g1,g2,g3,rfl,((K1.out.fr0 F2.out).fr0 F3.out).fr f4 (fun i q e=>by omega),(K2.out.fr0 F3.out).fr f4 (fun i q e=>by omega),K3.out.fr f4 (fun i q e=>by omega),by omega,a1,a2,(((HFA.out.trans F1.out (fun _ q=>q.elim)).trans F2.out (fun _ q=>q.elim)).trans F3.out (fun _ q=>q.elim)).trans f4 (fun i q=>.inr (by omega))⟩
theorem farK_none(Fa:Nat->Bool):farK (fun _=>none) Fa=noneK:=by funext x;unfold farK noneK;split<;>rfl
theorem freshK_none(Fa:Nat->Bool):freshK (fun _=>none) Fa=noneK:=by funext x;unfold freshK noneK;split<;>rfl
theorem turnK_none(Fa:Nat->Bool):turnK (fun _=>none) Fa=noneK:=by funext x;unfold turnK;rw[freshK_none];rfl
theorem lm_new{n k near kept lb fb mb q1 q2 q3 q4:Nat}(hn:1<=n∧n<=65535)(hk:1<=k∧k<=8)(hr:near<=1000000)(hp:kept<=65535)(hb:Blk w lb 11 (lC (newS n k near kept) fb mb q1 q2 q3 q4))(hf:Blk w fb (2*n) (frC fun _=>(false,0)))(hm:MpV Try.prog 35 .u32 zeroPast w mb 0 (fun _=>none))
  (k1:QK w q1 noneK 0 (fun i=>i=q1))(k2:QK w q2 noneK 0 (fun i=>i=q2))(k3:QK w q3 noneK 0 (fun i=>i=q3))(k4:QK w q4 noneK 0 (fun i=>i=q4))
  (d1:¬fb=lb∧¬mb=lb∧¬mb=fb)(d2:¬q1=lb∧¬q1=fb∧¬q1=mb)(d3:¬q2=lb∧¬q2=fb∧¬q2=mb)(d4:¬q3=lb∧¬q3=fb∧¬q3=mb)(d5:¬q4=lb∧¬q4=fb∧¬q4=mb)(d6:q1<q2∧q2<q3∧¬q4=q1∧¬q4=q2∧¬q4=q3):
  LM w lb (newS n k near kept) fb mb q1 q2 q3 q4 0 (fun i=>i=q1∨i=q2∨i=q3) (fun i=>i=q4):=by
 refine⟨hb,hf,?_,⟨q1,q2,q3,0,0,fun i=>i=q1,fun i=>i=q2,fun i=>i=q3,⟨hb.cell (i:=6) (by omega),hb.cell (i:=7) (by omega),hb.cell (i:=8) (by omega),hb.lt,?_,?_,?_,fun i q e=>by omega,fun i q e=>by omega,fun i q e=>by omega,fun q=>d2.1 q.symm,fun q=>d3.1 q.symm,fun q=>d4.1 q.symm,fun x a b q=>by cases q⟩,rfl,fun i=>Iff.rfl⟩,?_,d1.1,d1.2.1,d1.2.2,fun q=>by omega,fun q=>by omega,fun q=>by omega,fun q=>by omega,fun q=>by omega,fun i q e=>by omega,Nat.le_refl _,⟨hn,hk,hr,hp,fun i=>(show(0:Nat)<4294967296 by omega),fun x p q=>(by cases q),(cntR_none n).symm,fun p q=>(by cases q),Nat.le_refl _,List.Pairwise.nil⟩⟩
 .have e:psM (newS n k near kept).P=fun _=>none:=by funext z;unfold psM;split<;>rfl
  rw[e];exact hm
 .rw[show farK (newS n k near kept).R (newS n k near kept).Fa=noneK from farK_none _];exact k1
 .rw[show freshK (newS n k near kept).R (newS n k near kept).Fa=noneK from freshK_none _];exact k2
 .rw[show turnK (newS n k near kept).R (newS n k near kept).Fa=noneK from turnK_none _];exact k3
 .have e:oldK (newS n k near kept).Old=noneK:=rfl
  rw[e];exact k4
theorem lnew_fin{X wz:World}{n k near kept lb fb mb q1 q2 q3 q4:Nat}(hz:wz=X.alloc (.cells #[.int .i64 k,.int .i64 near,.int .i64 kept,.int .i64 0,.slice (some ⟨fb,0,none⟩) n n,.map (some mb),.pointer (some ⟨q1,0,none⟩),.pointer (some ⟨q2,0,none⟩),.pointer (some ⟨q3,0,none⟩),.pointer (some ⟨q4,0,none⟩),.int .i64 0] 52))(hlb:lb=X.heap.size)
  (hn:1<=n∧n<=65535)(hk:1<=k∧k<=8)(hr:near<=1000000)(hp:kept<=65535)(hf:Blk X fb (2*n) (frC fun _=>(false,0)))(hm:MpV Try.prog 35 .u32 zeroPast X mb 0 (fun _=>none))
  (k1:QK X q1 noneK 0 (fun i=>i=q1))(k2:QK X q2 noneK 0 (fun i=>i=q2))(k3:QK X q3 noneK 0 (fun i=>i=q3))(k4:QK X q4 noneK 0 (fun i=>i=q4))(f:Fr NoF w X)
  (d:¬mb=fb∧¬q1=fb∧¬q1=mb∧¬q2=fb∧¬q2=mb∧¬q3=fb∧¬q3=mb∧¬q4=fb∧¬q4=mb∧q1<q2∧q2<q3∧¬q4=q1∧¬q4=q2∧¬q4=q3)(lo:w.heap.size<=fb∧w.heap.size<=mb∧w.heap.size<=q1∧w.heap.size<=q4):
  ∃lb' fb mb q1 q2 q3 q4 FC F4,Ending.returned (.tuple #[.pointer (some ⟨lb,0,none⟩),.int .i64 0])=.returned (.tuple #[.pointer (some ⟨lb',0,none⟩),.int .i64 0])∧LM wz lb' (newS n k near kept) fb mb q1 q2 q3 q4 0 FC F4∧(∀i,LF lb' fb mb FC F4 i->w.heap.size<=i)∧Fr NoF w wz:=by
 subst hz;subst hlb;have a1:=hf.lt;have a2:=hm.lt;have a3:=k1.lt _ rfl;have a4:=k2.lt _ rfl;have a5:=k3.lt _ rfl;have a6:=k4.lt _ rfl;have fz:=(Fr.refl NoF X).alloc (.cells #[.int .i64 k,.int .i64 near,.int .i64 kept,.int .i64 0,.slice (some ⟨fb,0,none⟩) n n,.map (some mb),.pointer (some ⟨q1,0,none⟩),.pointer (some ⟨q2,0,none⟩),.pointer (some ⟨q3,0,none⟩),.pointer (some ⟨q4,0,none⟩),.int .i64 0] 52);refine⟨_,fb,mb,q1,q2,q3,q4,_,_,rfl,lm_new hn hk hr hp (Blk.new X _ _ 11 _ _ rfl rfl (fun i hi=>?_)) (hf.alloc _) (hm.alloc _) (k1.fr0 fz) (k2.fr0 fz) (k3.fr0 fz) (k4.fr0 fz) ⟨by omega,by omega,d.1⟩ ⟨by omega,d.2.1,d.2.2.1⟩ ⟨by omega,d.2.2.2.1,d.2.2.2.2.1⟩ ⟨by omega,d.2.2.2.2.2.1,d.2.2.2.2.2.2.1⟩ ⟨by omega,by omega,by omega⟩ (by omega),fun i q=>?_,f.trans fz (fun _ q=>q.elim)⟩
 .match i,hi with
  |0,_|1,_|2,_|3,_|4,_|5,_|6,_|7,_|8,_|9,_|10,_=>rfl
 .have:=f.size
  rcases q with q|q|q|(q|q|q)|q<;>omega
theorem mpv_drew{w:World}{b c:Nat}{m:Int->Option Value}(h:MpV Try.prog 35 .u32 zeroPast w b c m):MpV Try.prog 35 .u32 zeroPast w.drew b c m:=h.ofHeap rfl
theorem fr_no{a b c:World}(h:Fr NoF a b)(k:Fr NoF b c):Fr NoF a c:=h.trans k (fun _ q=>q.elim)
theorem qk_new2(w:World):Calls Try.prog 13 #[] w fun e w'=>∃q4,q4=w.heap.size∧e=.returned (.pointer (some ⟨q4,0,none⟩))∧QK w' q4 noneK 0 (fun i=>i=q4)∧Fr NoF w w':=
 (qk_new w).mono fun e w' ⟨he,h,f⟩=>⟨_,rfl,he,h,f⟩
theorem mpv_new{w:World}{b:Nat}(hb:b=w.heap.size):MpV Try.prog 35 .u32 zeroPast (w.alloc (.map #[] 0)) b 0 (fun _=>none):=by
 subst hb;exact MpV.made _ _ _ _ _
theorem frC_made{w:World}{n b:Nat}(hb:b=w.heap.size):Blk (w.alloc (.cells (madeCells #[.bool false,.int .u32 0] (n*2)) 82)) b (2*n) (frC fun _=>(false,0)):=by
 refine Blk.new w _ _ _ _ _ hb (by rw[size_madeCells,Nat.mul_comm]) (fun i hi=>?_);rw[made_at (by omega)];unfold frC;by_cases e:i%2=0
 .rw[if_pos e];show some (#[Value.bool false,.int .u32 0][i%2]!)=_;rw[e];rfl
 .rw[if_neg e];show some (#[Value.bool false,.int .u32 0][i%2]!)=_;rw[show i%2=1 from by omega];rfl
theorem lnew_yes(n k near kept:Nat)(w:World)(hn:1<=n∧n<=65535)(hk:1<=k∧k<=8)(hr:near<=1000000)(hp:kept<=65535):Calls Try.prog 5 #[.int .i64 n,.int .i64 k,.int .i64 near,.int .i64 kept] w fun e w'=>∃lb fb mb q1 q2 q3 q4 FC F4,e=.returned (.tuple #[.pointer (some ⟨lb,0,none⟩),.int .i64 0])∧LM w' lb (newS n k near kept) fb mb q1 q2 q3 q4 0 FC F4∧(∀i,LF lb fb mb FC F4 i->w.heap.size<=i)∧Fr NoF w w':=by
 obtain⟨i0,hi0,hz0,hz1,hz2⟩:=info_parts' (P:=Try.prog) (e:=82) (z:=.agg #[.bool false,.int .u32 0]) (s:=2) (b:=8) (by kernel_rfl)
 have mk1:∀(w:World),(Instr.makeSlice 44 (.int .i64 (n:Int)) (.int .i64 (n:Int))).run Try.prog w=
   .ok (.slice (some ⟨w.heap.size,0,none⟩) n n) (w.alloc (.cells (madeCells #[.bool false,.int .u32 0] (n*2)) 82)):=by
  intro w;have:=run_make (P:=Try.prog) w 44 82 i0 _ Try.underlying44 hi0 hz0 .i64 .i64 (n:Int) (n:Int) (by omega) (Int.le_refl _) (by rw[hz2];omega) (by omega);rw[show(n:Int).toNat=n from by omega,hz1]at this;exact this
 have hmm:=@run_makeMap Try.prog;have g1:decide ((n:Int)<1)=false:=by simp;omega
 have g2:decide (65535<(n:Int))=false:=by simp;omega
 have g3:decide ((k:Int)<1)=false:=by simp;omega
 have g4:decide (8<(k:Int))=false:=by simp;omega
 have g5:decide ((near:Int)<0)=false:=by simp
 have g6:decide (1000000<(near:Int))=false:=by simp;omega
 have g7:decide ((kept:Int)<0)=false:=by simp
 have g8:decide (65535<(kept:Int))=false:=by simp;omega
 clear hi0 hz0 hz1 hz2;have HNN:=Lib.hid (And.intro hn hk);have HRP:=Lib.hid (And.intro hr hp);clear hn hk hr hp;go_enter Try.func5,Try.ntmps5
 go_upto_region 6 with fail
 clear g1 g2 g3 g4 g5 g6 g7 g8
 go_region_held3(fun w'=>True)
  (trivial)
  (first
  |(go_at_call 12;(refine(noCandidates_calls _).mono ?_);rintro e wK⟨q1,q2,q3,rfl,k1,k2,k3,b1,b2,b3,fK⟩;have K1:=Lib.hid k1;have K2:=Lib.hid k2;have K3:=Lib.hid k3;have B1:=Lib.hid b1;have B2:=Lib.hid b2;have B3:=Lib.hid b3;have FK:=Lib.hid fK;clear k1 k2 k3 b1 b2 b3 fK)
  |(go_at_call 13;(refine(qk_new2 _).mono ?_);rintro e wQ⟨q4,hq4,rfl,k4,fQ⟩;have K4:=Lib.hid k4;have FQ:=Lib.hid fQ;have HQ4:=Lib.hid hq4;clear k4 fQ hq4))
 all_goals
  (go_wp2_with fail
   go_returns;have a1:=B1.out;have a2:=B2.out;have a3:=B3.out;have a4:=K3.out.lt _ rfl;have a5:=K4.out.lt _ rfl;have a6:=FK.out.size;have a7:=FQ.out.size;have a8:=HQ4.out
   (try simp at a1)
   (try simp at a5)
   (try simp at a6)
   (try simp at a7)
   (try simp at a8)
   refine lnew_fin rfl (by first|rfl|simp) HNN.out.1 HNN.out.2 HRP.out.1 HRP.out.2
    (by repeat(first|((with_reducible refine frC_made ?_);first|rfl|simp)|(with_reducible refine Blk.alloc ?_ _)|(with_reducible refine Blk.drew ?_)|(with_reducible refine Blk.fr ?_ FQ.out (fun q=>q))|(with_reducible refine Blk.fr ?_ FK.out (fun q=>q))))
    (by repeat(first|((with_reducible refine mpv_new ?_);first|rfl|simp)|(with_reducible refine MpV.alloc ?_ _)|(with_reducible refine mpv_drew ?_)|(with_reducible refine MpV.fr ?_ FQ.out (fun q=>q))|(with_reducible refine MpV.fr ?_ FK.out (fun q=>q))))
    (QK.fr0 K1.out (by repeat(first|(with_reducible exact Fr.refl NoF _)|(with_reducible refine Fr.alloc ?_ _)|(with_reducible refine Fr.drew ?_)|(with_reducible refine fr_no ?_ FQ.out))))
    (QK.fr0 K2.out (by repeat(first|(with_reducible exact Fr.refl NoF _)|(with_reducible refine Fr.alloc ?_ _)|(with_reducible refine Fr.drew ?_)|(with_reducible refine fr_no ?_ FQ.out))))
    (QK.fr0 K3.out (by repeat(first|(with_reducible exact Fr.refl NoF _)|(with_reducible refine Fr.alloc ?_ _)|(with_reducible refine Fr.drew ?_)|(with_reducible refine fr_no ?_ FQ.out))))
    (QK.fr0 K4.out (by repeat(first|(with_reducible exact Fr.refl NoF _)|(with_reducible refine Fr.alloc ?_ _)|(with_reducible refine Fr.drew ?_))))
    (by repeat(first|(with_reducible exact Fr.refl NoF _)|(with_reducible refine Fr.alloc ?_ _)|(with_reducible refine Fr.drew ?_)|(with_reducible refine fr_no ?_ FQ.out)|(with_reducible refine fr_no ?_ FK.out)))
    (by first|omega|(simp;omega)) (by first|omega|(simp;omega)))
end
def goodL(a0 a1 a2 a3:Int):Prop:=1<=a0∧a0<=65535∧1<=a1∧a1<=8∧0<=a2∧a2<=1000000∧0<=a3∧a3<=65535
theorem lnew_no(a0 a1 a2 a3:Int)(w:World)(h:¬goodL a0 a1 a2 a3):Calls Try.prog 5 #[.int .i64 a0,.int .i64 a1,.int .i64 a2,.int .i64 a3] w fun e w'=>e=.returned (.tuple #[.pointer none,.int .i64 1])∧w=w':=by
 unfold goodL at h;by_cases la0:a0<1
 .clear h
  go_enter Try.func5,Try.ntmps5;go_wp2;go_returns;exact⟨rfl,rfl⟩
 by_cases ua0:65535<a0
 .clear h
  have da0:decide (a0<1)=false:=by simp;omega
  go_enter Try.func5,Try.ntmps5;go_wp2;go_returns;exact⟨rfl,rfl⟩
 by_cases la1:a1<1
 .clear h
  have da0:decide (a0<1)=false:=by simp;omega
  have ea0:decide (65535<a0)=false:=by simp;omega
  go_enter Try.func5,Try.ntmps5;go_wp2;go_returns;exact⟨rfl,rfl⟩
 by_cases ua1:8<a1
 .clear h
  have da0:decide (a0<1)=false:=by simp;omega
  have ea0:decide (65535<a0)=false:=by simp;omega
  have da1:decide (a1<1)=false:=by simp;omega
  go_enter Try.func5,Try.ntmps5;go_wp2;go_returns;exact⟨rfl,rfl⟩
 by_cases la2:a2<0
 .clear h
  have da0:decide (a0<1)=false:=by simp;omega
  have ea0:decide (65535<a0)=false:=by simp;omega
  have da1:decide (a1<1)=false:=by simp;omega
  have ea1:decide (8<a1)=false:=by simp;omega
  go_enter Try.func5,Try.ntmps5;go_wp2;go_returns;exact⟨rfl,rfl⟩
 by_cases ua2:1000000<a2
 .clear h
  have da0:decide (a0<1)=false:=by simp;omega
  have ea0:decide (65535<a0)=false:=by simp;omega
  have da1:decide (a1<1)=false:=by simp;omega
  have ea1:decide (8<a1)=false:=by simp;omega
  have da2:decide (a2<0)=false:=by simp;omega
  go_enter Try.func5,Try.ntmps5;go_wp2;go_returns;exact⟨rfl,rfl⟩
 by_cases la3:a3<0
 .clear h
  have da0:decide (a0<1)=false:=by simp;omega
  have ea0:decide (65535<a0)=false:=by simp;omega
  have da1:decide (a1<1)=false:=by simp;omega
  have ea1:decide (8<a1)=false:=by simp;omega
  have da2:decide (a2<0)=false:=by simp;omega
  have ea2:decide (1000000<a2)=false:=by simp;omega
  go_enter Try.func5,Try.ntmps5;go_wp2;go_returns;exact⟨rfl,rfl⟩
 by_cases ua3:65535<a3
 .clear h
  have da0:decide (a0<1)=false:=by simp;omega
  have ea0:decide (65535<a0)=false:=by simp;omega
  have da1:decide (a1<1)=false:=by simp;omega
  have ea1:decide (8<a1)=false:=by simp;omega
  have da2:decide (a2<0)=false:=by simp;omega
  have ea2:decide (1000000<a2)=false:=by simp;omega
  have da3:decide (a3<0)=false:=by simp;omega
  go_enter Try.func5,Try.ntmps5;go_wp2;go_returns;exact⟨rfl,rfl⟩
 exact(h (by omega)).elim
def CRL(w:World)(lb:Nat)(S:LK)(F:Nat->Prop):Prop:=∃fb mb q1 q2 q3 q4 ne FC F4,LM w lb S fb mb q1 q2 q3 q4 ne FC F4∧∀i,F i↔LF lb fb mb FC F4 i
section
variable{w w':World}{lb:Nat}{S:LK}{F:Nat->Prop}
theorem CRL.fr(h:CRL w lb S F){G:Nat->Prop}(f:Fr G w w')(g:∀i,F i->¬G i):CRL w' lb S F:=by
 obtain⟨fb,mb,q1,q2,q3,q4,ne,FC,F4,h,hF⟩:=h;exact⟨fb,mb,q1,q2,q3,q4,ne,FC,F4,h.fr f (fun i q=>g i ((hF i).2 q)),hF⟩
theorem CRL.lt(h:CRL w lb S F):∀i,F i->i<w.heap.size:=by
 obtain⟨fb,mb,q1,q2,q3,q4,ne,FC,F4,h,hF⟩:=h;exact fun i q=>h.lt i ((hF i).1 q)
theorem LF.grown{lb fb mb:Nat}{FC F4 FC' F4':Nat->Prop}(h1:∀i,FC' i->FC i∨w.heap.size<=i)(h2:∀i,F4' i->F4 i∨w.heap.size<=i):∀i,LF lb fb mb FC' F4' i->LF lb fb mb FC F4 i∨w.heap.size<=i:=by
 intro i q;rcases q with q|q|q|q|q
 .exact .inl (.inl q)
 .exact .inl (.inr (.inl q))
 .exact .inl (.inr (.inr (.inl q)))
 .exact(h1 i q).elim (fun z=>.inl (.inr (.inr (.inr (.inl z))))) .inr
 .exact(h2 i q).elim (fun z=>.inl (.inr (.inr (.inr (.inr z))))) .inr
theorem crl_access(h:CRL w lb S F){at' page:Nat}(ha:at'<S.n)(hp:okN page)(hT:S.T<900000):Calls Try.prog 15 #[.pointer (some ⟨lb,0,none⟩),.int .i64 at',.int .u32 page] w fun e w'=>e=.returned (.tuple #[])∧∃F',CRL w' lb (accS S at' page) F'∧Fr F w w'∧∀i,F' i->F i∨w.heap.size<=i:=by
 obtain⟨fb,mb,q1,q2,q3,q4,ne,FC,F4,h,hF⟩:=h;refine(access_calls h ha hp hT).mono ?_;rintro e w'⟨he,ne',FC',F4',h',f,g1,g2⟩;exact⟨he,LF lb fb mb FC' F4',⟨fb,mb,q1,q2,q3,q4,ne',FC',F4',h',fun i=>Iff.rfl⟩,f.mono (fun i q=>(hF i).2 q),fun i q=>(LF.grown g1 g2 i q).elim (fun z=>.inl ((hF i).2 z)) .inr⟩
theorem crl_set(h:CRL w lb S F){at':Nat}(ha:at'<S.n)(hfu:(S.fr at').1=true)(hT:S.T<1000000)(on:Bool):Calls Try.prog 16 #[.pointer (some ⟨lb,0,none⟩),.int .i64 at',.bool on] w fun e w'=>e=.returned (.tuple #[])∧∃F',CRL w' lb (setS S at' on) F'∧Fr F w w'∧∀i,F' i->F i∨w.heap.size<=i:=by
 obtain⟨fb,mb,q1,q2,q3,q4,ne,FC,F4,h,hF⟩:=h;refine(set_calls h ha hfu hT on).mono ?_;rintro e w'⟨he,FC',h',f,g1⟩;exact⟨he,LF lb fb mb FC' F4,⟨fb,mb,q1,q2,q3,q4,ne,FC',F4,h',fun i=>Iff.rfl⟩,f.mono (fun i q=>(hF i).2 q),fun i q=>(LF.grown g1 (fun i q=>.inl q) i q).elim (fun z=>.inl ((hF i).2 z)) .inr⟩
theorem crl_victim(h:CRL w lb S F)(h0:0<S.t)(page:Int)(hT:S.T<1000000)(hg:S.gone<800000)(hdom:∀x,(S.R x).isSome=true->x<S.n∧oldK S.Old (S.fr x).2=none):Calls Try.prog 17 #[.pointer (some ⟨lb,0,none⟩),.int .u32 page] w fun e w'=>∃x:Nat,e=.returned (.tuple #[.int .i64 x,.bool true])∧∃Fb F',Aged S.R S.Fa Fb ((S.T:Int)-S.near)∧LeastC S.R Fb x∧CRL w' lb (vicS S x Fb) F'∧Fr F w w'∧∀i,F' i->F i∨w.heap.size<=i:=by
 obtain⟨fb,mb,q1,q2,q3,q4,ne,FC,F4,h,hF⟩:=h;refine(victim_yes h h0 page hT hg hdom).mono ?_;rintro e w'⟨x,he,Fb,ne',FC',F4',ha,hl,h',f,g1,g2⟩;exact⟨x,he,Fb,LF lb fb mb FC' F4',ha,hl,⟨fb,mb,q1,q2,q3,q4,ne',FC',F4',h',fun i=>Iff.rfl⟩,f.mono (fun i q=>(hF i).2 q),fun i q=>(LF.grown g1 g2 i q).elim (fun z=>.inl ((hF i).2 z)) .inr⟩
theorem crl_size(h:CRL w lb S F):Calls Try.prog 19 #[.pointer (some ⟨lb,0,none⟩)] w fun e w'=>e=.returned (.int .i64 (S.t:Nat))∧Fr NoF w w':=by
 obtain⟨fb,mb,q1,q2,q3,q4,ne,FC,F4,h,hF⟩:=h;exact lsize_calls h
theorem crl_ghosts(h:CRL w lb S F)(hg:S.gone<800000):Calls Try.prog 18 #[.pointer (some ⟨lb,0,none⟩)] w fun e w'=>∃v,e=.returned v∧SlK .u32 w' v (S.Old.map (·.1))∧(∀i,v.ownBlock=some i->w.heap.size<=i)∧Fr NoF w w':=by
 obtain⟨fb,mb,q1,q2,q3,q4,ne,FC,F4,h,hF⟩:=h;exact lghosts_calls h hg
theorem crl_new(n k near kept:Nat)(w:World)(hn:1<=n∧n<=65535)(hk:1<=k∧k<=8)(hr:near<=1000000)(hp:kept<=65535):Calls Try.prog 5 #[.int .i64 n,.int .i64 k,.int .i64 near,.int .i64 kept] w fun e w'=>∃lb F,e=.returned (.tuple #[.pointer (some ⟨lb,0,none⟩),.int .i64 0])∧CRL w' lb (newS n k near kept) F∧(∀i,F i->w.heap.size<=i)∧Fr NoF w w':=by
 refine(lnew_yes n k near kept w hn hk hr hp).mono ?_;rintro e w'⟨lb,fb,mb,q1,q2,q3,q4,FC,F4,he,h,g,f⟩;exact⟨lb,LF lb fb mb FC F4,he,⟨fb,mb,q1,q2,q3,q4,0,FC,F4,h,fun i=>Iff.rfl⟩,g,f⟩
def TL(w0 w:World)(lb:Nat)(S:LK):Prop:=∃F,CRL w lb S F∧(∀i,F i->w0.heap.size<=i)∧Fr NoF w0 w
variable{w0:World}
theorem TL.fr0(h:TL w0 w lb S)(f:Fr NoF w w'):TL w0 w' lb S:=by
 obtain⟨F,h,g,f0⟩:=h;exact⟨F,h.fr f (fun _ _ q=>q),g,f0.trans f (fun _ q=>q.elim)⟩
theorem TL.step{S':LK}(h:TL w0 w lb S){F F':Nat->Prop}(g:∀i,F i->w0.heap.size<=i)(f0:Fr NoF w0 w)(h':CRL w' lb S' F')(f:Fr F w w')(g':∀i,F' i->F i∨w.heap.size<=i):TL w0 w' lb S':=
 ⟨F',h',fun i q=>(g' i q).elim (g i) (fun z=>Nat.le_trans f0.size z),f0.trans f (fun i q=>.inr (g i q))⟩
theorem TL.access(h:TL w0 w lb S){at' page:Nat}(ha:at'<S.n)(hp:okN page)(hT:S.T<900000):Calls Try.prog 15 #[.pointer (some ⟨lb,0,none⟩),.int .i64 at',.int .u32 page] w fun e w'=>e=.returned (.tuple #[])∧TL w0 w' lb (accS S at' page):=by
 have h0:=h;obtain⟨F,h,g,f0⟩:=h;exact(crl_access h ha hp hT).mono fun e w' ⟨he,F',h',f,g'⟩=>⟨he,h0.step g f0 h' f g'⟩
theorem TL.set(h:TL w0 w lb S){at':Nat}(ha:at'<S.n)(hfu:(S.fr at').1=true)(hT:S.T<1000000)(on:Bool):Calls Try.prog 16 #[.pointer (some ⟨lb,0,none⟩),.int .i64 at',.bool on] w fun e w'=>e=.returned (.tuple #[])∧TL w0 w' lb (setS S at' on):=by
 have h0:=h;obtain⟨F,h,g,f0⟩:=h;exact(crl_set h ha hfu hT on).mono fun e w' ⟨he,F',h',f,g'⟩=>⟨he,h0.step g f0 h' f g'⟩
theorem TL.victim(h:TL w0 w lb S)(p0:0<S.t)(page:Int)(hT:S.T<1000000)(hg:S.gone<800000)(hdom:∀x,(S.R x).isSome=true->x<S.n∧oldK S.Old (S.fr x).2=none):Calls Try.prog 17 #[.pointer (some ⟨lb,0,none⟩),.int .u32 page] w fun e w'=>∃x:Nat,e=.returned (.tuple #[.int .i64 x,.bool true])∧∃Fb,Aged S.R S.Fa Fb ((S.T:Int)-S.near)∧LeastC S.R Fb x∧TL w0 w' lb (vicS S x Fb):=by
 have h0:=h;obtain⟨F,h,g,f0⟩:=h;exact(crl_victim h p0 page hT hg hdom).mono fun e w' ⟨x,he,Fb,F',ha,hl,h',f,g'⟩=>⟨x,he,Fb,ha,hl,h0.step g f0 h' f g'⟩
theorem TL.size(h:TL w0 w lb S):Calls Try.prog 19 #[.pointer (some ⟨lb,0,none⟩)] w fun e w'=>e=.returned (.int .i64 (S.t:Nat))∧Fr NoF w w':=by
 obtain⟨F,h,g,f0⟩:=h;exact crl_size h
theorem TL.ghosts(h:TL w0 w lb S)(hg:S.gone<800000):Calls Try.prog 18 #[.pointer (some ⟨lb,0,none⟩)] w fun e w'=>∃v,e=.returned v∧SlK .u32 w' v (S.Old.map (·.1))∧(∀i,v.ownBlock=some i->w.heap.size<=i)∧Fr NoF w w':=by
 obtain⟨F,h,g,f0⟩:=h;exact crl_ghosts h hg
end
end
end Go.Proofs.Ytcccbdnojlmgaaa
