/- Part 9. -/
import Derived.Test.YtcccbdnojlmgaaaK08
namespace Go.Proofs.Ytcccbdnojlmgaaa
set_option linter.all false
set_option maxHeartbeats 16000000
set_option maxRecDepth 100000
section
open Go.RowKit
def pastV(last:Int)(t:Nat->Int):Value:=.agg #[.int .i64 last,.int .i64 (t 0),.int .i64 (t 1),.int .i64 (t 2),.int .i64 (t 3),.int .i64 (t 4),.int .i64 (t 5),.int .i64 (t 6),.int .i64 (t 7)]
def pastC(last:Int)(t:Nat->Int):Nat->Value:=fun i=>if i=0 then .int .i64 last else .int .i64 (t (i-1))
def timesF(t:Nat->Int)(took:Int)(k i:Nat):Nat->Int:=fun j=>if i<j∧j<k then(if t (j-1)=0 then 0 else t (j-1)+took)else t j
def touchT(last:Int)(t:Nat->Int)(now near:Int)(k:Nat):Nat->Int:=
 if¬last=0∧now-last<=near then t else upd (timesF t (last-t 0) k 0) 0 now
theorem timesF_top(t:Nat->Int)(took:Int)(k:Nat):timesF t took k (k-1)=t:=by
 funext j
 unfold timesF;rw[if_neg (by omega)]
theorem timesF_step(t:Nat->Int)(took:Int){k i:Nat}(hi:0<i)(hk:i<k):timesF t took k (i-1)=upd (timesF t took k i) i (if t (i-1)=0 then 0 else t (i-1)+took):=by
 funext j
 by_cases e:j=i
 .subst e
  rw[upd_same];unfold timesF;rw[if_pos ⟨by omega,hk⟩]
 .rw[upd_other _ _ e];unfold timesF
  by_cases h:i<j∧j<k
  .rw[if_pos h,if_pos ⟨by omega,h.2⟩]
  .rw[if_neg h,if_neg (by omega)]
theorem pastC_set(last:Int)(t:Nat->Int)(i:Nat)(z:Int):upd (pastC last t) (1+i) (.int .i64 z)=pastC last (upd t i z):=by
 funext j
 by_cases e:j=1+i
 .subst e
  rw[upd_same];unfold pastC;rw[if_neg (by omega),show 1+i-1=i from by omega,upd_same]
 .rw[upd_other _ _ e];unfold pastC
  by_cases h:j=0
  .rw[if_pos h,if_pos h]
  .rw[if_neg h,if_neg h,upd_other _ _ (by omega)]
section
variable{w w':World}
theorem touched_near(last:Int)(t:Nat->Int)(now near:Int)(k:Nat)(h0:¬last=0)(hnear:now-last<=near)(hb:0<=last∧last<=now∧now<100000000):Calls Try.prog 29 #[pastV last t,.int .i64 now,.int .i64 near,.int .i64 k] w fun e w'=>e=.returned (pastV now t)∧Fr NoF w w':=by
 have g0:(last !=0)=true:=by simpa using h0
 have hwr:IntKind.i64.wrap (now-last)=now-last:=IntWalk.i64_in _ (by omega);unfold pastV;generalize t 0=t0;generalize t 1=t1;generalize t 2=t2;generalize t 3=t3;generalize t 4=t4;generalize t 5=t5;generalize t 6=t6;generalize t 7=t7;clear h0;go_enter Try.func29,Try.ntmps29;go_wp2;go_returns;exact⟨rfl,((Fr.refl NoF w).alloc _).alloc _⟩
end
theorem results_blk{P:Program}{fn:Func}{p:Tmp}{ty:TypeId}(h:fn.results=#[.cell p ty])(tmps:Array Value)(w:World){g N:Nat}{c:Nat->Value}{d:TypeDesc}(hb:Blk w g N c)(hp:tmps.getD p undef=.pointer (some ⟨g,0,none⟩))
  (hu:P.underlying ty=some d)(hd:(match d with|.struct _|.array _ _=>true|_=>false)=true)(hi:(P.info? ty).map (·.size)=some N):
  (results fn tmps).run P w=.ok (.agg ((List.range N).map c).toArray) w:=by
 obtain⟨cs,t,hh,hs,hc⟩:=hb
 have e:cs=((List.range N).map c).toArray:=by
  apply Array.ext_getElem?;intro i;by_cases hi:i<N
  .rw[hc i hi];simp[hi]
  .rw[Array.getElem?_eq_none (by omega)];simp[hi]
 rw[<-e];exact results_cell_row h tmps w g t cs (0,0) d hp hh hu hd (by rw[hi,hs])
section
variable{w w':World}
theorem touched_far(last:Int)(t:Nat->Int)(now near:Int)(k:Nat)(hfar:last=0∨near<now-last)(hk:1<=k∧k<=8)(hb:0<=last∧last<=now∧now<100000000)(ht:∀j,0<=t j∧t j<=last∧t j<=t 0):Calls Try.prog 29 #[pastV last t,.int .i64 now,.int .i64 near,.int .i64 k] w fun e w'=>e=.returned (pastV now (upd (timesF t (last-t 0) k 0) 0 now))∧Fr NoF w w':=by
 have b1:Blk ((w.alloc (.cells #[.int .i64 last,.int .i64 (t 0),.int .i64 (t 1),.int .i64 (t 2),.int .i64 (t 3),.int .i64 (t 4),.int .i64 (t 5),.int .i64 (t 6),.int .i64 (t 7)] 85)).alloc (.cells #[.int .i64 0,.int .i64 0,.int .i64 0,.int .i64 0,.int .i64 0,.int .i64 0,.int .i64 0,.int .i64 0,.int .i64 0] 85)) w.heap.size 9 (pastC last t):=(Blk.new w _ 85 9 _ _ rfl rfl (fun i hi=>by
  match i,hi with
  |0,_=>rfl
  |1,_=>rfl
  |2,_=>rfl
  |3,_=>rfl
  |4,_=>rfl
  |5,_=>rfl
  |6,_=>rfl
  |7,_=>rfl
  |8,_=>rfl)).alloc _
 have b2:Blk ((w.alloc (.cells #[.int .i64 last,.int .i64 (t 0),.int .i64 (t 1),.int .i64 (t 2),.int .i64 (t 3),.int .i64 (t 4),.int .i64 (t 5),.int .i64 (t 6),.int .i64 (t 7)] 85)).alloc (.cells #[.int .i64 0,.int .i64 0,.int .i64 0,.int .i64 0,.int .i64 0,.int .i64 0,.int .i64 0,.int .i64 0,.int .i64 0] 85)) (w.heap.size+1) 9 (pastC 0 (fun _=>0)):=Blk.new _ _ 85 9 _ _ (by simp) rfl (fun i hi=>by
  match i,hi with
  |0,_=>rfl
  |1,_=>rfl
  |2,_=>rfl
  |3,_=>rfl
  |4,_=>rfl
  |5,_=>rfl
  |6,_=>rfl
  |7,_=>rfl
  |8,_=>rfl)
 have fA:Fr NoF w ((w.alloc (.cells #[.int .i64 last,.int .i64 (t 0),.int .i64 (t 1),.int .i64 (t 2),.int .i64 (t 3),.int .i64 (t 4),.int .i64 (t 5),.int .i64 (t 6),.int .i64 (t 7)] 85)).alloc (.cells #[.int .i64 0,.int .i64 0,.int .i64 0,.int .i64 0,.int .i64 0,.int .i64 0,.int .i64 0,.int .i64 0,.int .i64 0] 85)):=((Fr.refl NoF w).alloc _).alloc _;have HB1:=Lib.hid b1;have HB2:=Lib.hid b2;have HFA:=Lib.hid fA;have HT:=Lib.hid ht;have c0:((w.alloc (.cells #[.int .i64 last,.int .i64 (t 0),.int .i64 (t 1),.int .i64 (t 2),.int .i64 (t 3),.int .i64 (t 4),.int .i64 (t 5),.int .i64 (t 6),.int .i64 (t 7)] 85)).alloc (.cells #[.int .i64 0,.int .i64 0,.int .i64 0,.int .i64 0,.int .i64 0,.int .i64 0,.int .i64 0,.int .i64 0,.int .i64 0] 85)).cell? ⟨w.heap.size,0,none⟩=some (.int .i64 last):=b1.cell (i:=0) (by omega);have c1:((w.alloc (.cells #[.int .i64 last,.int .i64 (t 0),.int .i64 (t 1),.int .i64 (t 2),.int .i64 (t 3),.int .i64 (t 4),.int .i64 (t 5),.int .i64 (t 6),.int .i64 (t 7)] 85)).alloc (.cells #[.int .i64 0,.int .i64 0,.int .i64 0,.int .i64 0,.int .i64 0,.int .i64 0,.int .i64 0,.int .i64 0,.int .i64 0] 85)).cell? ⟨w.heap.size,1,none⟩=some (.int .i64 (t 0)):=b1.cell (i:=1) (by omega);have l1:=b1.lt;have h00:=ht 0;have hw1:IntKind.i64.wrap (last-t 0)=last-t 0:=IntWalk.i64_in _ (by omega);have hw2:IntKind.i64.wrap ((k:Int)-1)=(k:Int)-1:=IntWalk.i64_in _ (by omega);have hw3:IntKind.i64.wrap (now-last)=now-last:=IntWalk.i64_in _ (by omega);have hk1:((k:Int)-1)=((k-1:Nat):Int):=by omega
 clear b1 b2 fA ht;unfold pastV;go_enter Try.func29,Try.ntmps29
 have hcase:(last !=0)=false∨((last !=0)=true∧near<now-last):=by
  by_cases e:last=0
  .left;simp[e]
  .right;exact⟨by simpa using e,by omega⟩
 have HLOOP:Hid (∀i:Nat,0<i->i<k->timesF t (last-t 0) k (i-1)=upd (timesF t (last-t 0) k i) i (if t (i-1)=0 then 0 else t (i-1)+(last-t 0))):=fun i h1 h2=>timesF_step t _ h1 h2
 have HTOP:Hid (timesF t (last-t 0) k (k-1)=t):=timesF_top t _ k;have HLOW:Hid (∀i:Nat,0<i->timesF t (last-t 0) k i (i-1)=t (i-1)):=fun i h1=>by unfold timesF;rw[if_neg (by omega)]
 generalize hto:last-t 0=took at*;rcases hcase with hc|⟨hc,hc2⟩
 all_goals
  go_wp2_with fail
  go_loopw [10,11] (fun iv av wr=>∃i:Nat,i<k∧iv=.int .i64 i∧Blk wr w.heap.size 9 (pastC last (timesF t took k i))∧Blk wr (w.heap.size+1) 9 (pastC 0 (fun _=>0))∧Fr NoF w wr) (fun iv _ _=>(intOf iv).toNat)
  case atStart=>exact⟨k-1,by omega,by first|rfl|(rw[hk1]),by rw[HTOP.out];exact HB1.out,HB2.out,HFA.out⟩
  case round=>
   obtain⟨i,hi,rfl,hb1,hb2,hf⟩:=hrel;have HF:=Lib.hid hf;have q1:=hb1.lt;have q2:=hb2.lt;by_cases h0:i=0
   .subst h0
    have y0:wr.cell? ⟨w.heap.size,0,none⟩=some (.int .i64 last):=hb1.cell (i:=0) (by omega);have y1:wr.cell? ⟨w.heap.size,1,none⟩=some (.int .i64 (timesF t took k 0 0)):=hb1.cell (i:=1) (by omega);have y2:wr.cell? ⟨w.heap.size,2,none⟩=some (.int .i64 (timesF t took k 0 1)):=hb1.cell (i:=2) (by omega);have y3:wr.cell? ⟨w.heap.size,3,none⟩=some (.int .i64 (timesF t took k 0 2)):=hb1.cell (i:=3) (by omega);have y4:wr.cell? ⟨w.heap.size,4,none⟩=some (.int .i64 (timesF t took k 0 3)):=hb1.cell (i:=4) (by omega);have y5:wr.cell? ⟨w.heap.size,5,none⟩=some (.int .i64 (timesF t took k 0 4)):=hb1.cell (i:=5) (by omega);have y6:wr.cell? ⟨w.heap.size,6,none⟩=some (.int .i64 (timesF t took k 0 5)):=hb1.cell (i:=6) (by omega);have y7:wr.cell? ⟨w.heap.size,7,none⟩=some (.int .i64 (timesF t took k 0 6)):=hb1.cell (i:=7) (by omega);have y8:wr.cell? ⟨w.heap.size,8,none⟩=some (.int .i64 (timesF t took k 0 7)):=hb1.cell (i:=8) (by omega);have z0:wr.cell? ⟨w.heap.size+1,0,none⟩=some (.int .i64 0):=hb2.cell (i:=0) (by omega);have z1:wr.cell? ⟨w.heap.size+1,1,none⟩=some (.int .i64 0):=hb2.cell (i:=1) (by omega);have z2:wr.cell? ⟨w.heap.size+1,2,none⟩=some (.int .i64 0):=hb2.cell (i:=2) (by omega);have z3:wr.cell? ⟨w.heap.size+1,3,none⟩=some (.int .i64 0):=hb2.cell (i:=3) (by omega);have z4:wr.cell? ⟨w.heap.size+1,4,none⟩=some (.int .i64 0):=hb2.cell (i:=4) (by omega);have z5:wr.cell? ⟨w.heap.size+1,5,none⟩=some (.int .i64 0):=hb2.cell (i:=5) (by omega);have z6:wr.cell? ⟨w.heap.size+1,6,none⟩=some (.int .i64 0):=hb2.cell (i:=6) (by omega);have z7:wr.cell? ⟨w.heap.size+1,7,none⟩=some (.int .i64 0):=hb2.cell (i:=7) (by omega);have z8:wr.cell? ⟨w.heap.size+1,8,none⟩=some (.int .i64 0):=hb2.cell (i:=8) (by omega);have fp0:=hb1.frozen 0;have fp1:=hb1.frozen 1;have fz0:=hb2.frozen 0;have fz1:=hb2.frozen 1;have fz2:=hb2.frozen 2;have fz3:=hb2.frozen 3;have fz4:=hb2.frozen 4;have fz5:=hb2.frozen 5;have fz6:=hb2.frozen 6;have fz7:=hb2.frozen 7;have fz8:=hb2.frozen 8;have HB2z:=Lib.hid hb2;have HB1z:=Lib.hid hb1;clear hb1 hb2 hf;have HV:Hid (∀j,upd (timesF t took k 0) 0 now (j+1)=timesF t took k 0 (j+1)):=fun j=>upd_other _ _ (by omega)
    have HB8:Blk ((wr.setCell ⟨w.heap.size,1,none⟩ (.int .i64 now)).setCell ⟨w.heap.size,0,none⟩ (.int .i64 now)) (w.heap.size+1) 9 (pastC 0 (fun _=>0)):=(HB2z.out.other (by show¬w.heap.size+1=w.heap.size;omega) _).other (by show¬w.heap.size+1=w.heap.size;omega) _;have B1:=(HB1z.out.set 1 (.int .i64 now)).set 0 (.int .i64 now);have x0:((wr.setCell ⟨w.heap.size,1,none⟩ (.int .i64 now)).setCell ⟨w.heap.size,0,none⟩ (.int .i64 now)).cell? ⟨w.heap.size,0,none⟩=some (.int .i64 now):=B1.cell (i:=0) (by omega);have x1:((wr.setCell ⟨w.heap.size,1,none⟩ (.int .i64 now)).setCell ⟨w.heap.size,0,none⟩ (.int .i64 now)).cell? ⟨w.heap.size,1,none⟩=some (.int .i64 now):=B1.cell (i:=1) (by omega);have x2:((wr.setCell ⟨w.heap.size,1,none⟩ (.int .i64 now)).setCell ⟨w.heap.size,0,none⟩ (.int .i64 now)).cell? ⟨w.heap.size,2,none⟩=some (.int .i64 (timesF t took k 0 1)):=B1.cell (i:=2) (by omega);have x3:((wr.setCell ⟨w.heap.size,1,none⟩ (.int .i64 now)).setCell ⟨w.heap.size,0,none⟩ (.int .i64 now)).cell? ⟨w.heap.size,3,none⟩=some (.int .i64 (timesF t took k 0 2)):=B1.cell (i:=3) (by omega);have x4:((wr.setCell ⟨w.heap.size,1,none⟩ (.int .i64 now)).setCell ⟨w.heap.size,0,none⟩ (.int .i64 now)).cell? ⟨w.heap.size,4,none⟩=some (.int .i64 (timesF t took k 0 3)):=B1.cell (i:=4) (by omega);have x5:((wr.setCell ⟨w.heap.size,1,none⟩ (.int .i64 now)).setCell ⟨w.heap.size,0,none⟩ (.int .i64 now)).cell? ⟨w.heap.size,5,none⟩=some (.int .i64 (timesF t took k 0 4)):=B1.cell (i:=5) (by omega);have x6:((wr.setCell ⟨w.heap.size,1,none⟩ (.int .i64 now)).setCell ⟨w.heap.size,0,none⟩ (.int .i64 now)).cell? ⟨w.heap.size,6,none⟩=some (.int .i64 (timesF t took k 0 5)):=B1.cell (i:=6) (by omega);have x7:((wr.setCell ⟨w.heap.size,1,none⟩ (.int .i64 now)).setCell ⟨w.heap.size,0,none⟩ (.int .i64 now)).cell? ⟨w.heap.size,7,none⟩=some (.int .i64 (timesF t took k 0 6)):=B1.cell (i:=7) (by omega);have x8:((wr.setCell ⟨w.heap.size,1,none⟩ (.int .i64 now)).setCell ⟨w.heap.size,0,none⟩ (.int .i64 now)).cell? ⟨w.heap.size,8,none⟩=some (.int .i64 (timesF t took k 0 7)):=B1.cell (i:=8) (by omega);have u0:((wr.setCell ⟨w.heap.size,1,none⟩ (.int .i64 now)).setCell ⟨w.heap.size,0,none⟩ (.int .i64 now)).cell? ⟨w.heap.size+1,0,none⟩=some (.int .i64 0):=HB8.cell (i:=0) (by omega);have u1:((wr.setCell ⟨w.heap.size,1,none⟩ (.int .i64 now)).setCell ⟨w.heap.size,0,none⟩ (.int .i64 now)).cell? ⟨w.heap.size+1,1,none⟩=some (.int .i64 0):=HB8.cell (i:=1) (by omega);have u2:((wr.setCell ⟨w.heap.size,1,none⟩ (.int .i64 now)).setCell ⟨w.heap.size,0,none⟩ (.int .i64 now)).cell? ⟨w.heap.size+1,2,none⟩=some (.int .i64 0):=HB8.cell (i:=2) (by omega);have u3:((wr.setCell ⟨w.heap.size,1,none⟩ (.int .i64 now)).setCell ⟨w.heap.size,0,none⟩ (.int .i64 now)).cell? ⟨w.heap.size+1,3,none⟩=some (.int .i64 0):=HB8.cell (i:=3) (by omega);have u4:((wr.setCell ⟨w.heap.size,1,none⟩ (.int .i64 now)).setCell ⟨w.heap.size,0,none⟩ (.int .i64 now)).cell? ⟨w.heap.size+1,4,none⟩=some (.int .i64 0):=HB8.cell (i:=4) (by omega);have u5:((wr.setCell ⟨w.heap.size,1,none⟩ (.int .i64 now)).setCell ⟨w.heap.size,0,none⟩ (.int .i64 now)).cell? ⟨w.heap.size+1,5,none⟩=some (.int .i64 0):=HB8.cell (i:=5) (by omega);have u6:((wr.setCell ⟨w.heap.size,1,none⟩ (.int .i64 now)).setCell ⟨w.heap.size,0,none⟩ (.int .i64 now)).cell? ⟨w.heap.size+1,6,none⟩=some (.int .i64 0):=HB8.cell (i:=6) (by omega);have u7:((wr.setCell ⟨w.heap.size,1,none⟩ (.int .i64 now)).setCell ⟨w.heap.size,0,none⟩ (.int .i64 now)).cell? ⟨w.heap.size+1,7,none⟩=some (.int .i64 0):=HB8.cell (i:=7) (by omega);have u8:((wr.setCell ⟨w.heap.size,1,none⟩ (.int .i64 now)).setCell ⟨w.heap.size,0,none⟩ (.int .i64 now)).cell? ⟨w.heap.size+1,8,none⟩=some (.int .i64 0):=HB8.cell (i:=8) (by omega);have fu0:=HB8.frozen 0;have fu1:=HB8.frozen 1;have fu2:=HB8.frozen 2;have fu3:=HB8.frozen 3;have fu4:=HB8.frozen 4;have fu5:=HB8.frozen 5;have fu6:=HB8.frozen 6;have fu7:=HB8.frozen 7;have fu8:=HB8.frozen 8;have v1:=B1.lt;have v2:=HB8.lt;have HFW:Hid (Fr NoF w ((wr.setCell ⟨w.heap.size,1,none⟩ (.int .i64 now)).setCell ⟨w.heap.size,0,none⟩ (.int .i64 now))):=(by repeat(first|exact HF.out|(refine Fr.setCell ?_ (.inr (by first|exact Nat.le_refl _|exact Nat.le_succ _)) _)));have HBW:=Lib.hid HB8;clear HB8 B1
    go_upto_region 14 with fail
    generalize((wr.setCell ⟨w.heap.size,1,none⟩ (.int .i64 now)).setCell ⟨w.heap.size,0,none⟩ (.int .i64 now))=wx at*;clear y0 y1 y2 y3 y4 y5 y6 y7 y8 z0 z1 z2 z3 z4 z5 z6 z7 z8 fz0 fz1 fz2 fz3 fz4 fz5 fz6 fz7 fz8;have RB:=Lib.hid (((((((((HBW.out.set 0 (.int .i64 (now))).set 1 (.int .i64 (now))).set 2 (.int .i64 (timesF t took k 0 1))).set 3 (.int .i64 (timesF t took k 0 2))).set 4 (.int .i64 (timesF t took k 0 3))).set 5 (.int .i64 (timesF t took k 0 4))).set 6 (.int .i64 (timesF t took k 0 5))).set 7 (.int .i64 (timesF t took k 0 6))).set 8 (.int .i64 (timesF t took k 0 7)));have FRB:=Lib.hid (Fr.setCell (Fr.setCell (Fr.setCell (Fr.setCell (Fr.setCell (Fr.setCell (Fr.setCell (Fr.setCell (Fr.setCell HFW.out (p:=⟨w.heap.size+1,0,none⟩) (.inr (Nat.le_succ _)) (.int .i64 (now))) (p:=⟨w.heap.size+1,1,none⟩) (.inr (Nat.le_succ _)) (.int .i64 (now))) (p:=⟨w.heap.size+1,2,none⟩) (.inr (Nat.le_succ _)) (.int .i64 (timesF t took k 0 1))) (p:=⟨w.heap.size+1,3,none⟩) (.inr (Nat.le_succ _)) (.int .i64 (timesF t took k 0 2))) (p:=⟨w.heap.size+1,4,none⟩) (.inr (Nat.le_succ _)) (.int .i64 (timesF t took k 0 3))) (p:=⟨w.heap.size+1,5,none⟩) (.inr (Nat.le_succ _)) (.int .i64 (timesF t took k 0 4))) (p:=⟨w.heap.size+1,6,none⟩) (.inr (Nat.le_succ _)) (.int .i64 (timesF t took k 0 5))) (p:=⟨w.heap.size+1,7,none⟩) (.inr (Nat.le_succ _)) (.int .i64 (timesF t took k 0 6))) (p:=⟨w.heap.size+1,8,none⟩) (.inr (Nat.le_succ _)) (.int .i64 (timesF t took k 0 7)));go_wp2
    (try simp only[Exit.inBlock,Exit.then])
    refine bodyPost_ret (results_blk Try.results29 _ _ RB.out rfl Try.underlying85 rfl (by kernel_rfl)) (by rfl) ?_;have FRB:=FRB.out;generalize timesF t took k 0=T at FRB⊢;exact⟨rfl,FRB⟩
   .obtain⟨m,rfl⟩:∃m,i=m+1:=⟨i-1,by omega⟩
    have hstep:=HLOOP.out (m+1) (by omega) hi;have hlow:=HLOW.out (m+1) (by omega);rw[Nat.add_sub_cancel]at hstep hlow
    have y1:wr.cell? ⟨w.heap.size,1+m,none⟩=some (.int .i64 (t m)):=by
     have h:=hb1.cell (i:=1+m) (by omega);rw[show pastC last (timesF t took k (m+1)) (1+m)=.int .i64 (timesF t took k (m+1) m)from by unfold pastC;rw[if_neg (by omega),show 1+m-1=m from by omega],hlow]at h;exact h
    have y2:=hb1.cell (i:=1+(m+1)) (by omega);have fp2:=hb1.frozen (1+(m+1));have hm:=HT.out m;have hwi:IntKind.i64.wrap (((m+1:Nat):Int)-1)=(m:Int):=by rw[show((m+1:Nat):Int)-1=(m:Int)from by omega];exact IntWalk.i64_in _ (by omega)
    have hip:0<((m+1:Nat):Int):=by omega
    have HS1:=Lib.hid hstep;have HB1':=Lib.hid hb1;have HB2':=Lib.hid hb2;clear hb1 hb2 hf hstep;by_cases hz:t m=0
    .rw[hz]at y1
     have h5:Blk (wr.setCell ⟨w.heap.size,1+(m+1),none⟩ (.int .i64 0)) w.heap.size 9 (pastC last (timesF t took k m)):=by
      rw[HS1.out,if_pos hz,<-pastC_set];exact HB1'.out.set _ _
     have H5:=Lib.hid h5;clear h5 hz;go_wp2
     go_roundw
     case rel=>exact⟨m,by omega,by go_num,H5.out,HB2'.out.other (by show¬w.heap.size+1=w.heap.size;omega) _,(by repeat(first|exact HF.out|(refine Fr.setCell ?_ (.inr (by first|exact Nat.le_refl _|exact Nat.le_succ _)) _)))⟩
     case measure=>first|(simp[intOf];done)|(simp[intOf];omega)
    .have gz:(t m !=0)=true:=by simpa using hz
     have h5:Blk ((wr.setCell ⟨w.heap.size,1+(m+1),none⟩ (.int .i64 0)).setCell ⟨w.heap.size,1+(m+1),none⟩ (.int .i64 (t m+took))) w.heap.size 9 (pastC last (timesF t took k m)):=by
      rw[HS1.out,if_neg hz,<-pastC_set];refine((HB1'.out.set _ _).set _ _).congr (fun j _=>?_);unfold upd
      split
      .rfl
      .rfl
     have H5:=Lib.hid h5;clear h5 hz;go_wp2
     go_roundw
     case rel=>exact⟨m,by omega,by go_num,H5.out,(HB2'.out.other (by show¬w.heap.size+1=w.heap.size;omega) _).other (by show¬w.heap.size+1=w.heap.size;omega) _,(by repeat(first|exact HF.out|(refine Fr.setCell ?_ (.inr (by first|exact Nat.le_refl _|exact Nat.le_succ _)) _)))⟩
     case measure=>first|(simp[intOf];done)|(simp[intOf];omega)
end
end
end Go.Proofs.Ytcccbdnojlmgaaa
