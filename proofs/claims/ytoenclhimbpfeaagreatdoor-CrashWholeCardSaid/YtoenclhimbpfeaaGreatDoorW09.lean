/- Part 9. -/
import Derived.Test.YtoenclhimbpfeaaGreatDoorW08
import Derived.StillTailTactics
namespace Go.Proofs.YtoenclhimbpfeaaGreatDoor
set_option linter.all false
set_option maxHeartbeats 16000000
set_option maxRecDepth 100000
section
open Go.Proofs.Tryz Go.RowKit
def bJ(last:Int)(t:Nat->Int):Value:=.agg #[.int .i64 last,.int .i64 (t 0),.int .i64 (t 1),.int .i64 (t 2),.int .i64 (t 3),.int .i64 (t 4),.int .i64 (t 5),.int .i64 (t 6),.int .i64 (t 7)]
def pastC(last:Int)(t:Nat->Int):Nat->Value:=λi=>if i=0 then .int .i64 last else .int .i64 (t (i-1))
def timesF(t:Nat->Int)(took:Int)(k i:Nat):Nat->Int:=λj=>if i<j/\j<k then(if t (j-1)=0 then 0 else t (j-1)+took)else t j
def cG(last:Int)(t:Nat->Int)(now near:Int)(k:Nat):Nat->Int:=
 if¬last=0/\now-last<=near then t else upd (timesF t (last-t 0) k 0) 0 now
theorem tD(t:Nat->Int)(took:Int)(k:Nat):timesF t took k (k-1)=t:=by
 funext j
 unfold timesF;rw[if_neg (by omega)]
theorem pK(t:Nat->Int)(took:Int){k i:Nat}(hi:0<i)(hk:i<k):timesF t took k (i-1)=upd (timesF t took k i) i (if t (i-1)=0 then 0 else t (i-1)+took):=by
 funext j
 by_cases e:j=i
 .subst e
  rw[upd_same];unfold timesF;rw[if_pos ⟨by omega,hk⟩]
 .rw[aa _ _ e];unfold timesF
  by_cases h:i<j/\j<k
  .rw[if_pos h,if_pos ⟨by omega,h.2⟩]
  .rw[if_neg h,if_neg (by omega)]
theorem mR(last:Int)(t:Nat->Int)(i:Nat)(z:Int):upd (pastC last t) (1+i) (.int .i64 z)=pastC last (upd t i z):=by
 funext j
 by_cases e:j=1+i
 .subst e
  rw[upd_same];unfold pastC;rw[if_neg (by omega),show 1+i-1=i from by omega,upd_same]
 .rw[aa _ _ e];unfold pastC
  by_cases h:j=0
  .rw[if_pos h,if_pos h]
  .rw[if_neg h,if_neg h,aa _ _ (by omega)]
section
variable{w w':World}
theorem o5(last:Int)(t:Nat->Int)(now near:Int)(k:Nat)(h0:¬last=0)(hnear:now-last<=near)(hb:0<=last/\last<=now/\now<100000000):Calls prog 185 #[bJ last t,.int .i64 now,.int .i64 near,.int .i64 k] w λe w'=>e=.returned (bJ now t)/\Fr NoF w w':=by
 have g0:(last !=0)=true:=by simpa using h0
 have hwr:IntKind.i64.wrap (now-last)=now-last:=IntWalk.i64_in _ (by omega);unfold bJ;generalize t 0=t0;generalize t 1=t1;generalize t 2=t2;generalize t 3=t3;generalize t 4=t4;generalize t 5=t5;generalize t 6=t6;generalize t 7=t7;clear h0;go_enter func185,ntmps185;go_wp2;go_returns;exact⟨rfl,((Fr.refl NoF w).alloc _).alloc _⟩
end
theorem eD{P:Program}{fn:Func}{p:Tmp}{ty:TypeId}(h:fn.results=#[.cell p ty])(tmps:Array Value)(w:World){g N:Nat}{c:Nat->Value}{d:TypeDesc}(hb:Blk w g N c)(hp:tmps.getD p undef=.pointer (some ⟨g,0,none⟩))
  (hu:P.underlying ty=some d)(hd:(match d with|.struct _|.array _ _=>true|_=>false)=true)(hi:(P.info? ty).map (·.size)=some N):
  (results fn tmps).run P w=.ok (.agg ((List.range N).map c).toArray) w:=by
 obtain⟨cs,t,hh,hs,hc⟩:=hb
 have e:cs=((List.range N).map c).toArray:=by
  apply Array.ext_getElem?;intro i;by_cases hi:i<N
  .rw[hc i hi];simp[hi]
  .rw[Array.getElem?_eq_none (by omega)];simp[hi]
 rw[<-e];exact results_cell_row h tmps w g t cs (0,0) d hp hh hu hd (by rw[hi,hs])
section
variable{w w':World}
theorem t9{w:World}{b:Nat}{l:Int}{f:Nat->Int}(h:Blk w b 9 (pastC l f)):w.cell? ⟨b,0,none⟩=some (.int .i64 l)/\w.cell? ⟨b,1,none⟩=some (.int .i64 (f 0))/\w.cell? ⟨b,2,none⟩=some (.int .i64 (f 1))/\w.cell? ⟨b,3,none⟩=some (.int .i64 (f 2))/\w.cell? ⟨b,4,none⟩=some (.int .i64 (f 3))/\w.cell? ⟨b,5,none⟩=some (.int .i64 (f 4))/\w.cell? ⟨b,6,none⟩=some (.int .i64 (f 5))/\w.cell? ⟨b,7,none⟩=some (.int .i64 (f 6))/\w.cell? ⟨b,8,none⟩=some (.int .i64 (f 7)):=
 ⟨h.cell (i:=0) (by omega),h.cell (i:=1) (by omega),h.cell (i:=2) (by omega),h.cell (i:=3) (by omega),h.cell (i:=4) (by omega),h.cell (i:=5) (by omega),h.cell (i:=6) (by omega),h.cell (i:=7) (by omega),h.cell (i:=8) (by omega)⟩
theorem Fn{w:World}{b:Nat}{l:Int}{f:Nat->Int}{x y:Value}(h:Blk w b 9 (upd (upd (pastC l f) 1 x) 0 y)):w.cell? ⟨b,0,none⟩=some (y)/\w.cell? ⟨b,1,none⟩=some (x)/\w.cell? ⟨b,2,none⟩=some (.int .i64 (f 1))/\w.cell? ⟨b,3,none⟩=some (.int .i64 (f 2))/\w.cell? ⟨b,4,none⟩=some (.int .i64 (f 3))/\w.cell? ⟨b,5,none⟩=some (.int .i64 (f 4))/\w.cell? ⟨b,6,none⟩=some (.int .i64 (f 5))/\w.cell? ⟨b,7,none⟩=some (.int .i64 (f 6))/\w.cell? ⟨b,8,none⟩=some (.int .i64 (f 7)):=
 ⟨h.cell (i:=0) (by omega),h.cell (i:=1) (by omega),h.cell (i:=2) (by omega),h.cell (i:=3) (by omega),h.cell (i:=4) (by omega),h.cell (i:=5) (by omega),h.cell (i:=6) (by omega),h.cell (i:=7) (by omega),h.cell (i:=8) (by omega)⟩
theorem pZ(last:Int)(t:Nat->Int)(now near:Int)(k:Nat)(hfar:last=0\/near<now-last)(hk:1<=k/\k<=8)(hb:0<=last/\last<=now/\now<100000000)(ht:∀j,0<=t j/\t j<=last/\t j<=t 0):Calls prog 185 #[bJ last t,.int .i64 now,.int .i64 near,.int .i64 k] w λe w'=>e=.returned (bJ now (upd (timesF t (last-t 0) k 0) 0 now))/\Fr NoF w w':=by
 have b1:Blk ((w.alloc (.cells #[.int .i64 last,.int .i64 (t 0),.int .i64 (t 1),.int .i64 (t 2),.int .i64 (t 3),.int .i64 (t 4),.int .i64 (t 5),.int .i64 (t 6),.int .i64 (t 7)] 261)).alloc (.cells #[.int .i64 0,.int .i64 0,.int .i64 0,.int .i64 0,.int .i64 0,.int .i64 0,.int .i64 0,.int .i64 0,.int .i64 0] 261)) w.heap.size 9 (pastC last t):=(Blk.new w _ 261 9 _ _ rfl rfl (λi hi=>by
  match i,hi with
  |0,_|1,_|2,_|3,_|4,_|5,_|6,_|7,_|8,_=>rfl)).alloc _
 have b2:Blk ((w.alloc (.cells #[.int .i64 last,.int .i64 (t 0),.int .i64 (t 1),.int .i64 (t 2),.int .i64 (t 3),.int .i64 (t 4),.int .i64 (t 5),.int .i64 (t 6),.int .i64 (t 7)] 261)).alloc (.cells #[.int .i64 0,.int .i64 0,.int .i64 0,.int .i64 0,.int .i64 0,.int .i64 0,.int .i64 0,.int .i64 0,.int .i64 0] 261)) (w.heap.size+1) 9 (pastC 0 (λ_=>0)):=Blk.new _ _ 261 9 _ _ (by simp) rfl (λi hi=>by
  match i,hi with
  |0,_|1,_|2,_|3,_|4,_|5,_|6,_|7,_|8,_=>rfl)
 have fA:Fr NoF w ((w.alloc (.cells #[.int .i64 last,.int .i64 (t 0),.int .i64 (t 1),.int .i64 (t 2),.int .i64 (t 3),.int .i64 (t 4),.int .i64 (t 5),.int .i64 (t 6),.int .i64 (t 7)] 261)).alloc (.cells #[.int .i64 0,.int .i64 0,.int .i64 0,.int .i64 0,.int .i64 0,.int .i64 0,.int .i64 0,.int .i64 0,.int .i64 0] 261)):=((Fr.refl NoF w).alloc _).alloc _;have HB1:=Hd b1;have HB2:=Hd b2;have HFA:=Hd fA;have HT:=Hd ht;obtain⟨c0,c1,-⟩:=t9 b1;have l1:=b1.lt;have h00:=ht 0;have hw1:IntKind.i64.wrap (last-t 0)=last-t 0:=IntWalk.i64_in _ (by omega);have hw2:IntKind.i64.wrap ((k:Int)-1)=(k:Int)-1:=IntWalk.i64_in _ (by omega);have hw3:IntKind.i64.wrap (now-last)=now-last:=IntWalk.i64_in _ (by omega);have hk1:((k:Int)-1)=((k-1:Nat):Int):=by omega
 clear b1 b2 fA ht;unfold bJ;go_enter func185,ntmps185
 have hcase:(last !=0)=false\/((last !=0)=true/\near<now-last):=by
  by_cases e:last=0
  .left;simp[e]
  .right;exact⟨by simpa using e,by omega⟩
 have HLOOP:Hid (∀i:Nat,0<i->i<k->timesF t (last-t 0) k (i-1)=upd (timesF t (last-t 0) k i) i (if t (i-1)=0 then 0 else t (i-1)+(last-t 0))):=λi h1 h2=>pK t _ h1 h2
 have HTOP:Hid (timesF t (last-t 0) k (k-1)=t):=tD t _ k;have HLOW:Hid (∀i:Nat,0<i->timesF t (last-t 0) k i (i-1)=t (i-1)):=λi h1=>by unfold timesF;rw[if_neg (by omega)]
 generalize hto:last-t 0=took at*;rcases hcase with hc|⟨hc,hc2⟩
 all_goals
  go_wp2_with fail
  go_loopw [10,11] (λiv av wr=>∃i:Nat,i<k/\iv=.int .i64 i/\Blk wr w.heap.size 9 (pastC last (timesF t took k i))/\Blk wr (w.heap.size+1) 9 (pastC 0 (λ_=>0))/\Fr NoF w wr) (λiv _ _=>(intOf iv).toNat)
  case atStart=>exact⟨k-1,by omega,by first|rfl|(rw[hk1]),by rw[HTOP.out];exact HB1.out,HB2.out,HFA.out⟩
  case round=>
   obtain⟨i,hi,rfl,hb1,hb2,hf⟩:=hrel;have HF:=Hd hf;have q1:=hb1.lt;have q2:=hb2.lt;by_cases h0:i=0
   .subst h0
    obtain⟨y0,y1,y2,y3,y4,y5,y6,y7,y8⟩:=t9 hb1;obtain⟨z0,z1,z2,z3,z4,z5,z6,z7,z8⟩:=t9 hb2;have fp0:=hb1.frozen 0;have fp1:=hb1.frozen 1;have fz:=hb2.frozen;have HB2z:=Hd hb2;have HB1z:=Hd hb1;clear hb1 hb2 hf;have HV:Hid (∀j,upd (timesF t took k 0) 0 now (j+1)=timesF t took k 0 (j+1)):=λj=>aa _ _ (by omega)
    have HB8:Blk ((wr.setCell ⟨w.heap.size,1,none⟩ (.int .i64 now)).setCell ⟨w.heap.size,0,none⟩ (.int .i64 now)) (w.heap.size+1) 9 (pastC 0 (λ_=>0)):=(HB2z.out.other (by show¬w.heap.size+1=w.heap.size;omega) _).other (by show¬w.heap.size+1=w.heap.size;omega) _;have B1:=(HB1z.out.set 1 (.int .i64 now)).set 0 (.int .i64 now);obtain⟨x0,x1,x2,x3,x4,x5,x6,x7,x8⟩:=Fn B1;obtain⟨u0,u1,u2,u3,u4,u5,u6,u7,u8⟩:=t9 HB8;have fu:=HB8.frozen;have v1:=B1.lt;have v2:=HB8.lt;have HFW:Hid (Fr NoF w ((wr.setCell ⟨w.heap.size,1,none⟩ (.int .i64 now)).setCell ⟨w.heap.size,0,none⟩ (.int .i64 now))):=(by repeat(first|exact HF.out|(refine Fr.setCell ?_ (.inr (by first|exact Nat.le_refl _|exact Nat.le_succ _)) _)));have HBW:=Hd HB8;clear HB8 B1
    go_upto_region 14 with fail
    generalize((wr.setCell ⟨w.heap.size,1,none⟩ (.int .i64 now)).setCell ⟨w.heap.size,0,none⟩ (.int .i64 now))=wx at*;clear y0 y1 y2 y3 y4 y5 y6 y7 y8 z0 z1 z2 z3 z4 z5 z6 z7 z8 fz;have RB:=Hd (((((((((HBW.out.set 0 (.int .i64 (now))).set 1 (.int .i64 (now))).set 2 (.int .i64 (timesF t took k 0 1))).set 3 (.int .i64 (timesF t took k 0 2))).set 4 (.int .i64 (timesF t took k 0 3))).set 5 (.int .i64 (timesF t took k 0 4))).set 6 (.int .i64 (timesF t took k 0 5))).set 7 (.int .i64 (timesF t took k 0 6))).set 8 (.int .i64 (timesF t took k 0 7)));have FRB:=Hd (Fr.setCell (Fr.setCell (Fr.setCell (Fr.setCell (Fr.setCell (Fr.setCell (Fr.setCell (Fr.setCell (Fr.setCell HFW.out (p:=⟨w.heap.size+1,0,none⟩) (.inr (Nat.le_succ _)) (.int .i64 (now))) (p:=⟨w.heap.size+1,1,none⟩) (.inr (Nat.le_succ _)) (.int .i64 (now))) (p:=⟨w.heap.size+1,2,none⟩) (.inr (Nat.le_succ _)) (.int .i64 (timesF t took k 0 1))) (p:=⟨w.heap.size+1,3,none⟩) (.inr (Nat.le_succ _)) (.int .i64 (timesF t took k 0 2))) (p:=⟨w.heap.size+1,4,none⟩) (.inr (Nat.le_succ _)) (.int .i64 (timesF t took k 0 3))) (p:=⟨w.heap.size+1,5,none⟩) (.inr (Nat.le_succ _)) (.int .i64 (timesF t took k 0 4))) (p:=⟨w.heap.size+1,6,none⟩) (.inr (Nat.le_succ _)) (.int .i64 (timesF t took k 0 5))) (p:=⟨w.heap.size+1,7,none⟩) (.inr (Nat.le_succ _)) (.int .i64 (timesF t took k 0 6))) (p:=⟨w.heap.size+1,8,none⟩) (.inr (Nat.le_succ _)) (.int .i64 (timesF t took k 0 7)));go_wp2
    (try simp only[Exit.inBlock,Exit.then])
    refine bodyPost_ret (eD Tryz.results185 _ _ RB.out rfl underlying261 rfl (by kernel_rfl)) (by rfl) ?_;have FRB:=FRB.out;generalize timesF t took k 0=T at FRB⊢;exact⟨rfl,FRB⟩
   .obtain⟨m,rfl⟩:∃m,i=m+1:=⟨i-1,by omega⟩
    have hstep:=HLOOP.out (m+1) (by omega) hi;have hlow:=HLOW.out (m+1) (by omega);rw[Nat.add_sub_cancel]at hstep hlow
    have y1:wr.cell? ⟨w.heap.size,1+m,none⟩=some (.int .i64 (t m)):=by
     have h:=hb1.cell (i:=1+m) (by omega);rw[show pastC last (timesF t took k (m+1)) (1+m)=.int .i64 (timesF t took k (m+1) m)from by unfold pastC;rw[if_neg (by omega),show 1+m-1=m from by omega],hlow]at h;exact h
    have y2:=hb1.cell (i:=1+(m+1)) (by omega);have fp2:=hb1.frozen (1+(m+1));have hm:=HT.out m;have hwi:IntKind.i64.wrap (((m+1:Nat):Int)-1)=(m:Int):=by rw[show((m+1:Nat):Int)-1=(m:Int)from by omega];exact IntWalk.i64_in _ (by omega)
    have hip:0<((m+1:Nat):Int):=by omega
    have HS1:=Hd hstep;have HB1':=Hd hb1;have HB2':=Hd hb2;clear hb1 hb2 hf hstep;by_cases hz:t m=0
    .rw[hz]at y1
     have h5:Blk (wr.setCell ⟨w.heap.size,1+(m+1),none⟩ (.int .i64 0)) w.heap.size 9 (pastC last (timesF t took k m)):=by
      rw[HS1.out,if_pos hz,<-mR];exact HB1'.out.set _ _
     have H5:=Hd h5;clear h5 hz;go_wp2
     go_roundw
     case rel=>exact⟨m,by omega,by go_num,H5.out,HB2'.out.other (by show¬w.heap.size+1=w.heap.size;omega) _,(by repeat(first|exact HF.out|(refine Fr.setCell ?_ (.inr (by first|exact Nat.le_refl _|exact Nat.le_succ _)) _)))⟩
     case measure=>first|(simp[intOf];done)|(simp[intOf];omega)
    .have gz:(t m !=0)=true:=by simpa using hz
     have h5:Blk ((wr.setCell ⟨w.heap.size,1+(m+1),none⟩ (.int .i64 0)).setCell ⟨w.heap.size,1+(m+1),none⟩ (.int .i64 (t m+took))) w.heap.size 9 (pastC last (timesF t took k m)):=by
      rw[HS1.out,if_neg hz,<-mR];refine((HB1'.out.set _ _).set _ _).congr (λj _=>?_);unfold upd
      split
      .rfl
      .rfl
     have H5:=Hd h5;clear h5 hz;go_wp2
     go_roundw
     case rel=>exact⟨m,by omega,by go_num,H5.out,(HB2'.out.other (by show¬w.heap.size+1=w.heap.size;omega) _).other (by show¬w.heap.size+1=w.heap.size;omega) _,(by repeat(first|exact HF.out|(refine Fr.setCell ?_ (.inr (by first|exact Nat.le_refl _|exact Nat.le_succ _)) _)))⟩
     case measure=>first|(simp[intOf];done)|(simp[intOf];omega)
end
end
section
open Go.Maps Go.Proofs.Tryz Go.RowKit
def Gg(K:Nat->Option (Int×Int)):Th->Prop:=λt=>∃x:Nat,t.x=x/\K x=some (t.a,t.b)
def updKK(K:Nat->Option (Int×Int))(x:Nat)(y:Option (Int×Int)):Nat->Option (Int×Int):=λz=>if z=x then y else K z
theorem az(K:Nat->Option (Int×Int))(x:Nat)(y:Option (Int×Int)):updKK K x y x=y:=if_pos rfl
theorem ao(K:Nat->Option (Int×Int)){x z:Nat}(y:Option (Int×Int))(h:¬z=x):updKK K x y z=K z:=if_neg h
theorem xH{K:Nat->Option (Int×Int)}{x:Nat}(h:K x=none):updKK K x none=K:=by
 funext z;unfold updKK;split
 .subst_vars;exact h.symm
 .rfl
def QK(w:World)(qb:Nat)(K:Nat->Option (Int×Int))(n:Nat)(F:Nat->Prop):Prop:=QS w qb (Gg K) n F
def lessN(n:Nat)(o:Bool):Nat:=if o then n-1 else n
def dM(n:Nat)(o:Bool):Nat:=if o then n else n+1
def okN(x:Nat):Prop:=x<4294967296
theorem i64_in{z:Int}(h: -9223372036854775808<=z/\z<=9223372036854775807):i64 z:=by
 have e1:IntKind.i64.min= -9223372036854775808:=rfl;have e2:IntKind.i64.max=9223372036854775807:=rfl;have:IntKind.i64.min<=z/\z<=IntKind.i64.max:=by rw[e1,e2];exact h
 unfold i64;simpa[Lit.wf]using this
theorem ot{x:Nat}(h:okN x):i64 (x:Int):=by
 have h:x<4294967296:=h;exact i64_in ⟨by omega,by omega⟩
section
variable{w w':World}{qb n:Nat}{F:Nat->Prop}{K:Nat->Option (Int×Int)}{M:Th->Prop}
theorem QK.fr(h:QK w qb K n F){G:Nat->Prop}(f:Fr G w w')(hG:∀i,F i->¬G i):QK w' qb K n F:=QS.fr h f hG
theorem QK.fr0(h:QK w qb K n F)(f:Fr NoF w w'):QK w' qb K n F:=QS.fr0 h f
theorem QK.lt(h:QK w qb K n F):∀i,F i->i<w.heap.size:=QS.lt h
theorem QK.zero(h:QK w qb K 0 F)(x:Nat):K x=none:=by
 obtain⟨a,hr,hh,hM⟩:=h
 cases e:K x with
 |none=>rfl
 |some p=>obtain⟨k,hk,_⟩:=(hM ⟨x,p.1,p.2⟩).1 ⟨x,rfl,e⟩;omega
theorem QK.pos(h:QK w qb K n F){x:Nat}(hx:(K x).isSome=true):0<n:=by
 cases n with
 |zero=>rw[h.zero x]at hx;cases hx
 |succ n=>omega
theorem BE(w:World):Calls prog 49 #[] w λe w'=>e=.returned (.pointer (some ⟨w.heap.size,0,none⟩))/\QK w' w.heap.size (λ_=>none) 0 (λi=>i=w.heap.size)/\Fr NoF w w':=
 (E5 w).mono λe w' ⟨he,h,f⟩=>⟨he,h.congr (λt=>⟨λq=>q.elim,λ⟨x,_,q⟩=>by cases q⟩),f⟩
theorem tP(h:QK w qb K n F):Calls prog 201 #[.pointer (some ⟨qb,0,none⟩)] w λe w'=>e=.returned (.int .i64 (n:Nat))/\w=w':=sJ h
theorem nQ{x:Nat}(h:K x=none):∀u,Gg K u->¬u.x=(x:Int):=by
 rintro u⟨z,hz,hk⟩e;rw[e]at hz;obtain rfl:x=z:=by omega
 rw[h]at hk
 cases hk
theorem oH(h:QK w qb K n F){x:Nat}{a b:Int}(hx:okN x)(ha:i64 a)(hb:i64 b)(hn:n<900000):Calls prog 198 #[.pointer (some ⟨qb,0,none⟩),.int .i64 x,.agg #[.int .i64 a,.int .i64 b]] w λe w'=>e=.returned (.tuple #[])/\∃F',QK w' qb (updKK K x (some (a,b))) (dM n (K x).isSome) F'/\Fr F w w'/\∀i,F' i->F i\/w.heap.size<=i:=by
 have hok:vS ⟨x,a,b⟩:=⟨ot hx,ha,hb⟩
 cases e:K x with
 |none=>
  refine(sU h hok hn (nQ e)).mono ?_;rintro e' w'⟨he,F',hq,hf,hF⟩;refine⟨he,F',hq.congr (λt=>⟨?_,?_⟩),hf,hF⟩
  .rintro(rfl|⟨z,hz,hk⟩)
   .exact⟨x,rfl,az _ _ _⟩
   .exact⟨z,hz,by rw[ao _ _ (λq=>by subst q;rw[e]at hk;cases hk)];exact hk⟩
  .rintro⟨z,hz,hk⟩
   by_cases q:z=x
   .subst q
    rw[az]at hk
    injection hk with hk
    injection hk with h1 h2
    left
    cases t;simp_all
   .rw[ao _ _ q]at hk
    exact .inr ⟨z,hz,hk⟩
 |some p=>
  refine(sk h hok ⟨⟨x,p.1,p.2⟩,⟨x,rfl,e⟩,rfl⟩).mono ?_;rintro e' w'⟨he,hq,hf⟩;refine⟨he,F,hq.congr (λt=>⟨?_,?_⟩),hf,λi q=>.inl q⟩
  .rintro(rfl|⟨⟨z,hz,hk⟩,hne⟩)
   .exact⟨x,rfl,az _ _ _⟩
   .exact⟨z,hz,by rw[ao _ _ (λq=>by subst q;exact hne hz)];exact hk⟩
  .rintro⟨z,hz,hk⟩
   by_cases q:z=x
   .subst q
    rw[az]at hk
    injection hk with hk
    injection hk with h1 h2
    left
    cases t;simp_all
   .rw[ao _ _ q]at hk
    exact .inr ⟨⟨z,hz,hk⟩,λq'=>q (Int.ofNat.inj (hz.symm.trans q'))⟩
theorem gE(h:QK w qb K n F){x:Nat}(hx:okN x):Calls prog 184 #[.pointer (some ⟨qb,0,none⟩),.int .i64 x] w λe w'=>e=.returned (.bool (K x).isSome)/\QK w' qb (updKK K x none) (lessN n (K x).isSome) F/\Fr F w w':=by
 cases e:K x with
 |none=>
  refine(rS h (ot hx) (nQ e)).mono ?_;rintro e' w'⟨he,rfl⟩;exact⟨he,by rw[xH e];exact h,Fr.refl _ _⟩
 |some p=>
  obtain⟨m,rfl⟩:∃m,n=m+1:=⟨n-1,by have:=h.pos (x:=x) (by rw[e];rfl);omega⟩;refine(qz h ⟨⟨x,p.1,p.2⟩,⟨x,rfl,e⟩,rfl⟩).mono ?_;rintro e' w'⟨he,hq,hf⟩;refine⟨he,hq.congr (λt=>⟨?_,?_⟩),hf⟩
  .rintro⟨⟨z,hz,hk⟩,hne⟩
   exact⟨z,hz,by rw[ao _ _ (λq=>by subst q;exact hne hz)];exact hk⟩
  .rintro⟨z,hz,hk⟩
   by_cases q:z=x
   .subst q
    rw[az]at hk
    cases hk
   .rw[ao _ _ q]at hk
    exact⟨⟨z,hz,hk⟩,λq'=>q (Int.ofNat.inj (hz.symm.trans q'))⟩
def keyOf(o:Option (Int×Int)):Value:=.agg #[.int .i64 (o.getD (0,0)).1,.int .i64 (o.getD (0,0)).2]
theorem xr(h:QS w qb M n F){t:Th}(ht:M t):Calls prog 197 #[.pointer (some ⟨qb,0,none⟩),.int .i64 t.x] w λe w'=>e=.returned (.tuple #[.agg #[.int .i64 t.a,.int .i64 t.b],.bool true])/\Fr NoF w w':=by
 obtain⟨a,⟨lv,mo,g,h,hF⟩,hh,hM⟩:=h;obtain⟨k,hk,rfl⟩:=(hM t).1 ht;have fA:Fr NoF w (w.alloc (.cells #[.int .i64 0,.int .i64 0] 265)):=(Fr.refl NoF w).alloc _;have hA:=h.fr0 fA;have HFI:=Hd (jS hA hk);have c0:=hA.c0;have lb:=hA.hd.lt;have hsm:=h.sm;obtain⟨gb,cap,rfl,g1,g2,g3,g4,i0,i1,i2⟩:=hA.el hk
 have hgl:¬gb=w.heap.size:=by
  obtain⟨gb',cap',e,_,_,q,_⟩:=h.el hk;simp only[Value.slice.injEq,Option.some.injEq,Addr.mk.injEq]at e;obtain⟨⟨rfl,_⟩,_,_⟩:=e;omega
 generalize(a k).x=tx at*;generalize(a k).a=ta at*;generalize(a k).b=tb at*;clear h hA hF hh hM ht fA;go_enter func197,ntmps197
 go_wp2_with fail
 refine HFI.out.mono ?_;rintro e w1⟨rfl,rfl⟩;go_wp2;go_returns;exact⟨rfl,(Fr.refl NoF w).alloc _⟩
theorem Az(h:QS w qb M n F){x:Int}(hx:i64 x)(hne:∀u,M u->¬u.x=x):Calls prog 197 #[.pointer (some ⟨qb,0,none⟩),.int .i64 x] w λe w'=>e=.returned (.tuple #[.agg #[.int .i64 0,.int .i64 0],.bool false])/\Fr NoF w w':=by
 obtain⟨a,⟨lv,mo,g,h,hF⟩,hh,hM⟩:=h;have fA:Fr NoF w (w.alloc (.cells #[.int .i64 0,.int .i64 0] 265)):=(Fr.refl NoF w).alloc _;have HC:=Hd (kR (h.fr0 fA) hx (λk hk=>hne _ ((hM _).2 ⟨k,hk,rfl⟩)));clear h hF hh hM hne hx fA;go_enter func197,ntmps197
 go_wp2_with fail
 refine HC.out.mono ?_;rintro e w1⟨rfl,rfl⟩;go_wp2;go_returns;exact⟨rfl,(Fr.refl NoF w).alloc _⟩
theorem vw(h:QK w qb K n F){x:Nat}(hx:okN x):Calls prog 197 #[.pointer (some ⟨qb,0,none⟩),.int .i64 x] w λe w'=>e=.returned (.tuple #[.agg #[.int .i64 ((K x).getD (0,0)).1,.int .i64 ((K x).getD (0,0)).2],.bool (K x).isSome])/\Fr NoF w w':=by
 cases e:K x with
 |none=>exact Az h (ot hx) (nQ e)
 |some p=>exact xr h (t:=⟨x,p.1,p.2⟩) ⟨x,rfl,e⟩
def fH(K:Nat->Option (Int×Int))(x:Nat):Prop:=∃a b,K x=some (a,b)/\∀y c d,K y=some (c,d)->a<c\/(a=c/\(b<d\/(b=d/\x<=y)))
theorem jN(h:QK w qb K 0 F):Calls prog 200 #[.pointer (some ⟨qb,0,none⟩)] w λe w'=>e=.returned (.tuple #[.int .i64 0,.bool false])/\w=w':=pV h
theorem i7(h:QK w qb K n F)(hn:0<n):∃x:Nat,fH K x/\Hid (∀W,Fr NoF w W->Calls prog 200 #[.pointer (some ⟨qb,0,none⟩)] W λe w'=>e=.returned (.tuple #[.int .i64 x,.bool true])/\W=w'):=by
 obtain⟨t,⟨⟨x,hx,hk⟩,hl⟩,hc⟩:=pe h hn;rw[hx]at hc;refine⟨x,⟨t.a,t.b,hk,λy c d hy=>?_⟩,hc⟩;have h1:=hl ⟨y,c,d⟩ ⟨y,rfl,hy⟩;rw[om]at h1;simp only[hx]at h1;omega
end
def farK(R:Nat->Option (Int×Int))(Fa:Nat->Bool):Nat->Option (Int×Int):=λx=>if Fa x then R x else none
def freshK(R:Nat->Option (Int×Int))(Fa:Nat->Bool):Nat->Option (Int×Int):=λx=>if Fa x then none else R x
def bP(R:Nat->Option (Int×Int))(Fa:Nat->Bool):Nat->Option (Int×Int):=λx=>(freshK R Fa x).map λp=>(p.2,0)
def updB1(Fa:Nat->Bool)(x:Nat)(y:Bool):Nat->Bool:=λz=>if z=x then y else Fa z
structure CAt(w:World)(lb:Nat)(R:Nat->Option (Int×Int))(Fa:Nat->Bool)(q1 q2 q3 nf nr:Nat)(F1 F2 F3:Nat->Prop):Prop where
 p6:w.cell? ⟨lb,6,none⟩=some (.pointer (some ⟨q1,0,none⟩))
 p7:w.cell? ⟨lb,7,none⟩=some (.pointer (some ⟨q2,0,none⟩))
 p8:w.cell? ⟨lb,8,none⟩=some (.pointer (some ⟨q3,0,none⟩))
 lt:lb<w.heap.size
 h1:QK w q1 (farK R Fa) nf F1
 h2:QK w q2 (freshK R Fa) nr F2
 h3:QK w q3 (bP R Fa) nr F3
 d12:∀i,F1 i->¬F2 i
 d13:∀i,F1 i->¬F3 i
 d23:∀i,F2 i->¬F3 i
 n1:¬F1 lb
 n2:¬F2 lb
 n3:¬F3 lb
 ok:∀x a b,R x=some (a,b)->i64 a/\i64 b/\okN x
def CC(w:World)(lb:Nat)(R:Nat->Option (Int×Int))(Fa:Nat->Bool)(t:Nat)(F:Nat->Prop):Prop:=
 ∃q1 q2 q3 nf nr F1 F2 F3,CAt w lb R Fa q1 q2 q3 nf nr F1 F2 F3/\nf+nr=t/\∀i,F i↔F1 i\/F2 i\/F3 i
section
variable{w w':World}{lb t:Nat}{R:Nat->Option (Int×Int)}{Fa:Nat->Bool}{q1 q2 q3 nf nr:Nat}{F F1 F2 F3:Nat->Prop}
theorem CAt.fr(h:CAt w lb R Fa q1 q2 q3 nf nr F1 F2 F3){G:Nat->Prop}(f:Fr G w w')(g1:∀i,F1 i->¬G i)(g2:∀i,F2 i->¬G i)(g3:∀i,F3 i->¬G i)(gl:¬G lb):CAt w' lb R Fa q1 q2 q3 nf nr F1 F2 F3:=
 ⟨by rw[f.cell (p:=⟨lb,6,none⟩) h.lt gl];exact h.p6,by rw[f.cell (p:=⟨lb,7,none⟩) h.lt gl];exact h.p7,by rw[f.cell (p:=⟨lb,8,none⟩) h.lt gl];exact h.p8,Nat.lt_of_lt_of_le h.lt f.size,h.h1.fr f g1,h.h2.fr f g2,h.h3.fr f g3,h.d12,h.d13,h.d23,h.n1,h.n2,h.n3,h.ok⟩
theorem CAt.fr0(h:CAt w lb R Fa q1 q2 q3 nf nr F1 F2 F3)(f:Fr NoF w w'):CAt w' lb R Fa q1 q2 q3 nf nr F1 F2 F3:=h.fr f (λ_ _ q=>q) (λ_ _ q=>q) (λ_ _ q=>q) (λq=>q)
theorem CC.fr(h:CC w lb R Fa t F){G:Nat->Prop}(f:Fr G w w')(g:∀i,F i->¬G i)(gl:¬G lb):CC w' lb R Fa t F:=by
 obtain⟨q1,q2,q3,nf,nr,F1,F2,F3,h,ht,hF⟩:=h;exact⟨q1,q2,q3,nf,nr,F1,F2,F3,h.fr f (λi q=>g i ((hF i).2 (.inl q))) (λi q=>g i ((hF i).2 (.inr (.inl q)))) (λi q=>g i ((hF i).2 (.inr (.inr q)))) gl,ht,hF⟩
theorem CC.fr0(h:CC w lb R Fa t F)(f:Fr NoF w w'):CC w' lb R Fa t F:=h.fr f (λ_ _ q=>q) (λq=>q)
theorem CC.lt(h:CC w lb R Fa t F):∀i,F i->i<w.heap.size:=by
 obtain⟨q1,q2,q3,nf,nr,F1,F2,F3,h,ht,hF⟩:=h;intro i q;rcases(hF i).1 q with q|q|q
 .exact h.h1.lt i q
 .exact h.h2.lt i q
 .exact h.h3.lt i q
theorem CC.notl(h:CC w lb R Fa t F):¬F lb:=by
 obtain⟨q1,q2,q3,nf,nr,F1,F2,F3,h,ht,hF⟩:=h;intro q;rcases(hF lb).1 q with q|q|q
 .exact h.n1 q
 .exact h.n2 q
 .exact h.n3 q
theorem xh(R:Nat->Option (Int×Int))(Fa:Nat->Bool)(x:Nat):((farK R Fa x).isSome||(freshK R Fa x).isSome)=(R x).isSome:=by
 unfold farK freshK
 cases Fa x<;>simp
theorem BD(h:CC w lb R Fa t F){x:Nat}(hx:okN x):Calls prog 186 #[.pointer (some ⟨lb,6,none⟩),.int .i64 x] w λe w'=>e=.returned (.bool (R x).isSome)/\Fr NoF w w':=by
 obtain⟨q1,q2,q3,nf,nr,F1,F2,F3,h,ht,hF⟩:=h;have HP:=Hd (xh R Fa x);have HC:=Hd h;have H1:Hid (Calls prog 197 #[.pointer (some ⟨q1,0,none⟩),.int .i64 x] w λe w'=>e=.returned (.tuple #[.agg #[.int .i64 ((farK R Fa x).getD (0,0)).1,.int .i64 ((farK R Fa x).getD (0,0)).2],.bool (farK R Fa x).isSome])/\Fr NoF w w'):=vw h.h1 hx;have H2:Hid (∀W,Fr NoF w W->Calls prog 197 #[.pointer (some ⟨q2,0,none⟩),.int .i64 x] W λe w'=>e=.returned (.tuple #[.agg #[.int .i64 ((freshK R Fa x).getD (0,0)).1,.int .i64 ((freshK R Fa x).getD (0,0)).2],.bool (freshK R Fa x).isSome])/\Fr NoF W w'):=λW f=>vw (h.h2.fr0 f) hx
 have p6:=h.p6;have lt:=h.lt;clear h hF ht;rw[<-HP.out];clear HP;generalize((farK R Fa x).getD (0,0)).1=a1 at*;generalize((farK R Fa x).getD (0,0)).2=a2 at*;generalize((freshK R Fa x).getD (0,0)).1=b1 at*;generalize((freshK R Fa x).getD (0,0)).2=b2 at*;generalize(farK R Fa x).isSome=o1 at*;generalize(freshK R Fa x).isSome=o2 at*;go_enter func186,ntmps186
 go_wp2_with fail
 refine H1.out.mono ?_;rintro e w1⟨rfl,f1⟩;have p7:=(HC.out.fr f1 (λ_ _ q=>q) (λ_ _ q=>q) (λ_ _ q=>q) (λq=>q)).p7;have lt1:=(HC.out.fr f1 (λ_ _ q=>q) (λ_ _ q=>q) (λ_ _ q=>q) (λq=>q)).lt;have HF1:=Hd f1;clear p6 lt f1
 cases o1<;>
 (go_wp2_with fail
  refine(H2.out _ (by first|exact HF1.out.alloc _|exact(HF1.out.alloc _).setCell (.inr HF1.out.size) _)).mono ?_;rintro e w2⟨rfl,f2⟩;have HF2:=Hd f2;clear f2;go_wp2;go_returns;exact⟨rfl,by first|exact((HF1.out.alloc _).trans HF2.out (λ_ q=>q.elim)).alloc _|exact(((HF1.out.alloc _).setCell (.inr HF1.out.size) _).trans HF2.out (λ_ q=>q.elim)).alloc _⟩)
theorem Ee(h:CC w lb R Fa t F)(ht:t<900000):Calls prog 194 #[.pointer (some ⟨lb,6,none⟩)] w λe w'=>e=.returned (.int .i64 (t:Nat))/\Fr NoF w w':=by
 obtain⟨q1,q2,q3,nf,nr,F1,F2,F3,h,rfl,hF⟩:=h;have H1:Hid (∀W,Fr NoF w W->Calls prog 201 #[.pointer (some ⟨q1,0,none⟩)] W λe w'=>e=.returned (.int .i64 (nf:Nat))/\W=w'):=λW f=>tP (h.h1.fr0 f)
 have H2:Hid (∀W,Fr NoF w W->Calls prog 201 #[.pointer (some ⟨q2,0,none⟩)] W λe w'=>e=.returned (.int .i64 (nr:Nat))/\W=w'):=λW f=>tP (h.h2.fr0 f)
 have p6:=h.p6;have p7:=h.p7;have lt:=h.lt;have hw:IntKind.i64.wrap ((nf:Int)+nr)=((nf+nr:Nat):Int):=by rw[show((nf:Int)+nr)=((nf+nr:Nat):Int)from by omega];exact IntWalk.i64_in _ (by omega)
 clear h hF ht;go_enter func194,ntmps194
 go_wp2_with fail
 go_quiet ((go_at_call 201;first|(with_reducible exact qs (H1.out _ (by first|exact Fr.refl _ _|exact(Fr.refl NoF w).drew|exact(Fr.refl NoF w).drewN _)))|(with_reducible exact qs (H2.out _ (by first|exact Fr.refl _ _|exact(Fr.refl NoF w).drew|exact(Fr.refl NoF w).drewN _)))))
 go_wp2;go_returns;exact⟨rfl,by first|exact Fr.refl _ _|exact(Fr.refl NoF w).drewN _⟩
theorem gZ(Fa:Nat->Bool)(x:Nat)(y:Bool):updB1 Fa x y x=y:=if_pos rfl
theorem fG(Fa:Nat->Bool){x z:Nat}(y:Bool)(h:¬z=x):updB1 Fa x y z=Fa z:=if_neg h
theorem xg(R:Nat->Option (Int×Int))(Fa:Nat->Bool)(x:Nat):updKK (farK R Fa) x none=farK (updKK R x none) Fa:=by
 funext z;unfold updKK farK
 by_cases e:z=x
 .simp[e]
 .simp[e]
theorem jO(R:Nat->Option (Int×Int))(Fa:Nat->Bool)(x:Nat):updKK (freshK R Fa) x none=freshK (updKK R x none) Fa:=by
 funext z;unfold updKK freshK
 by_cases e:z=x
 .simp[e]
 .simp[e]
theorem tz(R:Nat->Option (Int×Int))(Fa:Nat->Bool)(x:Nat):updKK (bP R Fa) x none=bP (updKK R x none) Fa:=by
 funext z;unfold bP;rw[<-jO];unfold updKK
 by_cases e:z=x
 .simp[e]
 .simp[e]
theorem zY(R:Nat->Option (Int×Int))(Fa:Nat->Bool)(x:Nat)(p:Int×Int):updKK (farK R Fa) x none=farK (updKK R x (some p)) (updB1 Fa x false):=by
 funext z;unfold updKK farK updB1
 by_cases e:z=x
 .simp[e]
 .simp[e]
theorem kZ(R:Nat->Option (Int×Int))(Fa:Nat->Bool)(x:Nat)(p:Int×Int):updKK (freshK R Fa) x (some p)=freshK (updKK R x (some p)) (updB1 Fa x false):=by
 funext z;unfold updKK freshK updB1
 by_cases e:z=x
 .simp[e]
 .simp[e]
theorem wL(R:Nat->Option (Int×Int))(Fa:Nat->Bool)(x:Nat)(p:Int×Int):updKK (bP R Fa) x (some (p.2,0))=bP (updKK R x (some p)) (updB1 Fa x false):=by
 funext z;unfold bP;rw[<-kZ];unfold updKK
 by_cases e:z=x
 .simp[e]
 .simp[e]
theorem lc(R:Nat->Option (Int×Int))(Fa:Nat->Bool)(x:Nat):(bP R Fa x).isSome=(freshK R Fa x).isSome:=by
 unfold bP;simp
theorem CF{R:Nat->Option (Int×Int)}(h:∀x a b,R x=some (a,b)->i64 a/\i64 b/\okN x)(x:Nat):∀z a b,updKK R x none z=some (a,b)->i64 a/\i64 b/\okN z:=by
 intro z a b q;by_cases e:z=x
 .subst e;rw[az]at q;cases q
 .rw[ao _ _ e]at q;exact h z a b q
theorem Fl{R:Nat->Option (Int×Int)}(h:∀x a b,R x=some (a,b)->i64 a/\i64 b/\okN x)(x:Nat){c d:Int}(hc:i64 c)(hd:i64 d)(hx:okN x):∀z a b,updKK R x (some (c,d)) z=some (a,b)->i64 a/\i64 b/\okN z:=by
 intro z a b q;by_cases e:z=x
 .subst e;rw[az]at q;injection q with q;injection q with q1 q2;subst q1;subst q2;exact⟨hc,hd,hx⟩
 .rw[ao _ _ e]at q;exact h z a b q
theorem us(h:CAt w lb R Fa q1 q2 q3 nf nr F1 F2 F3){x:Nat}(hx:okN x):Calls prog 191 #[.pointer (some ⟨lb,6,none⟩),.int .i64 x] w λe w'=>e=.returned (.tuple #[])/\CAt w' lb (updKK R x none) Fa q1 q2 q3 (lessN nf (farK R Fa x).isSome) (lessN nr (freshK R Fa x).isSome) F1 F2 F3/\Fr (λi=>F1 i\/F2 i\/F3 i) w w':=by
 have HC:=Hd h;have H1:=Hd (gE h.h1 hx);have p6:=h.p6;have lt:=h.lt;clear h;go_enter func191,ntmps191
 go_wp2_with fail
 refine H1.out.mono ?_;rintro e w1⟨rfl,h1,f1⟩;have p7:=f1.cell (p:=⟨lb,7,none⟩) lt HC.out.n1;rw[HC.out.p7]at p7;have lt1:lb<w1.heap.size:=Nat.lt_of_lt_of_le lt f1.size;have HK1:=Hd h1;have HF1:=Hd f1;have H2:=Hd (gE (HC.out.h2.fr f1 (λi q q'=>HC.out.d12 i q' q)) hx);clear h1 f1 p6;generalize hO1:(farK R Fa x).isSome=o1 at*;have HO1:=Hd hO1;clear hO1
 go_wp2_with fail
 refine H2.out.mono ?_;rintro e w2⟨rfl,h2,f2⟩;have p8:=f2.cell (p:=⟨lb,8,none⟩) lt1 HC.out.n2;rw[HF1.out.cell (p:=⟨lb,8,none⟩) lt HC.out.n1,HC.out.p8]at p8;have lt2:lb<w2.heap.size:=Nat.lt_of_lt_of_le lt1 f2.size;have HK2:=Hd h2;have HF2:=Hd f2;have H3:=Hd (gE ((HC.out.h3.fr HF1.out (λi q q'=>HC.out.d13 i q' q)).fr f2 (λi q q'=>HC.out.d23 i q' q)) hx);clear h2 f2 p7;generalize hO2:(freshK R Fa x).isSome=o2 at*;have HO2:=Hd hO2;clear hO2;rw[lc R Fa x,HO2.out]at H3
 go_wp2_with fail
 refine H3.out.mono ?_;rintro e w3⟨rfl,h3,f3⟩;have HK3:=Hd h3;have HF3:=Hd f3;clear h3 f3;go_wp2;go_returns;have hf:Fr (λi=>F1 i\/F2 i\/F3 i) w w3:=((HF1.out.mono (λ_ q=>.inl q)).trans HF2.out (λ_ q=>.inl (.inr (.inl q)))).trans HF3.out (λ_ q=>.inl (.inr (.inr q)));have gl:¬(F1 lb\/F2 lb\/F3 lb):=λq=>q.elim HC.out.n1 (λq=>q.elim HC.out.n2 HC.out.n3)
 refine⟨rfl,⟨?_,?_,?_,Nat.lt_of_lt_of_le lt hf.size,?_,?_,?_,HC.out.d12,HC.out.d13,HC.out.d23,HC.out.n1,HC.out.n2,HC.out.n3,CF HC.out.ok x⟩,hf⟩
 .rw[hf.cell (p:=⟨lb,6,none⟩) lt gl];exact HC.out.p6
 .rw[hf.cell (p:=⟨lb,7,none⟩) lt gl];exact HC.out.p7
 .rw[hf.cell (p:=⟨lb,8,none⟩) lt gl];exact HC.out.p8
 .rw[<-xg,HO1.out];exact(HK1.out.fr HF2.out (HC.out.d12)).fr HF3.out (HC.out.d13)
 .rw[<-jO,HO2.out];exact HK2.out.fr HF3.out (HC.out.d23)
 .rw[<-tz,HO2.out];exact HK3.out
theorem CAt.less(h:CAt w lb R Fa q1 q2 q3 nf nr F1 F2 F3)(x:Nat):lessN nf (farK R Fa x).isSome+lessN nr (freshK R Fa x).isSome=lessN (nf+nr) (R x).isSome:=by
 have h1:=λq=>h.h1.pos (x:=x) q
 have h2:=λq=>h.h2.pos (x:=x) q
 unfold farK at h1⊢;unfold freshK at h2⊢;unfold lessN;rcases hFa:Fa x with _|_<;>rcases e:R x with _|p<;>simp[hFa,e]at h1 h2⊢<;>omega
theorem CAt.less_more(h:CAt w lb R Fa q1 q2 q3 nf nr F1 F2 F3)(x:Nat):lessN nf (farK R Fa x).isSome+dM nr (freshK R Fa x).isSome=dM (nf+nr) (R x).isSome:=by
 have h1:=λq=>h.h1.pos (x:=x) q
 have h2:=λq=>h.h2.pos (x:=x) q
 unfold farK at h1⊢;unfold freshK at h2⊢;unfold lessN dM;rcases hFa:Fa x with _|_<;>rcases e:R x with _|p<;>simp[hFa,e]at h1 h2⊢<;>omega
theorem vn(h:CC w lb R Fa t F){x:Nat}(hx:okN x):Calls prog 191 #[.pointer (some ⟨lb,6,none⟩),.int .i64 x] w λe w'=>e=.returned (.tuple #[])/\CC w' lb (updKK R x none) Fa (lessN t (R x).isSome) F/\Fr F w w':=by
 obtain⟨q1,q2,q3,nf,nr,F1,F2,F3,h,rfl,hF⟩:=h;refine(us h hx).mono ?_;rintro e w'⟨he,hc,f⟩;exact⟨he,⟨q1,q2,q3,_,_,F1,F2,F3,hc,h.less x,hF⟩,f.mono (λi q=>(hF i).2 q)⟩
theorem El(h:CC w lb R Fa t F){x:Nat}{a b:Int}(hx:okN x)(ha:i64 a)(hb:i64 b)(ht:t<900000):Calls prog 187 #[.pointer (some ⟨lb,6,none⟩),.int .i64 x,.agg #[.int .i64 a,.int .i64 b]] w λe w'=>e=.returned (.tuple #[])/\∃F',CC w' lb (updKK R x (some (a,b))) (updB1 Fa x false) (dM t (R x).isSome) F'/\Fr F w w'/\∀i,F' i->F i\/w.heap.size<=i:=by
 obtain⟨q1,q2,q3,nf,nr,F1,F2,F3,h,rfl,hF⟩:=h;have HC:=Hd h;have HM:=Hd (h.less_more x);have HHF:=Hd hF;have fA:Fr NoF w (w.alloc (.cells #[.int .i64 a,.int .i64 b] 265)):=(Fr.refl NoF w).alloc _
 have bA:Blk (w.alloc (.cells #[.int .i64 a,.int .i64 b] 265)) w.heap.size 2 (λi=>if i=0 then .int .i64 a else .int .i64 b):=Blk.new w _ 265 2 _ _ rfl rfl (λi hi=>by
  match i,hi with
  |0,_=>rfl
  |1,_=>rfl)
 have H0:=Hd (h.fr fA (λ_ _ q=>q) (λ_ _ q=>q) (λ_ _ q=>q) (λq=>q));have HFA:=Hd fA;have HBA:=Hd bA;have hsz:(w.alloc (.cells #[.int .i64 a,.int .i64 b] 265)).heap.size=w.heap.size+1:=by simp
 have hS:=Hd hsz;have H1:=Hd (gE H0.out.h1 hx);have p6:=h.p6;have lt:=h.lt;clear h fA hsz bA hF;go_enter func187,ntmps187
 go_wp2_with fail
 generalize w.alloc (.cells #[.int .i64 a,.int .i64 b] 265)=w0 at*;refine H1.out.mono ?_;rintro e w1⟨rfl,h1,f1⟩;have lt0:=H0.out.lt;have p7:=f1.cell (p:=⟨lb,7,none⟩) lt0 HC.out.n1;rw[H0.out.p7]at p7;have lt1:lb<w1.heap.size:=Nat.lt_of_lt_of_le lt0 f1.size;have hb1:=HBA.out.fr f1 (λq=>by have:=HC.out.h1.lt _ q;omega);have k0:w1.cell? ⟨w.heap.size,0,none⟩=some (.int .i64 a):=hb1.cell (i:=0) (by omega);have k1:w1.cell? ⟨w.heap.size,1,none⟩=some (.int .i64 b):=hb1.cell (i:=1) (by omega);have lk1:=hb1.lt;have HB1:=Hd hb1;have HK1:=Hd h1;have HF1:=Hd f1;have H2:=Hd (oH ((H0.out.h2.fr f1 (λi q q'=>HC.out.d12 i q' q)).fr0 (Fr.refl NoF w1).drew) hx ha hb (by omega));clear h1 f1 p6 hb1 lt;generalize hO1:(farK R Fa x).isSome=o1 at*;have HO1:=Hd hO1;clear hO1
 go_wp2_with fail
 go_still_tail 6,(by kernel_rfl)
 go_wp2_with fail
 refine H2.out.mono ?_;rintro e w2⟨rfl,F2',h2,f2,hF2⟩;have hsz1:=HF1.out.size;have hzz:=HBA.out.lt;have f12:Fr F2 w1 w2:=((Fr.refl F2 w1).drew).trans f2 (λ_ q=>.inl q);have p8:=f12.cell (p:=⟨lb,8,none⟩) lt1 HC.out.n2;rw[HF1.out.cell (p:=⟨lb,8,none⟩) lt0 HC.out.n1,H0.out.p8]at p8;have lt2:lb<w2.heap.size:=Nat.lt_of_lt_of_le lt1 f12.size;have hb2:=HB1.out.fr f12 (λq=>by have:=HC.out.h2.lt _ q;omega);have m1:w2.cell? ⟨w.heap.size,1,none⟩=some (.int .i64 b):=hb2.cell (i:=1) (by omega);have lk2:=hb2.lt;have HK2:=Hd h2;have HF2:=Hd f12;have HG2:=Hd hF2;have i0:i64 0:=i64_in ⟨by omega,by omega⟩;have H3:=Hd (oH ((((H0.out.h3.fr HF1.out (λi q q'=>HC.out.d13 i q' q)).fr f12 (λi q q'=>HC.out.d23 i q' q))).fr0 (Fr.refl NoF w2).drew) hx hb i0 (by omega));clear h2 f2 f12 p7 hb2 hF2 k0 k1 hsz1 hzz;generalize hO2:(freshK R Fa x).isSome=o2 at*;have HO2:=Hd hO2;clear hO2;rw[lc R Fa x,HO2.out]at H3
 go_wp2_with fail
 go_still_tail 8,(by kernel_rfl)
 go_wp2_with fail
 refine H3.out.mono ?_;rintro e w3⟨rfl,F3',h3,f3,hF3⟩;have f23:Fr F3 w2 w3:=((Fr.refl F3 w2).drew).trans f3 (λ_ q=>.inl q);have HK3:=Hd h3;have HF3:=Hd f23;have HG3:=Hd hF3;clear h3 f3 f23 hF3;go_wp2;go_returns;have hf:Fr (λi=>F1 i\/F2 i\/F3 i) w w3:=(((HFA.out.mono (λ_ q=>q.elim)).trans HF1.out (λ_ q=>.inl (.inl q))).trans HF2.out (λ_ q=>.inl (.inr (.inl q)))).trans HF3.out (λ_ q=>.inl (.inr (.inr q)));have gl:¬(F1 lb\/F2 lb\/F3 lb):=λq=>q.elim HC.out.n1 (λq=>q.elim HC.out.n2 HC.out.n3)
 have s1:w.heap.size+1<=w1.heap.size:=by have:=HF1.out.size;have:=HBA.out.lt;omega
 have s2:w1.heap.size<=w2.heap.size:=HF2.out.size;have g2:∀i,F2' i->F2 i\/w1.heap.size<=i:=HG2.out;have g3:∀i,F3' i->F3 i\/w2.heap.size<=i:=HG3.out;have b1:=HC.out.h1.lt;have b2:∀i,F2' i->i<w2.heap.size:=HK2.out.lt;have b3:=HC.out.h3.lt;have bl:=HC.out.lt;refine⟨rfl,λi=>F1 i\/F2' i\/F3' i,⟨q1,q2,q3,_,_,F1,F2',F3',⟨?_,?_,?_,Nat.lt_of_lt_of_le HC.out.lt hf.size,?_,?_,?_,λi q q'=>?_,λi q q'=>?_,λi q q'=>?_,HC.out.n1,λq=>?_,λq=>?_,Fl HC.out.ok x ha hb hx⟩,HM.out,λi=>Iff.rfl⟩,hf.mono (λi q=>(HHF.out i).2 q),λi q=>?_⟩
 .rw[hf.cell (p:=⟨lb,6,none⟩) HC.out.lt gl];exact HC.out.p6
 .rw[hf.cell (p:=⟨lb,7,none⟩) HC.out.lt gl];exact HC.out.p7
 .rw[hf.cell (p:=⟨lb,8,none⟩) HC.out.lt gl];exact HC.out.p8
 .rw[<-zY R Fa x (a,b)];exact(HK1.out.fr HF2.out (HC.out.d12)).fr HF3.out (HC.out.d13)
 .rw[<-kZ];exact HK2.out.fr HF3.out (λi q q'=>(g2 i q).elim (λq=>HC.out.d23 i q q') (λq=>by have:=b3 i q';omega))
 .rw[<-wL];exact HK3.out
 .exact(g2 i q').elim (HC.out.d12 i q) (λz=>by have:=b1 i q;omega)
 .exact(g3 i q').elim (HC.out.d13 i q) (λz=>by have:=b1 i q;omega)
 .rcases g3 i q' with z|z
  .exact(g2 i q).elim (λq=>HC.out.d23 i q z) (λq=>by have:=b3 i z;omega)
  .have:=b2 i q;omega
 .exact(g2 _ q).elim HC.out.n2 (λz=>by omega)
 .exact(g3 _ q).elim HC.out.n3 (λz=>by omega)
 .rcases q with q|q|q
  .exact .inl ((HHF.out i).2 (.inl q))
  .exact(g2 i q).elim (λz=>.inl ((HHF.out i).2 (.inr (.inl z)))) (λz=>.inr (by omega))
  .exact(g3 i q).elim (λz=>.inl ((HHF.out i).2 (.inr (.inr z)))) (λz=>.inr (by omega))
end
end
end Go.Proofs.YtoenclhimbpfeaaGreatDoor
