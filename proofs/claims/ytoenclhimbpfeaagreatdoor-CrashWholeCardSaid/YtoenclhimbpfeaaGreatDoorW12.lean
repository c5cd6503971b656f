/- Part 12. -/
import Derived.Test.YtoenclhimbpfeaaGreatDoorW11
namespace Go.Proofs.YtoenclhimbpfeaaGreatDoor
set_option linter.all false
set_option maxHeartbeats 16000000
set_option maxRecDepth 100000
section
open Go.Maps Go.Proofs.Tryz Go.RowKit
def gT(n k near kept:Nat):LK:=⟨n,k,near,kept,0,λ_=>(false,0),λ_=>none,λ_=>none,λ_=>false,0,[],0⟩
theorem mU:∀n,bo (λ_=>none) n=0
 |0=>rfl
 |n+1=>by unfold bo;rw[mU n];rfl
section
variable{w w':World}
def bw:Nat->Option (Int×Int):=λ_=>none
theorem g9(w:World):Calls prog 48 #[] w λe w'=>∃q1 q2 q3,e=.returned (.agg #[.pointer (some ⟨q1,0,none⟩),.pointer (some ⟨q2,0,none⟩),.pointer (some ⟨q3,0,none⟩)])/\QK w' q1 bw 0 (λi=>i=q1)/\QK w' q2 bw 0 (λi=>i=q2)/\QK w' q3 bw 0 (λi=>i=q3)/\w.heap.size<=q1/\q1<q2/\q2<q3/\Fr NoF w w':=by
 have HQ:Hid (∀W,Calls prog 49 #[] W λe w'=>e=.returned (.pointer (some ⟨W.heap.size,0,none⟩))/\QK w' W.heap.size bw 0 (λi=>i=W.heap.size)/\Fr NoF W w'):=λW=>BE W
 have fA:Fr NoF w (w.alloc (.cells #[.pointer none,.pointer none,.pointer none] 134)):=(Fr.refl NoF w).alloc _
 have bA:Blk (w.alloc (.cells #[.pointer none,.pointer none,.pointer none] 134)) w.heap.size 3 (λ_=>.pointer none):=Blk.new w _ 134 3 _ _ rfl rfl (λi hi=>by
  match i,hi with
  |0,_|1,_|2,_=>rfl)
 have HFA:=Hd fA;have HBA:=Hd bA;have hsz:w.heap.size<(w.alloc (.cells #[.pointer none,.pointer none,.pointer none] 134)).heap.size:=by simp
 have HSA:=Hd hsz;clear fA bA hsz;go_enter func48,ntmps48
 go_wp2_with fail
 generalize w.alloc (.cells #[.pointer none,.pointer none,.pointer none] 134)=wA at*;refine(HQ.out wA).mono ?_;rintro e w1⟨rfl,k1,f1⟩;have K1:=Hd k1;have F1:=Hd f1;clear k1 f1
 go_wp2_with fail
 refine(HQ.out w1).mono ?_;rintro e w2⟨rfl,k2,f2⟩;have K2:=Hd k2;have F2:=Hd f2;clear k2 f2
 go_wp2_with fail
 refine(HQ.out w2).mono ?_;rintro e w3⟨rfl,k3,f3⟩;have K3:=Hd k3;have F3:=Hd f3;have hb3:=(HBA.out.fr F1.out (λq=>q)).fr F2.out (λq=>q)|>.fr f3 (λq=>q)
 have HB3:=Hd hb3;have l3:=hb3.lt;have fz0:=hb3.frozen 0;have fz1:=hb3.frozen 1;have fz2:=hb3.frozen 2;have d0:=hb3.cell (i:=0) (by omega);have d1:=hb3.cell (i:=1) (by omega);have d2:=hb3.cell (i:=2) (by omega);clear k3 f3 hb3;have s0:=Hd HSA.out;have S1:Hid (wA.heap.size<w1.heap.size):=K1.out.lt _ rfl;have S2:Hid (w1.heap.size<w2.heap.size):=K2.out.lt _ rfl;generalize wA.heap.size=g1 at*;generalize w1.heap.size=g2 at*;generalize w2.heap.size=g3 at*;go_wp2
 (try simp only[Exit.inBlock,Exit.then])
 refine bodyPost_ret (eD Tryz.results48 _ _ (((HB3.out.set 0 (.pointer (some ⟨g1,0,none⟩))).set 1 (.pointer (some ⟨g2,0,none⟩))).set 2 (.pointer (some ⟨g3,0,none⟩))) rfl underlying134 rfl (by kernel_rfl)) (by rfl) ?_;have f4:Fr (λi=>i=w.heap.size) w3 (((w3.setCell ⟨w.heap.size,0,none⟩ (.pointer (some ⟨g1,0,none⟩))).setCell ⟨w.heap.size,1,none⟩ (.pointer (some ⟨g2,0,none⟩))).setCell ⟨w.heap.size,2,none⟩ (.pointer (some ⟨g3,0,none⟩))):=(((Fr.refl (λi=>i=w.heap.size) w3).setCell (p:=⟨w.heap.size,0,none⟩) (.inl rfl) _).setCell (p:=⟨w.heap.size,1,none⟩) (.inl rfl) _).setCell (p:=⟨w.heap.size,2,none⟩) (.inl rfl) _;have a0:=s0.out;have a1:=S1.out;have a2:=S2.out;refine⟨g1,g2,g3,rfl,((K1.out.fr0 F2.out).fr0 F3.out).fr f4 (λi q e=>by omega),(K2.out.fr0 F3.out).fr f4 (λi q e=>by omega),K3.out.fr f4 (λi q e=>by omega),by omega,a1,a2,(((HFA.out.trans F1.out (λ_ q=>q.elim)).trans F2.out (λ_ q=>q.elim)).trans F3.out (λ_ q=>q.elim)).trans f4 (λi q=>.inr (by omega))⟩
theorem wj(Fa:Nat->Bool):farK (λ_=>none) Fa=bw:=by funext x;unfold farK bw;split<;>rfl
theorem jI(Fa:Nat->Bool):freshK (λ_=>none) Fa=bw:=by funext x;unfold freshK bw;split<;>rfl
theorem sY(Fa:Nat->Bool):bP (λ_=>none) Fa=bw:=by funext x;unfold bP;rw[jI];rfl
theorem EG{n k near kept lb fb mb q1 q2 q3 q4:Nat}(hn:1<=n/\n<=65535)(hk:1<=k/\k<=8)(hr:near<=1000000)(hp:kept<=65535)(hb:Blk w lb 11 (lC (gT n k near kept) fb mb q1 q2 q3 q4))(hf:Blk w fb (2*n) (jc λ_=>(false,0)))(hm:MpV prog 34 .u32 bC w mb 0 (λ_=>none))
  (k1:QK w q1 bw 0 (λi=>i=q1))(k2:QK w q2 bw 0 (λi=>i=q2))(k3:QK w q3 bw 0 (λi=>i=q3))(k4:QK w q4 bw 0 (λi=>i=q4))
  (d1:¬fb=lb/\¬mb=lb/\¬mb=fb)(d2:¬q1=lb/\¬q1=fb/\¬q1=mb)(d3:¬q2=lb/\¬q2=fb/\¬q2=mb)(d4:¬q3=lb/\¬q3=fb/\¬q3=mb)(d5:¬q4=lb/\¬q4=fb/\¬q4=mb)(d6:q1<q2/\q2<q3/\¬q4=q1/\¬q4=q2/\¬q4=q3):
  LM w lb (gT n k near kept) fb mb q1 q2 q3 q4 0 (λi=>i=q1\/i=q2\/i=q3) (λi=>i=q4):=by
 refine⟨hb,hf,?_,⟨q1,q2,q3,0,0,λi=>i=q1,λi=>i=q2,λi=>i=q3,⟨hb.cell (i:=6) (by omega),hb.cell (i:=7) (by omega),hb.cell (i:=8) (by omega),hb.lt,?_,?_,?_,λi q e=>by omega,λi q e=>by omega,λi q e=>by omega,λq=>d2.1 q.symm,λq=>d3.1 q.symm,λq=>d4.1 q.symm,λx a b q=>by cases q⟩,rfl,λi=>Iff.rfl⟩,?_,d1.1,d1.2.1,d1.2.2,λq=>by omega,λq=>by omega,λq=>by omega,λq=>by omega,λq=>by omega,λi q e=>by omega,Nat.le_refl _,⟨hn,hk,hr,hp,λi=>(show(0:Nat)<4294967296 by omega),λx p q=>(by cases q),(mU n).symm,λp q=>(by cases q),Nat.le_refl _,List.Pairwise.nil⟩⟩
 .have e:psM (gT n k near kept).P=λ_=>none:=by funext z;unfold psM;split<;>rfl
  rw[e];exact hm
 .rw[show farK (gT n k near kept).R (gT n k near kept).Fa=bw from wj _];exact k1
 .rw[show freshK (gT n k near kept).R (gT n k near kept).Fa=bw from jI _];exact k2
 .rw[show bP (gT n k near kept).R (gT n k near kept).Fa=bw from sY _];exact k3
 .have e:bb (gT n k near kept).Old=bw:=rfl
  rw[e];exact k4
theorem Av{X wz:World}{n k near kept lb fb mb q1 q2 q3 q4:Nat}(hz:wz=X.alloc (.cells #[.int .i64 k,.int .i64 near,.int .i64 kept,.int .i64 0,.slice (some ⟨fb,0,none⟩) n n,.map (some mb),.pointer (some ⟨q1,0,none⟩),.pointer (some ⟨q2,0,none⟩),.pointer (some ⟨q3,0,none⟩),.pointer (some ⟨q4,0,none⟩),.int .i64 0] 138))(hlb:lb=X.heap.size)
  (hn:1<=n/\n<=65535)(hk:1<=k/\k<=8)(hr:near<=1000000)(hp:kept<=65535)(hf:Blk X fb (2*n) (jc λ_=>(false,0)))(hm:MpV prog 34 .u32 bC X mb 0 (λ_=>none))
  (k1:QK X q1 bw 0 (λi=>i=q1))(k2:QK X q2 bw 0 (λi=>i=q2))(k3:QK X q3 bw 0 (λi=>i=q3))(k4:QK X q4 bw 0 (λi=>i=q4))(f:Fr NoF w X)
  (d:¬mb=fb/\¬q1=fb/\¬q1=mb/\¬q2=fb/\¬q2=mb/\¬q3=fb/\¬q3=mb/\¬q4=fb/\¬q4=mb/\q1<q2/\q2<q3/\¬q4=q1/\¬q4=q2/\¬q4=q3)(lo:w.heap.size<=fb/\w.heap.size<=mb/\w.heap.size<=q1/\w.heap.size<=q4):
  ∃lb' fb mb q1 q2 q3 q4 FC F4,Ending.returned (.tuple #[.pointer (some ⟨lb,0,none⟩),.int .i64 0])=.returned (.tuple #[.pointer (some ⟨lb',0,none⟩),.int .i64 0])/\LM wz lb' (gT n k near kept) fb mb q1 q2 q3 q4 0 FC F4/\(∀i,LFK lb' fb mb FC F4 i->w.heap.size<=i)/\Fr NoF w wz:=by
 subst hz;subst hlb;have a1:=hf.lt;have a2:=hm.lt;have a3:=k1.lt _ rfl;have a4:=k2.lt _ rfl;have a5:=k3.lt _ rfl;have a6:=k4.lt _ rfl;have fz:=(Fr.refl NoF X).alloc (.cells #[.int .i64 k,.int .i64 near,.int .i64 kept,.int .i64 0,.slice (some ⟨fb,0,none⟩) n n,.map (some mb),.pointer (some ⟨q1,0,none⟩),.pointer (some ⟨q2,0,none⟩),.pointer (some ⟨q3,0,none⟩),.pointer (some ⟨q4,0,none⟩),.int .i64 0] 138);refine⟨_,fb,mb,q1,q2,q3,q4,_,_,rfl,EG hn hk hr hp (Blk.new X _ _ 11 _ _ rfl rfl (λi hi=>?_)) (hf.alloc _) (hm.alloc _) (k1.fr0 fz) (k2.fr0 fz) (k3.fr0 fz) (k4.fr0 fz) ⟨by omega,by omega,d.1⟩ ⟨by omega,d.2.1,d.2.2.1⟩ ⟨by omega,d.2.2.2.1,d.2.2.2.2.1⟩ ⟨by omega,d.2.2.2.2.2.1,d.2.2.2.2.2.2.1⟩ ⟨by omega,by omega,by omega⟩ (by omega),λi q=>?_,f.trans fz (λ_ q=>q.elim)⟩
 .match i,hi with
  |0,_|1,_|2,_|3,_|4,_|5,_|6,_|7,_|8,_|9,_|10,_=>rfl
 .have:=f.size
  rcases q with q|q|q|(q|q|q)|q<;>omega
theorem AZ{w:World}{b c:Nat}{m:Int->Option Value}(h:MpV prog 34 .u32 bC w b c m):MpV prog 34 .u32 bC w.drew b c m:=h.ofHeap rfl
theorem kn{a b c:World}(h:Fr NoF a b)(k:Fr NoF b c):Fr NoF a c:=h.trans k (λ_ q=>q.elim)
theorem Cv(w:World):Calls prog 49 #[] w λe w'=>∃q4,q4=w.heap.size/\e=.returned (.pointer (some ⟨q4,0,none⟩))/\QK w' q4 bw 0 (λi=>i=q4)/\Fr NoF w w':=
 (BE w).mono λe w' ⟨he,h,f⟩=>⟨_,rfl,he,h,f⟩
theorem CG{w:World}{b:Nat}(hb:b=w.heap.size):MpV prog 34 .u32 bC (w.alloc (.map #[] 0)) b 0 (λ_=>none):=by
 subst hb;exact MpV.made _ _ _ _ _
theorem An{w:World}{n b:Nat}(hb:b=w.heap.size):Blk (w.alloc (.cells (madeCells #[.bool false,.int .u32 0] (n*2)) 258)) b (2*n) (jc λ_=>(false,0)):=by
 refine Blk.new w _ _ _ _ _ hb (by rw[size_madeCells,Nat.mul_comm]) (λi hi=>?_);rw[du (by omega)];unfold jc;by_cases e:i%2=0
 .rw[if_pos e];show some (#[Value.bool false,.int .u32 0][i%2]!)=_;rw[e];rfl
 .rw[if_neg e];show some (#[Value.bool false,.int .u32 0][i%2]!)=_;rw[show i%2=1 from by omega];rfl
theorem zn(n k near kept:Nat)(w:World)(hn:1<=n/\n<=65535)(hk:1<=k/\k<=8)(hr:near<=1000000)(hp:kept<=65535):Calls prog 27 #[.int .i64 n,.int .i64 k,.int .i64 near,.int .i64 kept] w λe w'=>∃lb fb mb q1 q2 q3 q4 FC F4,e=.returned (.tuple #[.pointer (some ⟨lb,0,none⟩),.int .i64 0])/\LM w' lb (gT n k near kept) fb mb q1 q2 q3 q4 0 FC F4/\(∀i,LFK lb fb mb FC F4 i->w.heap.size<=i)/\Fr NoF w w':=by
 obtain⟨i0,hi0,hz0,hz1,hz2⟩:=bq (P:=prog) (e:=258) (z:=.agg #[.bool false,.int .u32 0]) (s:=2) (b:=8) (by kernel_rfl)
 have mk1:∀(w:World),(Instr.makeSlice 130 (.int .i64 (n:Int)) (.int .i64 (n:Int))).run prog w=
   .ok (.slice (some ⟨w.heap.size,0,none⟩) n n) (w.alloc (.cells (madeCells #[.bool false,.int .u32 0] (n*2)) 258)):=by
  intro w;have:=run_make (P:=prog) w 130 258 i0 _ underlying130 hi0 hz0 .i64 .i64 (n:Int) (n:Int) (by omega) (Int.le_refl _) (by rw[hz2];omega) (by omega);rw[show(n:Int).toNat=n from by omega,hz1]at this;exact this
 have hmm:=@run_makeMap prog;have g1:decide ((n:Int)<1)=false:=by simp;omega
 have g2:decide (65535<(n:Int))=false:=by simp;omega
 have g3:decide ((k:Int)<1)=false:=by simp;omega
 have g4:decide (8<(k:Int))=false:=by simp;omega
 have g5:decide ((near:Int)<0)=false:=by simp
 have g6:decide (1000000<(near:Int))=false:=by simp;omega
 have g7:decide ((kept:Int)<0)=false:=by simp
 have g8:decide (65535<(kept:Int))=false:=by simp;omega
 clear hi0 hz0 hz1 hz2;have HNN:=Hd (And.intro hn hk);have HRP:=Hd (And.intro hr hp);clear hn hk hr hp;go_enter func27,ntmps27
 go_upto_region 6 with fail
 clear g1 g2 g3 g4 g5 g6 g7 g8
 go_region_held3(λw'=>True)
  (trivial)
  (first
  |(go_at_call 48;(refine(g9 _).mono ?_);rintro e wK⟨q1,q2,q3,rfl,k1,k2,k3,b1,b2,b3,fK⟩;have K1:=Hd k1;have K2:=Hd k2;have K3:=Hd k3;have B1:=Hd b1;have B2:=Hd b2;have B3:=Hd b3;have FK:=Hd fK;clear k1 k2 k3 b1 b2 b3 fK)
  |(go_at_call 49;(refine(Cv _).mono ?_);rintro e wQ⟨q4,hq4,rfl,k4,fQ⟩;have K4:=Hd k4;have FQ:=Hd fQ;have HQ4:=Hd hq4;clear k4 fQ hq4))
 all_goals
  (go_wp2_with fail
   go_returns;have a1:=B1.out;have a2:=B2.out;have a3:=B3.out;have a4:=K3.out.lt _ rfl;have a5:=K4.out.lt _ rfl;have a6:=FK.out.size;have a7:=FQ.out.size;have a8:=HQ4.out
   (try simp at a1)
   (try simp at a5)
   (try simp at a6)
   (try simp at a7)
   (try simp at a8)
   refine Av rfl (by first|rfl|simp) HNN.out.1 HNN.out.2 HRP.out.1 HRP.out.2
    (by repeat(first|((with_reducible refine An ?_);first|rfl|simp)|(with_reducible refine Blk.alloc ?_ _)|(with_reducible refine Blk.drew ?_)|(with_reducible refine Blk.fr ?_ FQ.out (λq=>q))|(with_reducible refine Blk.fr ?_ FK.out (λq=>q))))
    (by repeat(first|((with_reducible refine CG ?_);first|rfl|simp)|(with_reducible refine MpV.alloc ?_ _)|(with_reducible refine AZ ?_)|(with_reducible refine MpV.fr ?_ FQ.out (λq=>q))|(with_reducible refine MpV.fr ?_ FK.out (λq=>q))))
    (QK.fr0 K1.out (by repeat(first|(with_reducible exact Fr.refl NoF _)|(with_reducible refine Fr.alloc ?_ _)|(with_reducible refine Fr.drew ?_)|(with_reducible refine kn ?_ FQ.out))))
    (QK.fr0 K2.out (by repeat(first|(with_reducible exact Fr.refl NoF _)|(with_reducible refine Fr.alloc ?_ _)|(with_reducible refine Fr.drew ?_)|(with_reducible refine kn ?_ FQ.out))))
    (QK.fr0 K3.out (by repeat(first|(with_reducible exact Fr.refl NoF _)|(with_reducible refine Fr.alloc ?_ _)|(with_reducible refine Fr.drew ?_)|(with_reducible refine kn ?_ FQ.out))))
    (QK.fr0 K4.out (by repeat(first|(with_reducible exact Fr.refl NoF _)|(with_reducible refine Fr.alloc ?_ _)|(with_reducible refine Fr.drew ?_))))
    (by repeat(first|(with_reducible exact Fr.refl NoF _)|(with_reducible refine Fr.alloc ?_ _)|(with_reducible refine Fr.drew ?_)|(with_reducible refine kn ?_ FQ.out)|(with_reducible refine kn ?_ FK.out)))
    (by first|omega|(simp;omega)) (by first|omega|(simp;omega)))
end
def CRL(w:World)(lb:Nat)(S:LK)(F:Nat->Prop):Prop:=∃fb mb q1 q2 q3 q4 ne FC F4,LM w lb S fb mb q1 q2 q3 q4 ne FC F4/\∀i,F i↔LFK lb fb mb FC F4 i
section
variable{w w':World}{lb:Nat}{S:LK}{F:Nat->Prop}
theorem CRL.fr(h:CRL w lb S F){G:Nat->Prop}(f:Fr G w w')(g:∀i,F i->¬G i):CRL w' lb S F:=by
 obtain⟨fb,mb,q1,q2,q3,q4,ne,FC,F4,h,hF⟩:=h;exact⟨fb,mb,q1,q2,q3,q4,ne,FC,F4,h.fr f (λi q=>g i ((hF i).2 q)),hF⟩
theorem CRL.lt(h:CRL w lb S F):∀i,F i->i<w.heap.size:=by
 obtain⟨fb,mb,q1,q2,q3,q4,ne,FC,F4,h,hF⟩:=h;exact λi q=>h.lt i ((hF i).1 q)
theorem LFK.grown{lb fb mb:Nat}{FC F4 FC' F4':Nat->Prop}(h1:∀i,FC' i->FC i\/w.heap.size<=i)(h2:∀i,F4' i->F4 i\/w.heap.size<=i):∀i,LFK lb fb mb FC' F4' i->LFK lb fb mb FC F4 i\/w.heap.size<=i:=by
 intro i q;rcases q with q|q|q|q|q
 .exact .inl (.inl q)
 .exact .inl (.inr (.inl q))
 .exact .inl (.inr (.inr (.inl q)))
 .exact(h1 i q).elim (λz=>.inl (.inr (.inr (.inr (.inl z))))) .inr
 .exact(h2 i q).elim (λz=>.inl (.inr (.inr (.inr (.inr z))))) .inr
theorem tE(h:CRL w lb S F){at' page:Nat}(ha:at'<S.n)(hp:okN page)(hT:S.T<900000):Calls prog 176 #[.pointer (some ⟨lb,0,none⟩),.int .i64 at',.int .u32 page] w λe w'=>e=.returned (.tuple #[])/\∃F',CRL w' lb (accS S at' page) F'/\Fr F w w'/\∀i,F' i->F i\/w.heap.size<=i:=by
 obtain⟨fb,mb,q1,q2,q3,q4,ne,FC,F4,h,hF⟩:=h;refine(oD h ha hp hT).mono ?_;rintro e w'⟨he,ne',FC',F4',h',f,g1,g2⟩;exact⟨he,LFK lb fb mb FC' F4',⟨fb,mb,q1,q2,q3,q4,ne',FC',F4',h',λi=>Iff.rfl⟩,f.mono (λi q=>(hF i).2 q),λi q=>(LFK.grown g1 g2 i q).elim (λz=>.inl ((hF i).2 z)) .inr⟩
theorem CA(h:CRL w lb S F){at':Nat}(ha:at'<S.n)(hfu:(S.fr at').1=true)(hT:S.T<1000000)(on:Bool):Calls prog 180 #[.pointer (some ⟨lb,0,none⟩),.int .i64 at',.bool on] w λe w'=>e=.returned (.tuple #[])/\∃F',CRL w' lb (setS S at' on) F'/\Fr F w w'/\∀i,F' i->F i\/w.heap.size<=i:=by
 obtain⟨fb,mb,q1,q2,q3,q4,ne,FC,F4,h,hF⟩:=h;refine(sR h ha hfu hT on).mono ?_;rintro e w'⟨he,FC',h',f,g1⟩;exact⟨he,LFK lb fb mb FC' F4,⟨fb,mb,q1,q2,q3,q4,ne,FC',F4,h',λi=>Iff.rfl⟩,f.mono (λi q=>(hF i).2 q),λi q=>(LFK.grown g1 (λi q=>.inl q) i q).elim (λz=>.inl ((hF i).2 z)) .inr⟩
theorem sT(h:CRL w lb S F)(h0:0<S.t)(page:Int)(hT:S.T<1000000)(hg:S.gone<800000)(hdom:∀x,(S.R x).isSome=true->x<S.n/\bb S.Old (S.fr x).2=none):Calls prog 182 #[.pointer (some ⟨lb,0,none⟩),.int .u32 page] w λe w'=>∃x:Nat,e=.returned (.tuple #[.int .i64 x,.bool true])/\∃Fb F',mj S.R S.Fa Fb ((S.T:Int)-S.near)/\bj S.R Fb x/\CRL w' lb (vicS S x Fb) F'/\Fr F w w'/\∀i,F' i->F i\/w.heap.size<=i:=by
 obtain⟨fb,mb,q1,q2,q3,q4,ne,FC,F4,h,hF⟩:=h;refine(re h h0 page hT hg hdom).mono ?_;rintro e w'⟨x,he,Fb,ne',FC',F4',ha,hl,h',f,g1,g2⟩;exact⟨x,he,Fb,LFK lb fb mb FC' F4',ha,hl,⟨fb,mb,q1,q2,q3,q4,ne',FC',F4',h',λi=>Iff.rfl⟩,f.mono (λi q=>(hF i).2 q),λi q=>(LFK.grown g1 g2 i q).elim (λz=>.inl ((hF i).2 z)) .inr⟩
theorem De(n k near kept:Nat)(w:World)(hn:1<=n/\n<=65535)(hk:1<=k/\k<=8)(hr:near<=1000000)(hp:kept<=65535):Calls prog 27 #[.int .i64 n,.int .i64 k,.int .i64 near,.int .i64 kept] w λe w'=>∃lb F,e=.returned (.tuple #[.pointer (some ⟨lb,0,none⟩),.int .i64 0])/\CRL w' lb (gT n k near kept) F/\(∀i,F i->w.heap.size<=i)/\Fr NoF w w':=by
 refine(zn n k near kept w hn hk hr hp).mono ?_;rintro e w'⟨lb,fb,mb,q1,q2,q3,q4,FC,F4,he,h,g,f⟩;exact⟨lb,LFK lb fb mb FC F4,he,⟨fb,mb,q1,q2,q3,q4,0,FC,F4,h,λi=>Iff.rfl⟩,g,f⟩
variable{w0:World}
end
section
variable{w w':World}{lb fb mb q1 q2 q3 q4 ne:Nat}{S:LK}{FC F4:Nat->Prop}
theorem lV(h:LM w lb S fb mb q1 q2 q3 q4 ne FC F4){at':Nat}(ha:at'<S.n)(hfu:(S.fr at').1=true):Calls prog 179 #[.pointer (some ⟨lb,0,none⟩),.int .i64 at'] w λe w'=>e=.returned (.tuple #[])/\∃ne',LM w' lb (remvS S at') fb mb q1 q2 q3 q4 ne' FC F4/\Fr (LFK lb fb mb FC F4) w w':=by
 have HI:=Hd (kS h ha);rw[hfu]at HI;have HE:=Hd (ik h ha);have HA:Hid (at'<S.n):=ha;have lt:=h.blk.lt;obtain⟨PG,hPG⟩:∃PG,PG=(S.fr at').2:=⟨_,rfl⟩;have hpk:okN PG:=by rw[hPG];exact h.ok.fr at'
 have hwf:=nV hpk;have HPG:=Hd hPG;have ha1:(at':Int)<S.n:=by omega
 have ha0:0<=(at':Int):=by omega
 clear h hfu ha hPG hpk;go_enter func179,ntmps179
 go_wp2_with fail
 refine HI.out.mono ?_;rintro e w1⟨rfl,rfl⟩
 go_wp2_with fail
 refine HE.out.mono ?_;rintro e w2⟨rfl,h2,f2⟩;have c4:w2.cell? ⟨lb,4,none⟩=some (.slice (some ⟨fb,0,none⟩) S.n S.n):=h2.ce 4 (by omega);have c5:w2.cell? ⟨lb,5,none⟩=some (.map (some mb)):=h2.ce 5 (by omega)
 have pgc:w2.cell? ⟨fb,at'*2+1,none⟩=some (.int .u32 (PG:Nat)):=by
  have:=h2.page (at':=at') HA.out;rw[show((dd S.fr at' (false,(S.fr at').2)) at').2=(S.fr at').2 from by rw[dc],<-HPG.out]at this;exact this
 have lt:=h2.blk.lt;have lf:=h2.frs.lt;have hd:=h2.fr0 ((Fr.refl NoF w2).drew);have HD:=Hd hd;have HF2:=Hd f2;clear h2 f2 hd HI HE
 go_wp2_with fail
 go_still_tail 12,(by kernel_rfl)
 change wpList _ _ _ _ _ w2.drew;generalize hwd:w2.drew=wD at*;have HWD:=Hd hwd;clear hwd
 go_wp2_with(at_delete;go_must(refine uQ MVp HD.out.mp rfl _ _ rfl (by rfl) (by rfl) hwf ?_);intro w6 m1 m2;have KK:=Hd (HD.out.forget m1 m2);have KF:=Hd m2;clear m1 m2)
 go_returns
 have f3:Fr (LFK lb fb mb FC F4) w wD:=by
  rw[<-HWD.out]
  exact(HF2.out.mono (λi q=>by
   rcases q with q|q
   .exact .inr (.inl q)
   .exact .inr (.inr (.inr (.inl q))))).drew
 have hk:=KK.out;have er:remvS S at'={S with fr:=dd S.fr at' (false,(S.fr at').2),R:=updKK S.R at' none,t:=lessN S.t (S.R at').isSome,P:=gO S.P PG none}:=by unfold remvS;rw[<-HPG.out]
 rw[er];exact⟨rfl,⟨_,hk⟩,f3.trans KF.out (λi q=>.inl (.inr (.inr (.inl q))))⟩
theorem sr{F:Nat->Prop}(h:CRL w lb S F){at':Nat}(ha:at'<S.n)(hfu:(S.fr at').1=true):Calls prog 179 #[.pointer (some ⟨lb,0,none⟩),.int .i64 at'] w λe w'=>e=.returned (.tuple #[])/\∃F',CRL w' lb (remvS S at') F'/\Fr F w w'/\∀i,F' i->F i\/w.heap.size<=i:=by
 obtain⟨fb,mb,q1,q2,q3,q4,ne,FC,F4,h,hF⟩:=h;refine(lV h ha hfu).mono ?_;rintro e w'⟨he,ne',h',f⟩;exact⟨he,F,⟨fb,mb,q1,q2,q3,q4,ne',FC,F4,h',hF⟩,f.mono (λi q=>(hF i).2 q),λi q=>.inl q⟩
theorem lZ{F:Nat->Prop}(h:CRL w lb S F)(h0:S.t=0)(page:Int):Calls prog 182 #[.pointer (some ⟨lb,0,none⟩),.int .u32 page] w λe w'=>e=.returned (.tuple #[.int .i64 0,.bool false])/\Fr NoF w w':=by
 obtain⟨fb,mb,q1,q2,q3,q4,ne,FC,F4,h,hF⟩:=h;exact rJ h h0 page
end
end
section
open Go.Maps Go.RowKit
def farOf(S:LK):Nat->Bool:=λx=>match S.R x with|some p=>decide (p.2<=(S.T:Int)-S.near)|none=>false
def Goes(S:LK)(x:Nat):Prop:=bj S.R (farOf S) x
theorem fH.one{K:Nat->Option (Int×Int)}{x y:Nat}(hx:fH K x)(hy:fH K y):x=y:=by
 obtain⟨a,b,h1,h2⟩:=hx;obtain⟨c,d,h3,h4⟩:=hy;have:=h2 y c d h3;have:=h4 x a b h1;omega
theorem bj.one{R:Nat->Option (Int×Int)}{Fb:Nat->Bool}{x y:Nat}(hx:bj R Fb x)(hy:bj R Fb y):x=y:=by
 rcases hx with hx|⟨hx,hx2⟩
 .rcases hy with hy|⟨hy,_⟩
  .exact hx.one hy
  .obtain⟨a,b,h,_⟩:=hx
   rw[hy x]at h;cases h
 .rcases hy with hy|⟨_,hy⟩
  .obtain⟨a,b,h,_⟩:=hy
   rw[hx y]at h;cases h
  .exact hx2.one hy
theorem zJ{R:Nat->Option (Int×Int)}{Fa Fb:Nat->Bool}(h:∀x,(R x).isSome=true->Fa x=Fb x):farK R Fa=farK R Fb:=by
 funext x
 unfold farK
 cases e:R x with
 |none=>simp
 |some p=>rw[h x (by rw[e];rfl)]
theorem s7{R:Nat->Option (Int×Int)}{Fa Fb:Nat->Bool}(h:∀x,(R x).isSome=true->Fa x=Fb x):freshK R Fa=freshK R Fb:=by
 funext x
 unfold freshK
 cases e:R x with
 |none=>simp
 |some p=>rw[h x (by rw[e];rfl)]
theorem bj.same{R:Nat->Option (Int×Int)}{Fa Fb:Nat->Bool}(h:∀x,(R x).isSome=true->Fa x=Fb x){x:Nat}(hx:bj R Fa x):bj R Fb x:=by
 unfold bj at*;rw[<-zJ h,<-s7 h];exact hx
def je(S:LK)(Fa:Nat->Bool):Prop:=∀x a b,S.R x=some (a,b)->Fa x=true->b<=(S.T:Int)-S.near
theorem Br{S:LK}{Fa Fb:Nat->Bool}(h:je S Fa)(ha:mj S.R Fa Fb ((S.T:Int)-S.near)):∀x,(S.R x).isSome=true->Fb x=farOf S x:=by
 intro x hx;unfold farOf
 cases e:S.R x with
 |none=>rw[e]at hx;cases hx
 |some p=>
  obtain⟨a,b⟩:=p;have h1:=ha x a b e;have h2:=h x a b e;simp only;by_cases hb:b<=(S.T:Int)-S.near
  .rw[h1.2 (.inr hb)];simp[hb]
  .have:Fb x≠true:=λq=>(h1.1 q).elim (λq=>hb (h2 q)) hb
   rw[Bool.eq_false_iff.2 this];simp[hb]
open Classical in
noncomputable def fL:Pol LK where
 miss s _:=s
 access s f id:={accS s f id with Fa:=λ_=>false}
 set s f on:={setS s f on with Fa:=λ_=>false}
 victim s _:=if s.t=0 then none else if h:∃x,Goes s x then some h.choose else none
 gone s _:=if h:∃x,Goes s x then{vicS s h.choose s.Fa with Fa:=λ_=>false}else s
 remove s f:={remvS s f with Fa:=λ_=>false}
 size s:=s.t
 ghosts s:=s.Old.map (·.1)
open Classical in
theorem dQ{s:LK}{x page:Nat}(h0:0<s.t)(hx:Goes s x):fL.victim s page=some x/\fL.gone s page={vicS s x s.Fa with Fa:=λ_=>false}:=by
 have he:∃x,Goes s x:=⟨x,hx⟩;have e1:he.choose=x:=he.choose_spec.one hx;constructor
 .show(if s.t=0 then none else if h:∃x,Goes s x then some h.choose else none)=some x
  rw[if_neg (by omega),dif_pos he,e1]
 .show(if h:∃x,Goes s x then({vicS s h.choose s.Fa with Fa:=λ_=>false}:LK)else s)=_
  rw[dif_pos he,e1]
def CR5(lb:Nat)(w:World)(s:LK)(F:Nat->Prop):Prop:=s.gone<800000/\∃Fa,je s Fa/\CRL w lb {s with Fa:=Fa} F
def GD(s:LK)(c:Cl):Prop:=
 (c.kind=1->c.frame<s.n/\okN c.page/\s.T<900000)/\(c.kind=2->c.frame<s.n/\(s.fr c.frame).1=true/\s.T<1000000)/\
 (c.kind=3->s.T<1000000/\s.gone+1<800000/\∀x,(s.R x).isSome=true->x<s.n/\bb s.Old (s.fr x).2=none)/\(c.kind=4->c.frame<s.n/\(s.fr c.frame).1=true)
theorem Eq(s:LK)(Fa:Nat->Bool)(f p:Nat):accS {s with Fa:=Fa} f p={accS s f p with Fa:=(accS {s with Fa:=Fa} f p).Fa}:=by
 unfold accS dG touS bH
 split<;>split<;>rfl
theorem E9(s:LK)(Fa:Nat->Bool)(f:Nat)(on:Bool):setS {s with Fa:=Fa} f on={setS s f on with Fa:=(setS {s with Fa:=Fa} f on).Fa}:=by
 unfold setS
 split
 .rfl
 .split<;>rfl
theorem ES{S:LK}{Fa:Nat->Bool}(h:je S Fa)(f:Nat):je (dG S f) (dG {S with Fa:=Fa} f).Fa:=by
 unfold dG;by_cases hR:(S.R f).isSome=true
 case neg=>rw[if_neg hR,if_neg (show¬(S.R f).isSome=true from hR)];exact h
 case pos=>
  rw[if_pos hR,if_pos (show(S.R f).isSome=true from hR)];intro x a b hx hf;by_cases e:x=f
  .subst e
   have:updB1 Fa x false x=true:=hf;rw[gZ]at this
   cases this
  .have h1:S.R x=some (a,b):=by rw[<-ao S.R _ e];exact hx
   have h2:Fa x=true:=by rw[<-fG Fa false e];exact hf
   exact h x a b h1 h2
theorem EV{s:LK}{Fa:Nat->Bool}(h:je s Fa)(f p:Nat):je (accS s f p) (accS {s with Fa:=Fa} f p).Fa:=by
 have h1:je (bH s f p) Fa:=by unfold bH;split<;>exact h
 have h2:je (touS (bH s f p) ((bH s f p).fr f).2) Fa:=λx a b hx hf=>by
  have:=h1 x a b hx hf
  show b<=(((bH s f p).T+1:Nat):Int)-(bH s f p).near
  omega
 have e:accS {s with Fa:=Fa} f p=dG {touS (bH s f p) ((bH s f p).fr f).2 with Fa:=Fa} f:=by
  unfold accS bH
  split<;>rfl
 rw[e];exact ES h2 f
theorem B9{s:LK}{Fa:Nat->Bool}(h:je s Fa)(f:Nat)(on:Bool):je (setS s f on) (setS {s with Fa:=Fa} f on).Fa:=by
 unfold setS;by_cases hR:(s.R f).isSome=on
 .rw[if_pos hR,if_pos (show(s.R f).isSome=on from hR)];exact h
 .rw[if_neg hR,if_neg (show¬(s.R f).isSome=on from hR)]
  cases on with
  |true=>
   intro x a b hx hf;by_cases e:x=f
   .subst e
    have:updB1 Fa x false x=true:=hf;rw[gZ]at this
    cases this
   .have h1:s.R x=some (a,b):=by rw[<-ao s.R _ e];exact hx
    have h2:Fa x=true:=by rw[<-fG Fa false e];exact hf
    exact h x a b h1 h2
  |false=>
   intro x a b hx hf;by_cases e:x=f
   .subst e
    have:updKK s.R x none x=some (a,b):=hx;rw[az]at this
    cases this
   .have h1:s.R x=some (a,b):=by rw[<-ao s.R none e];exact hx
    exact h x a b h1 hf
theorem vt{s:LK}{Fa:Nat->Bool}(h:je s Fa)(f:Nat){S':LK}(hR:S'.R=updKK s.R f none)(hT:S'.T=s.T)(hn:S'.near=s.near):je S' Fa:=by
 intro x a b hx hf;rw[hR]at hx;rw[hT,hn];by_cases e:x=f
 .subst e;rw[az]at hx;cases hx
 .rw[ao _ _ e]at hx;exact h x a b hx hf
theorem ze(s:LK)(f p:Nat):(accS s f p).gone=s.gone:=by unfold accS dG touS bH;split<;>split<;>rfl
theorem AG(s:LK)(f:Nat)(on:Bool):(setS s f on).gone=s.gone:=by
 unfold setS
 split
 .rfl
 .split<;>rfl
theorem mY(s:LK)(x:Nat)(Fb:Nat->Bool):(vicS s x Fb).R=updKK s.R x none/\(vicS s x Fb).T=s.T/\(vicS s x Fb).near=s.near/\(vicS s x Fb).gone=s.gone+1/\(vicS s x Fb).Fa=Fb/\∀Fc,vicS {s with Fa:=Fc} x Fb=vicS s x Fb:=by
 unfold vicS yg;refine⟨?_,?_,?_,?_,?_,λFc=>?_⟩
 .split<;>rfl
 .split<;>rfl
 .split<;>rfl
 .split<;>rfl
 .split<;>rfl
 .rfl
theorem v6'(s:LK)(x:Nat)(Fa Fb:Nat->Bool):vicS {s with Fa:=Fa} x Fb=vicS s x Fb:=rfl
theorem leastK_upto(K:Nat->Option (Int×Int)):∀m:Nat,(∀x,x<m->K x=none)\/∃x a b,x<m/\K x=some (a,b)/\∀y c d,y<m->K y=some (c,d)->a<c\/(a=c/\(b<d\/(b=d/\x<=y)))
 |0=>.inl (λx h=>by omega)
 |m+1=>by
  cases e:K m with
  |none=>
   rcases leastK_upto K m with h|⟨x,a,b,hx,h1,h2⟩
   .exact .inl (λx hx=>by
     by_cases q:x=m
     .rw[q];exact e
     .exact h x (by omega))
   .exact .inr ⟨x,a,b,by omega,h1,λy c d hy hk=>by
     by_cases q:y=m
     .rw[q,e]at hk;cases hk
     .exact h2 y c d (by omega) hk⟩
  |some p=>
   obtain⟨u,v⟩:=p;rcases leastK_upto K m with h|⟨x,a,b,hx,h1,h2⟩
   .exact .inr ⟨m,u,v,by omega,e,λy c d hy hk=>by
     by_cases q:y=m
     .subst q;rw[e]at hk;injection hk with hk;injection hk with h3 h4;omega
     .rw[h y (by omega)]at hk;cases hk⟩
   .by_cases hlt:u<a\/(u=a/\v<b)
    .exact .inr ⟨m,u,v,by omega,e,λy c d hy hk=>by
      by_cases q:y=m
      .subst q;rw[e]at hk;injection hk with hk;injection hk with h3 h4;omega
      .have:=h2 y c d (by omega) hk
       omega⟩
    .exact .inr ⟨x,a,b,by omega,h1,λy c d hy hk=>by
      by_cases q:y=m
      .subst q;rw[e]at hk;injection hk with hk;injection hk with h3 h4;omega
      .exact h2 y c d (by omega) hk⟩
theorem gI(K:Nat->Option (Int×Int))(n:Nat)(hn:∀x,(K x).isSome=true->x<n){z:Nat}(hz:(K z).isSome=true):∃x,fH K x:=by
 rcases leastK_upto K n with h|⟨x,a,b,hx,h1,h2⟩
 .rw[h z (hn z hz)]at hz;cases hz
 .exact⟨x,a,b,h1,λy c d hk=>h2 y c d (hn y (by rw[hk];rfl)) hk⟩
theorem uZ(R:Nat->Option (Int×Int)):∀{n:Nat},0<bo R n->∃x,x<n/\(R x).isSome=true
 |n+1,h=>by
  unfold bo at h;by_cases e:(R n).isSome=true
  .exact⟨n,by omega,e⟩
  .rw[if_neg e]at h
   obtain⟨x,h1,h2⟩:=uZ R (n:=n) (by omega);exact⟨x,by omega,h2⟩
theorem CH{w:World}{lb:Nat}{s:LK}{Fa:Nat->Bool}{F:Nat->Prop}(h:CRL w lb {s with Fa:=Fa} F)(h0:0<s.t)(hn:∀x,(s.R x).isSome=true->x<s.n):∃x,Goes s x:=by
 obtain⟨fb,mb,q1,q2,q3,q4,ne,FC,F4,h,hF⟩:=h;have ht:s.t=bo s.R s.n:=h.ok.tn;rw[ht]at h0;obtain⟨z,hz,hzs⟩:=uZ s.R h0;by_cases hf:∃y,(farK s.R (farOf s) y).isSome=true
 .obtain⟨y,hy⟩:=hf
  obtain⟨x,hx⟩:=gI (farK s.R (farOf s)) s.n (λx q=>hn x (by unfold farK at q;split at q;exact q;cases q)) hy;exact⟨x,.inl hx⟩
 .have hall:∀y,farK s.R (farOf s) y=none:=λy=>by
   cases e:farK s.R (farOf s) y with
   |none=>rfl
   |some p=>exact(hf ⟨y,by rw[e];rfl⟩).elim
  have hfz:(freshK s.R (farOf s) z).isSome=true:=by
   have h1:=hall z;unfold farK at h1;unfold freshK
   cases e:farOf s z with
   |true=>rw[e,if_pos rfl]at h1;rw[h1]at hzs;cases hzs
   |false=>exact hzs
  obtain⟨x,hx⟩:=gI (freshK s.R (farOf s)) s.n (λx q=>hn x (by
   unfold freshK at q
   split at q
   .cases q
   .exact q)) hfz
  exact⟨x,.inr ⟨hall,hx⟩⟩
theorem Ck(s:LK)(x:Nat)(Fb:Nat->Bool):vicS s x Fb={vicS s x s.Fa with Fa:=Fb}:=by
 unfold vicS yg
 split<;>rfl
theorem Hi(lb:Nat):ya fL (CR5 lb) lb GD 178 176 180 182 179 where
 fr:=by
  rintro w w' s F G⟨hg,Fa,ho,h⟩f hd;exact⟨hg,Fa,ho,h.fr f hd⟩
 lt:=by
  rintro w s F⟨hg,Fa,ho,h⟩i q;exact h.lt i q
 miss:=by
  intro w s F c h hp hk;exact(q9 _ _ _).mono λe w' ⟨he,hw⟩=>⟨he,F,hw▸h,hw▸Fr.refl _ _,λi hi=>.inl hi⟩
 access:=by
  rintro w s F c⟨hg,Fa,ho,h⟩hp hk;obtain⟨h1,h2,h3⟩:=hp.1 hk;refine(tE h (at':=c.frame) (page:=c.page) h1 h2 h3).mono ?_;rintro e w'⟨he,F',hc,hf,hF⟩;rw[Eq]at hc;exact⟨he,F',⟨by show(accS s c.frame c.page).gone<800000;rw[ze];exact hg,_,EV ho _ _,hc⟩,hf,hF⟩
 set:=by
  rintro w s F c⟨hg,Fa,ho,h⟩hp hk;obtain⟨h1,h2,h3⟩:=hp.2.1 hk;refine(CA h (at':=c.frame) h1 h2 h3 c.on).mono ?_;rintro e w'⟨he,F',hc,hf,hF⟩;rw[E9]at hc;exact⟨he,F',⟨by show(setS s c.frame c.on).gone<800000;rw[AG];exact hg,_,B9 ho _ _,hc⟩,hf,hF⟩
 victimNo:=by
  rintro w s F c⟨hg,Fa,ho,h⟩hp hk hv;obtain⟨h1,h2,h3⟩:=hp.2.2.1 hk;by_cases h0:s.t=0
  .exact(lZ h h0 _).mono λe w' ⟨he,hf⟩=>⟨he,F,⟨hg,Fa,ho,h.fr hf (λ_ _ q=>q)⟩,hf.none,λi q=>.inl q⟩
  .obtain⟨x,hx⟩:=CH h (by omega) (λx q=>(h3 x q).1)
   rw[(dQ (by omega) hx).1]at hv
   cases hv
 victimYes:=by
  rintro w s F c a⟨hg,Fa,ho,h⟩hp hk hv;obtain⟨h1,h2,h3⟩:=hp.2.2.1 hk
  have h0:0<s.t:=by
   by_cases h0:s.t=0
   .have:fL.victim s c.page=none:=if_pos h0
    rw[this]at hv;cases hv
   .omega
  refine(sT h h0 c.page h1 hg h3).mono ?_;rintro e w'⟨x,he,Fb,F',ha,hl,hc,hf,hF⟩;have hx:Goes s x:=hl.same (Br ho ha);obtain⟨e1,e2⟩:=dQ (page:=c.page) h0 hx;rw[e1]at hv
  injection hv with hv
  subst hv;rw[e2];obtain⟨v1,v2,v3,v4,v5,v6⟩:=mY s x s.Fa;rw[v6' s x Fa Fb,Ck]at hc;refine⟨he,F',⟨by show(vicS s x s.Fa).gone<800000;rw[v4];exact h2,Fb,?_,hc⟩,hf,hF⟩
  have hfb:je s Fb:=λz p q hz hq=>by
   have:=(ha z p q hz).1 hq;rcases this with q'|q'
   .exact ho z p q hz q'
   .exact q'
  exact vt hfb x v1 v2 v3
 remove:=by
  rintro w s F c⟨hg,Fa,ho,h⟩hp hk;obtain⟨h1,h2⟩:=hp.2.2.2 hk;refine(sr h (at':=c.frame) h1 h2).mono ?_;rintro e w'⟨he,F',hc,hf,hF⟩;exact⟨he,F',⟨hg,Fa,vt ho c.frame rfl rfl rfl,hc⟩,hf,hF⟩
end
end Go.Proofs.YtoenclhimbpfeaaGreatDoor
