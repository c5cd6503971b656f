/- Part 49. -/
import Derived.Test.YtoenclhimbpfeaaGreatDoorW48
namespace Go.Proofs.YtoenclhimbpfeaaGreatDoor
set_option linter.all false
set_option maxHeartbeats 16000000
set_option maxRecDepth 100000
section
open Go.Maps Go.Proofs.Tryz Go.RowKit
def lsK:Nat->Int:=λj=>match j with|0=>0|1=>4|2=>5|_=>4
def lsI:Nat->Nat:=λj=>match j with|0=>0|_=>1
def lsV:Nat->Nat:=λj=>match j with|1=>5|3=>6|_=>0
def lsA:Nat->Nat:=λj=>match j with|0=>1|_=>0
def LSc(base pb mb:Nat)(j:Nat)(w:World):Prop:=match j with
 |0=>NoP base pb mb w
 |1=>∃v,eR base pb mb 1 0 v [0] w
 |2=>∃v,eR base pb mb 1 1 v [0,5] w
 |3=>∃v,eR base pb mb 1 1 v [5] w
 |_=>∃v,eR base pb mb 1 2 v [5,6] w
section
variable{w w':World}{base pb mb:Nat}
theorem LSc.fr0{j:Nat}(h:LSc base pb mb j w)(f:Fr NoF w w'):LSc base pb mb j w':=by
 unfold LSc at h⊢
 split at h
 .exact NoP.fr0 h f
 all_goals exact⟨h.choose,h.choose_spec.fr0 f⟩
theorem Ax{j:Nat}(hj:j<4)(h:LSc base pb mb j w):Calls prog 31 #[.pointer (some ⟨pb,0,none⟩),.agg #[.int .i64 (lsK j),.int .u32 (lsI j:Nat),.int .u64 (lsV j:Nat)],.agg #[.int .i64 0,.int .u32 (lsA j:Nat),.int .u64 0]] w λe w'=>e=.returned (.tuple #[])/\LSc base pb mb (j+1) w'/\Fr (λi=>base<=i) w w':=by
 rcases(by omega:j=0\/j=1\/j=2\/j=3)with rfl|rfl|rfl|rfl
 .exact xL (x:=1) h (by omega)
 .obtain⟨v,h⟩:=h
  exact jJ (b:=5) h (by omega) (by decide)
 .obtain⟨v,h⟩:=h
  exact ql h (by decide)
 .obtain⟨v,h⟩:=h
  exact jJ (b:=6) h (by omega) (by decide)
theorem rE{ob ab:Nat}(lo:ob<w.heap.size/\ab<w.heap.size)(hc:∀j,j<4->w.cell? ⟨ob,j*3,none⟩=some (.int .i64 (lsK j))/\w.cell? ⟨ob,j*3+1,none⟩=some (.int .u32 (lsI j:Nat))/\w.cell? ⟨ob,j*3+2,none⟩=some (.int .u64 (lsV j:Nat))/\w.cell? ⟨ab,j*3,none⟩=some (.int .i64 0)/\w.cell? ⟨ab,j*3+1,none⟩=some (.int .u32 (lsA j:Nat))/\w.cell? ⟨ab,j*3+2,none⟩=some (.int .u64 0)):
  Calls prog 16 #[.slice (some ⟨ob,0,none⟩) 4 4,.slice (some ⟨ab,0,none⟩) 4 4] w λe w'=>∃u v b1 b2,e=.returned u/\w'.ownsRow b1 67 2 u 1 [.int .u32 1,v]/\w'.ownsRow b2 27 1 v 2 [.int .u64 5,.int .u64 6]/\Fr NoF w w':=by
 have HC:Hid (∀W,Fr (λi=>w.heap.size<=i) w W->∀j,j<4->W.cell? ⟨ob,j*3,none⟩=some (.int .i64 (lsK j))/\W.cell? ⟨ob,j*3+1,none⟩=some (.int .u32 (lsI j:Nat))/\W.cell? ⟨ob,j*3+2,none⟩=some (.int .u64 (lsV j:Nat))/\W.cell? ⟨ab,j*3,none⟩=some (.int .i64 0)/\W.cell? ⟨ab,j*3+1,none⟩=some (.int .u32 (lsA j:Nat))/\W.cell? ⟨ab,j*3+2,none⟩=some (.int .u64 0)):=λW f j hj=>by
  obtain⟨k1,k2,k3,k4,k5,k6⟩:=hc j hj;have n1:¬w.heap.size<=ob:=by omega
  have n2:¬w.heap.size<=ab:=by omega
  exact⟨(f.cell (p:=⟨ob,_,none⟩) lo.1 n1).trans k1,(f.cell (p:=⟨ob,_,none⟩) lo.1 n1).trans k2,(f.cell (p:=⟨ob,_,none⟩) lo.1 n1).trans k3,(f.cell (p:=⟨ab,_,none⟩) lo.2 n2).trans k4,(f.cell (p:=⟨ab,_,none⟩) lo.2 n2).trans k5,(f.cell (p:=⟨ab,_,none⟩) lo.2 n2).trans k6⟩
 have HL:=Hd lo;have hmm:=@run_makeMap prog;clear hc lo;go_enter func16,ntmps16
 go_wp2_with fail
 have H0:Hid (LSc w.heap.size (w.heap.size+1) w.heap.size 0 ((w.alloc (.map #[] 0)).alloc (.cells #[.map (some w.heap.size),.slice none 0 0] 105))):=by
  have e1:(w.alloc (.map #[] 0)).heap.size=w.heap.size+1:=by simp
  refine⟨?_,(MpV.made prog _ _ _ w).alloc _,by omega,by omega,Nat.le_refl _⟩
  exact Blk.new _ _ _ 2 _ _ e1.symm rfl (λi hi=>by
   match i,hi with
   |0,_=>rfl
   |1,_=>rfl)
 have F0:Hid (Fr (λi=>w.heap.size<=i) w ((w.alloc (.map #[] 0)).alloc (.cells #[.map (some w.heap.size),.slice none 0 0] 105))):=(((Fr.refl NoF w).alloc _).alloc _).none;generalize(w.alloc (.map #[] 0)).alloc (.cells #[.map (some w.heap.size),.slice none 0 0] 105)=w1 at*;clear hmm
 go_wp2_with fail
 go_loopw [14] (λi wr=>∃j:Nat,j<=4/\i=.int .i64 j/\LSc w.heap.size (w.heap.size+1) w.heap.size j wr/\Fr (λi=>w.heap.size<=i) w wr) (λi _=>4-(intOf i).toNat)
 case atStart=>exact⟨0,by omega,rfl,H0.out,F0.out⟩
 case round=>
  obtain⟨j,hj,rfl,hs,hf⟩:=hrel;have HS:=Hd hs;have HF:=Hd hf;clear hs H0 F0;by_cases hlt:j<4
  .have HCJ:Hid (∀W,Fr NoF wr W->_):=Hd (λW (f:Fr NoF wr W)=>HC.out W (hf.trans f (λ_ q=>q.elim)) j hlt)
   have HCW:Hid (∀W,Fr (λi=>w.heap.size<=i) w W->_):=Hd (λW (f:Fr (λi=>w.heap.size<=i) w W)=>HC.out W f j hlt);obtain⟨k1,k2,k3,k4,k5,k6⟩:=HC.out wr hf j hlt;have lo1:=Nat.lt_of_lt_of_le HL.out.1 hf.size;have lo2:=Nat.lt_of_lt_of_le HL.out.2 hf.size;have HST:Hid (∀W,Fr NoF wr W->_):=Hd (λW (f:Fr NoF wr W)=>Ax hlt (HS.out.fr0 f));generalize lsK j=zk at*;generalize lsI j=zi at*;generalize lsV j=zv at*;generalize lsA j=za at*;clear hf HC
   go_wp2_with fail
   go_region_held3(λw'=>w'.cell? ⟨ob,j*3,none⟩=some (.int .i64 zk)/\w'.cell? ⟨ob,j*3+1,none⟩=some (.int .u32 (zi:Nat))/\w'.cell? ⟨ob,j*3+2,none⟩=some (.int .u64 (zv:Nat))/\w'.cell? ⟨ab,j*3,none⟩=some (.int .i64 0)/\w'.cell? ⟨ab,j*3+1,none⟩=some (.int .u32 (za:Nat))/\w'.cell? ⟨ab,j*3+2,none⟩=some (.int .u64 0))
    (first|exact HCW.out _ F4.out|exact HCJ.out _ (by repeat(first|exact Fr.refl NoF _|apply Fr.drew|apply Fr.drewN)))
    (first
     |(go_at_call 31;(with_reducible refine(HST.out _ (by repeat(first|exact Fr.refl NoF _|apply Fr.drew|apply Fr.drewN))).mono ?_);rintro e w4⟨rfl,s4,f4⟩;have S4:=Hd s4;have F4:Hid (Fr (λi=>w.heap.size<=i) w w4):=(Fr.trans (F:=λi=>w.heap.size<=i) HF.out (Fr.none (by repeat(first|exact Fr.refl NoF _|apply Fr.drew|apply Fr.drewN))) (λ_ q=>.inl q)).trans f4 (λ_ q=>.inl q);clear s4 f4))
   all_goals
    go_wp2_with fail
    go_roundw
    case rel=>exact⟨j+1,by omega,by go_num,S4.out,F4.out⟩
    case measure=>simp[intOf];omega
  .obtain rfl:j=4:=by omega
   obtain⟨v,h4⟩:=HS.out;have HX:=Hd (sP h4 (by decide));have HV:=Hd h4.vl;clear h4 hf HC
   go_wp2_with fail
   refine HX.out.mono ?_;rintro e w5⟨u,rfl,hu,f5⟩;have HK:Hid (∃u' v b1 b2,Ending.returned u=.returned u'/\w5.ownsRow b1 67 2 u' 1 [.int .u32 1,v]/\w5.ownsRow b2 27 1 v 2 [.int .u64 5,.int .u64 6]/\Fr NoF w w5):=⟨u,v,_,_,rfl,hu,ak HV.out f5 (λ_ _ q=>q),HF.out.trans f5 (λ_ q=>q.elim)|>λz=>⟨z.os,z.tape,z.output,z.size,λk hk _=>z.block k hk (by show¬w.heap.size<=k;omega)⟩⟩;clear hu f5 HX HV;go_wp2;go_returns;obtain⟨u',v,b1,b2,q1,q2⟩:=HK.out;exact⟨u',v,b1,b2,q1,q2⟩
def BR:Nat->Value:=λi=>match i with|0=>.string ⟨#[108,114,117]⟩|1=>.string ⟨#[108,114,117,107]⟩|2=>.string ⟨#[116,119,111,113]⟩|3=>.string ⟨#[97,114,99]⟩|_=>.string ⟨#[112,114,111]⟩
theorem fw(w:World):Calls prog 5 #[] w λe w'=>e=.returned (.slice (some ⟨w.heap.size,0,none⟩) 5 5)/\Blk w' w.heap.size 5 BR/\Fr NoF w w':=by
 have HB:Hid (Blk (w.alloc (.cells #[.string ⟨#[108,114,117]⟩,.string ⟨#[108,114,117,107]⟩,.string ⟨#[116,119,111,113]⟩,.string ⟨#[97,114,99]⟩,.string ⟨#[112,114,111]⟩] 9)) w.heap.size 5 BR):=Blk.new _ _ _ 5 _ _ rfl rfl (λi hi=>by
  match i,hi with
  |0,_|1,_|2,_|3,_|4,_=>rfl)
 have HF:Hid (Fr NoF w (w.alloc (.cells #[.string ⟨#[108,114,117]⟩,.string ⟨#[108,114,117,107]⟩,.string ⟨#[116,119,111,113]⟩,.string ⟨#[97,114,99]⟩,.string ⟨#[112,114,111]⟩] 9))):=(Fr.refl NoF w).alloc _;go_enter func5,ntmps5;go_wp2;go_returns;exact⟨rfl,HB.out,HF.out⟩
theorem pS(w:World):Calls prog 6 #[] w λe w'=>e=.returned (.bool true)/\Fr NoF w w':=by
 have HC:=Hd (rE (ob:=w.heap.size) (ab:=w.heap.size+1) (w:=((w.alloc (.cells #[.int .i64 0,.int .u32 0,.int .u64 0,.int .i64 4,.int .u32 1,.int .u64 5,.int .i64 5,.int .u32 1,.int .u64 0,.int .i64 4,.int .u32 1,.int .u64 6] 36)).alloc (.cells #[.int .i64 0,.int .u32 1,.int .u64 0,.int .i64 0,.int .u32 0,.int .u64 0,.int .i64 0,.int .u32 0,.int .u64 0,.int .i64 0,.int .u32 0,.int .u64 0] 48))) (by simp only[World.size_alloc];omega) (λj hj=>by
  have b1:=(Blk.new w #[.int .i64 0,.int .u32 0,.int .u64 0,.int .i64 4,.int .u32 1,.int .u64 5,.int .i64 5,.int .u32 1,.int .u64 0,.int .i64 4,.int .u32 1,.int .u64 6] 36 12 (λi=>if i%3=0 then .int .i64 (lsK (i/3))else if i%3=1 then .int .u32 (lsI (i/3):Nat)else .int .u64 (lsV (i/3):Nat)) w.heap.size rfl rfl (λi hi=>by
   match i,hi with
   |0,_|1,_|2,_|3,_|4,_|5,_|6,_|7,_|8,_|9,_|10,_|11,_=>rfl)).alloc (.cells #[.int .i64 0,.int .u32 1,.int .u64 0,.int .i64 0,.int .u32 0,.int .u64 0,.int .i64 0,.int .u32 0,.int .u64 0,.int .i64 0,.int .u32 0,.int .u64 0] 48)
  have b2:=Blk.new (w.alloc (.cells #[.int .i64 0,.int .u32 0,.int .u64 0,.int .i64 4,.int .u32 1,.int .u64 5,.int .i64 5,.int .u32 1,.int .u64 0,.int .i64 4,.int .u32 1,.int .u64 6] 36)) #[.int .i64 0,.int .u32 1,.int .u64 0,.int .i64 0,.int .u32 0,.int .u64 0,.int .i64 0,.int .u32 0,.int .u64 0,.int .i64 0,.int .u32 0,.int .u64 0] 48 12 (λi=>if i%3=0 then .int .i64 0 else if i%3=1 then .int .u32 (lsA (i/3):Nat)else .int .u64 0) (w.heap.size+1) (by simp) rfl (λi hi=>by
   match i,hi with
   |0,_|1,_|2,_|3,_|4,_|5,_|6,_|7,_|8,_|9,_|10,_|11,_=>rfl)
  rcases(by omega:j=0\/j=1\/j=2\/j=3)with rfl|rfl|rfl|rfl
  all_goals exact⟨b1.cell (by omega),b1.cell (by omega),b1.cell (by omega),b2.cell (by omega),b2.cell (by omega),b2.cell (by omega)⟩))
 have F0:Hid (Fr NoF w ((w.alloc (.cells #[.int .i64 0,.int .u32 0,.int .u64 0,.int .i64 4,.int .u32 1,.int .u64 5,.int .i64 5,.int .u32 1,.int .u64 0,.int .i64 4,.int .u32 1,.int .u64 6] 36)).alloc (.cells #[.int .i64 0,.int .u32 1,.int .u64 0,.int .i64 0,.int .u32 0,.int .u64 0,.int .i64 0,.int .u32 0,.int .u64 0,.int .i64 0,.int .u32 0,.int .u64 0] 48))):=((Fr.refl NoF w).alloc _).alloc _;go_enter func6,ntmps6
 go_wp2_with fail
 refine HC.out.mono ?_;rintro e w1⟨u,v,b1,b2,rfl,hu,hv,f1⟩;have HU:=Hd (SlC.ofOwn hu (by intro y hy;simp at hy;rcases hy with rfl|rfl;rfl;obtain⟨va,vc,rfl,_,_⟩:=(SlC.ofOwn hv (by intro y hy;simp at hy;rcases hy with rfl|rfl<;>rfl)).shape;rfl));have HV:=Hd (SlC.ofOwn hv (by intro y hy;simp at hy;rcases hy with rfl|rfl<;>rfl));have F1:=Hd (F0.out.trans f1 (λ_ q=>.inl q));clear hu hv f1 HC F0
 go_wp2_with fail
 refine(fw w1).mono ?_;rintro e w2⟨rfl,hp,f2⟩;have F2:=Hd (F1.out.trans f2 (λ_ q=>.inl q));obtain⟨ub,uo,uc,rfl,r1,r2,ul,ug⟩:=(HU.out.keep f2).at (k:=0) (by omega) (by omega);obtain⟨vb,vo,vc,rfl,r3,r4,vl,vg⟩:=(HV.out.keep f2).at (k:=0) (by omega) (by omega);have u0:=ug 0 _ rfl;have u1:=ug 1 _ rfl;have v0:=vg 0 _ rfl;have v1:=vg 1 _ rfl;have p4:=hp.cell (i:=4) (by omega);have pl:=hp.lt;simp only[BR,Nat.add_zero]at u0 u1 v0 v1 p4;clear ug vg hp f2 HU HV F1 r1 r2 r3 r4;go_wp2;go_returns;exact⟨rfl,F2.out⟩
end
end
end Go.Proofs.YtoenclhimbpfeaaGreatDoor
