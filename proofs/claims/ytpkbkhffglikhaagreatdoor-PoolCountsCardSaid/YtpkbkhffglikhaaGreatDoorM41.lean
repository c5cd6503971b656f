/- Part 41. -/
import Derived.Test.YtpkbkhffglikhaaGreatDoorM22
namespace Go.Proofs.YtpkbkhffglikhaaGreatDoor
set_option linter.all false
set_option maxHeartbeats 16000000
set_option maxRecDepth 100000
section
open Go.Maps Go.Proofs.Tryz Go.RowKit
theorem range_putL(k:Nat):putL [[],List.range k] 1 k false=[[],List.range (k+1)]:=by
 rw[putL2_1 (by simp)];rw[awayN_not (l:=List.range k) (λq=>by have:=List.mem_range.1 q;omega),List.range_succ];rfl
theorem newGhosts_calls(n:Nat)(w:World)(hn:n<=65535):
  Calls prog 61 #[.int .i64 n] w λe w'=>∃gr gpb mb FG,e=.returned (.tuple #[.agg #[.pointer (some ⟨gr,0,none⟩),.slice (some ⟨gpb,0,none⟩) n n,.map (some mb)],.int .i64 0])/\
   GR w' gr gpb mb n [] (List.range n) (λ_=>0) [] FG/\(∀i,FGm FG gpb mb i->w.heap.size<=i)/\Fr NoF w w':=by
 obtain⟨i0,hi0,hz0,hz1,hz2⟩:=info_parts' (P:=prog) (e:=32) (z:=.int .u32 0) (s:=1) (b:=4) (by kernel_rfl)
 have mk1:∀w:World,(Instr.makeSlice 40 (.int .i64 (n:Int)) (.int .i64 (n:Int))).run prog w=
   .ok (.slice (some ⟨w.heap.size,0,none⟩) n n) (w.alloc (.cells (madeCells #[.int .u32 0] n) 32)):=by
  intro w;have:=run_make (P:=prog) w 40 32 i0 _ underlying40 hi0 hz0 .i64 .i64 (n:Int) (n:Int) (by omega) (Int.le_refl _) (by rw[hz2];omega) (by omega);rw[show((n:Int)).toNat=n from by omega,hz1,Nat.mul_one]at this;exact this
 have HN:Hid (∀w:World,Calls prog 58 #[.int .i64 n,.int .i64 2] w λe w'=>∃b F,e=.returned (.tuple #[.pointer (some ⟨b,0,none⟩),.int .i64 0])/\RR w' b n 2 (List.replicate 2 []) F/\(∀i,F i->w.heap.size<=i)/\Fr NoF w w'):=λw=>new_yes n 2 w (by omega) (by omega) (by omega)
 have hmm:=@run_makeMap prog;clear hi0 hz0 hz1 hz2;go_enter func61,ntmps61
 go_wp2_with fail
 refine(HN.out _).mono ?_;clear HN;rintro e w1⟨gr,FG,rfl,hR,hFG,hf⟩;have hw0:¬FG w.heap.size:=λq=>by have:=hFG _ q;simp at this;omega
 have hgs:=hR.lt;have hsz:=hf.size;simp only[World.size_alloc]at hsz;have lw:w.heap.size<w1.heap.size:=by omega
 have HFG:=Hd hFG;have HF:=Hd hf;have HR:=Hd hR;have HW0:=Hd hw0;clear hR hFG hf hw0 hgs;go_wp2
 go_loopw [6,17] (λ_ i wr=>∃k:Nat,k<=n/\i=.int .i64 k/\RR wr gr n 2 [[],List.range k] FG/\Fr FG w1 wr) (λ_ i _=>n-(intOf i).toNat)
 case atStart=>exact⟨0,Nat.zero_le _,rfl,HR.out,Fr.refl _ _⟩
 case round=>
  obtain⟨k,hk,rfl,hR,hf⟩:=hrel;by_cases hlt:k<n
  .have HB:=back_yes hR 1 k (by omega) hlt
   rw[range_putL]at HB;have HB:=Hd HB;have HF2:=Hd hf;clear hR hf
   go_wp2_with fail
   refine HB.out.mono ?_;rintro e w2⟨rfl,hR2,f2⟩;have KEY:=Hd (And.intro hR2 (HF2.out.trans f2 (λ_ q=>.inl q)));clear hR2 f2 HB HF2;go_wp2
   go_roundw
   case rel=>exact⟨k+1,hlt,by go_num,KEY.out⟩
   case measure=>first|(simp[intOf];done)|(simp[intOf];omega)
  .obtain rfl:k=n:=by omega
   have hB0:Blk (w.alloc (.cells #[.pointer none,.slice none 0 0,.map none] 130)) w.heap.size 3 (λi=>(#[.pointer none,.slice none 0 0,.map none]:Array Value).getD i undef):=Blk.new _ _ _ 3 _ _ rfl rfl (λi hi=>by
    match i,hi with
    |0,_=>rfl
    |1,_=>rfl
    |2,_=>rfl)
   have hB:=(hB0.fr HF.out id).fr hf HW0.out;have r0:wr.cell? ⟨w.heap.size,0,none⟩=some (.pointer none):=hB.cell (i:=0) (by omega);have r1:wr.cell? ⟨w.heap.size,1,none⟩=some (.slice none 0 0):=hB.cell (i:=1) (by omega);have r2:wr.cell? ⟨w.heap.size,2,none⟩=some (.map none):=hB.cell (i:=2) (by omega);have rf:∀i,wr.frozen? ⟨w.heap.size,i,none⟩=false:=hB.frozen;have hs2:=hf.size;have lw2:w.heap.size<wr.heap.size:=by omega
   have HRR:=Hd hR;have HF2:=Hd hf;have HB:=Hd hB;clear hR hf hB hB0
   have KEY:Hid (∀W:World,Fr (λi=>i=w.heap.size) wr W->W.heap.size=wr.heap.size->GR ((W.alloc (.cells (madeCells #[.int .u32 0] k) 32)).alloc (.map #[] 0)) gr wr.heap.size (wr.heap.size+1) k [] (List.range k) (λ_=>0) [] FG/\(∀i,FGm FG wr.heap.size (wr.heap.size+1) i->w.heap.size<=i)/\Fr NoF w ((W.alloc (.cells (madeCells #[.int .u32 0] k) 32)).alloc (.map #[] 0))):=by
    intro W f eW;have hlt:=HRR.out.lt;have fA:Fr NoF W ((W.alloc (.cells (madeCells #[.int .u32 0] k) 32)).alloc (.map #[] 0)):=((Fr.refl _ _).alloc _).alloc _
    have hblk:Blk ((W.alloc (.cells (madeCells #[.int .u32 0] k) 32)).alloc (.map #[] 0)) W.heap.size k (uN λ_=>0):=(Blk.new _ _ _ k _ _ rfl (by simp[size_madeCells]) (λi hi=>by
     rw[made_at hi,show(#[Value.int .u32 0]:Array Value).size=1 from rfl,Nat.mod_one];rfl)).alloc _
    have hmp:=MpN.made prog 32 3 .u32 .i64 (W.alloc (.cells (madeCells #[.int .u32 0] k) 32));rw[World.size_alloc,eW]at hmp;rw[eW]at hblk;refine⟨⟨(HRR.out.fr f (λi hi e=>HW0.out (e▸hi))).fr fA (λ_ _ q=>q),hblk,hmp,rfl,List.nodup_nil,by simp,λx hx=>(by cases hx),hn,λq=>by have:=hlt _ q;omega,λq=>by have:=hlt _ q;omega,by omega⟩,?_,?_⟩
    .rintro i(q|q|q)
     .have:=HFG.out i q;simp at this;omega
     .omega
     .omega
    .have f0:Fr NoF w wr:=((((Fr.refl NoF w).alloc _).trans HF.out (λ_ q=>q.elim))).trans HF2.out (λi q=>.inr (by have:=HFG.out i q;simp at this;omega))
     exact(f0.trans f (λi e=>.inr (by omega))).trans fA (λ_ q=>q.elim)
   have hG:Blk (((((wr.setCell ⟨w.heap.size,0,none⟩ (.pointer (some ⟨gr,0,none⟩))).setCell ⟨w.heap.size,1,none⟩ (.slice (some ⟨wr.heap.size,0,none⟩) k k)).setCell ⟨w.heap.size,2,none⟩ (.map (some (wr.heap.size+1)))).alloc (.cells (madeCells #[.int .u32 0] k) 32)).alloc (.map #[] 0)) w.heap.size 3 _:=((((HB.out.set 0 _).set 1 _).set 2 _).alloc _).alloc _;have r0':((((((wr.setCell ⟨w.heap.size,0,none⟩ (.pointer (some ⟨gr,0,none⟩))).setCell ⟨w.heap.size,1,none⟩ (.slice (some ⟨wr.heap.size,0,none⟩) k k)).setCell ⟨w.heap.size,2,none⟩ (.map (some (wr.heap.size+1)))).alloc (.cells (madeCells #[.int .u32 0] k) 32)).alloc (.map #[] 0))).cell? ⟨w.heap.size,0,none⟩=some (.pointer (some ⟨gr,0,none⟩)):=by have:=hG.cell (i:=0) (by omega);simpa[upd]using this
   have r1':((((((wr.setCell ⟨w.heap.size,0,none⟩ (.pointer (some ⟨gr,0,none⟩))).setCell ⟨w.heap.size,1,none⟩ (.slice (some ⟨wr.heap.size,0,none⟩) k k)).setCell ⟨w.heap.size,2,none⟩ (.map (some (wr.heap.size+1)))).alloc (.cells (madeCells #[.int .u32 0] k) 32)).alloc (.map #[] 0))).cell? ⟨w.heap.size,1,none⟩=some (.slice (some ⟨wr.heap.size,0,none⟩) k k):=by have:=hG.cell (i:=1) (by omega);simpa[upd]using this
   have r2':((((((wr.setCell ⟨w.heap.size,0,none⟩ (.pointer (some ⟨gr,0,none⟩))).setCell ⟨w.heap.size,1,none⟩ (.slice (some ⟨wr.heap.size,0,none⟩) k k)).setCell ⟨w.heap.size,2,none⟩ (.map (some (wr.heap.size+1)))).alloc (.cells (madeCells #[.int .u32 0] k) 32)).alloc (.map #[] 0))).cell? ⟨w.heap.size,2,none⟩=some (.map (some (wr.heap.size+1))):=by have:=hG.cell (i:=2) (by omega);simpa[upd]using this
   clear hG;go_wp2;refine bodyPost_ret (v:=.tuple #[.agg #[.pointer (some ⟨gr,0,none⟩),.slice (some ⟨wr.heap.size,0,none⟩) k k,.map (some (wr.heap.size+1))],.int .i64 0]) (by simp only[results,Tryz.results61,go_sem];simp[go_sem,r0',r1',r2']) rfl ⟨gr,wr.heap.size,wr.heap.size+1,FG,rfl,KEY.out _ ?_ (by simp)⟩;exact(((Fr.refl (λi=>i=w.heap.size) wr).setCell (p:=⟨w.heap.size,0,none⟩) (.inl rfl) _).setCell (p:=⟨w.heap.size,1,none⟩) (.inl rfl) _).setCell (p:=⟨w.heap.size,2,none⟩) (.inl rfl) _
def t60:T6:=⟨[],[],λ_=>0,λ_=>false,[]⟩
theorem tq_new_yes(n inn out:Nat)(w:World)(h1:1<=n)(hn:n<=65535)(hi:inn<=65535)(ho:out<=65535):
  Calls prog 36 #[.int .i64 n,.int .i64 inn,.int .i64 out] w λe w'=>∃b F,e=.returned (.tuple #[.pointer (some ⟨b,0,none⟩),.int .i64 0])/\CRT b n inn out w' t60 F/\(∀i,F i->w.heap.size<=i)/\Fr NoF w w':=by
 obtain⟨i0,hi0,hz0,hz1,hz2⟩:=info_parts' (P:=prog) (e:=32) (z:=.int .u32 0) (s:=1) (b:=4) (by kernel_rfl);obtain⟨i1,hi1,hy0,hy1,hy2⟩:=info_parts' (P:=prog) (e:=4) (z:=.bool false) (s:=1) (b:=1) (by kernel_rfl)
 have mk1:∀w:World,(Instr.makeSlice 40 (.int .i64 (n:Int)) (.int .i64 (n:Int))).run prog w=
   .ok (.slice (some ⟨w.heap.size,0,none⟩) n n) (w.alloc (.cells (madeCells #[.int .u32 0] n) 32)):=by
  intro w;have:=run_make (P:=prog) w 40 32 i0 _ underlying40 hi0 hz0 .i64 .i64 (n:Int) (n:Int) (by omega) (Int.le_refl _) (by rw[hz2];omega) (by omega);rw[show((n:Int)).toNat=n from by omega,hz1,Nat.mul_one]at this;exact this
 have mk2:∀w:World,(Instr.makeSlice 98 (.int .i64 (n:Int)) (.int .i64 (n:Int))).run prog w=
   .ok (.slice (some ⟨w.heap.size,0,none⟩) n n) (w.alloc (.cells (madeCells #[.bool false] n) 4)):=by
  intro w;have:=run_make (P:=prog) w 98 4 i1 _ underlying98 hi1 hy0 .i64 .i64 (n:Int) (n:Int) (by omega) (Int.le_refl _) (by rw[hy2];omega) (by omega);rw[show((n:Int)).toNat=n from by omega,hy1,Nat.mul_one]at this;exact this
 have MK:=Hd (And.intro mk1 mk2);have HN:=Hd (new_yes n 2 w (by omega) (by omega) (by omega));have HNG:=Hd (λw=>newGhosts_calls out w ho);clear mk1 mk2 hi0 hz0 hz1 hz2 hi1 hy0 hy1 hy2;go_enter func36,ntmps36
 go_wp2_with fail
 refine HN.out.mono ?_;clear HN;rintro e w1⟨rb,FR,rfl,hR,hFR,hf1⟩;have HR:=Hd hR;have HFR:=Hd hFR;have HF1:=Hd hf1;clear hR hFR hf1
 go_wp2_with fail
 refine(HNG.out w1).mono ?_;clear HNG;rintro e w2⟨gr,gpb,mb,FG,rfl,hG,hFG,hf2⟩;have HG:=Hd hG;have HFG:=Hd hFG;have HF2:=Hd hf2;obtain⟨mk1,mk2⟩:=MK.out
 have KEY:Hid (∀(wz:World) (b pb eb:Nat),Fr NoF w2 wz->wz.heap[pb]?=some (.cells (madeCells #[.int .u32 0] n) 32 (0,0))->wz.heap[eb]?=some (.cells (madeCells #[.bool false] n) 4 (0,0))->
   wz.heap[b]?=some (.cells #[.int .i64 inn,.pointer (some ⟨rb,0,none⟩),.slice (some ⟨pb,0,none⟩) n n,.slice (some ⟨eb,0,none⟩) n n,.int .i64 0,.pointer (some ⟨gr,0,none⟩),.slice (some ⟨gpb,0,none⟩) out out,.map (some mb)] 134 (0,0))->¬b=pb->¬b=eb->¬pb=eb->w2.heap.size<=b->w2.heap.size<=pb->w2.heap.size<=eb->
   ∃F,CRT b n inn out wz t60 F/\∀i,F i->w.heap.size<=i):=by
  intro wz b pb eb fz g1 g2 g3 d1 d2 d3 l1 l2 l3;have hR0:=HR.out;have hrl:=hR0.lt
  have hgl:∀i,FGm FG gpb mb i->i<w2.heap.size:=by
   rintro i(q|rfl|rfl)
   .exact hG.rr.lt i q
   .exact hG.pg.lt
   .exact hG.mp.lt
  have hgb:=hFG;have s1:=HF1.out.size;have s2:=hf2.size
  let A:TA:=⟨rb,pb,eb,gr,gpb,mb,FR,FG,λi=>open Classical in if i=b then 0 else if i=pb then 1 else if i=eb then 2 else if FR i then 3 else if FG i then 4 else if i=gpb then 5 else if i=mb then 6 else 7⟩
  have hFRl:∀i,FR i->¬i=b/\¬i=pb/\¬i=eb:=λi q=>by have:=hrl i q;exact⟨by omega,by omega,by omega⟩
  have hFGl:∀i,FGm FG gpb mb i->¬i=b/\¬i=pb/\¬i=eb/\¬FR i:=λi q=>by
   have h1:=hgl i q;have h2:=hgb i q;exact⟨by omega,by omega,by omega,λq2=>by have:=hrl i q2;omega⟩
  have hL:TL b A:=by
   refine⟨if_pos rfl,?_,?_,λi q=>?_,λi q=>?_,?_,?_⟩
   .show(if pb=b then 0 else _)=1
    rw[if_neg (λe=>d1 e.symm),if_pos rfl]
   .show(if eb=b then 0 else _)=2
    rw[if_neg (λe=>d2 e.symm),if_neg (λe=>d3 e.symm),if_pos rfl]
   .obtain⟨q1,q2,q3⟩:=hFRl i q
    show(if i=b then 0 else _)=3
    rw[if_neg q1,if_neg q2,if_neg q3,if_pos q]
   .obtain⟨q1,q2,q3,q4⟩:=hFGl i (.inl q)
    show(if i=b then 0 else _)=4
    rw[if_neg q1,if_neg q2,if_neg q3,if_neg q4,if_pos q]
   .obtain⟨q1,q2,q3,q4⟩:=hFGl gpb (.inr (.inl rfl))
    show(if gpb=b then 0 else _)=5
    rw[if_neg q1,if_neg q2,if_neg q3,if_neg q4,if_neg hG.d1,if_pos rfl]
   .obtain⟨q1,q2,q3,q4⟩:=hFGl mb (.inr (.inr rfl))
    show(if mb=b then 0 else _)=6
    rw[if_neg q1,if_neg q2,if_neg q3,if_neg q4,if_neg hG.d2,if_neg (λe=>hG.d3 e.symm),if_pos rfl]
  refine⟨FT A b,⟨A,[],List.range out,λ_=>0,⟨⟨_,_,g3,rfl,λi hi=>?_⟩,(hR0.fr hf2 (λ_ _ q=>q)).fr fz (λ_ _ q=>q),⟨_,_,g1,by simp[size_madeCells],λi hi=>?_⟩,⟨_,_,g2,by simp[size_madeCells],λi hi=>?_⟩,hG.fr fz (λ_ _ q=>q) id id,hL,λf q=>(by cases q),hn,hi⟩,⟨λf q=>(by rcases q with q|q<;>cases q),λf g q=>(by rcases q with q|q<;>cases q)⟩,λ_=>Iff.rfl⟩,λi q=>?_⟩
  .match i,hi with
   |0,_=>rfl
   |1,_=>rfl
   |2,_=>rfl
   |3,_=>rfl
   |4,_=>rfl
   |5,_=>rfl
   |6,_=>rfl
   |7,_=>rfl
  .rw[made_at hi,show(#[Value.int .u32 0]:Array Value).size=1 from rfl,Nat.mod_one];rfl
  .rw[made_at hi,show(#[Value.bool false]:Array Value).size=1 from rfl,Nat.mod_one];rfl
  .rcases q with e|e|e|q|q
   .rw[e];omega
   .rw[e];show w.heap.size<=pb;omega
   .rw[e];show w.heap.size<=eb;omega
   .exact HFR.out i q
   .have:=hgb i q;omega
 clear hG hFG hf2 MK;go_wp2
 go_region
 .go_wp2
  go_returns
  obtain⟨F,P,hF⟩:=KEY.out ((((w2.alloc (.cells #[.pointer (some ⟨gr,0,none⟩),.slice (some ⟨gpb,0,none⟩) out out,.map (some mb)] 130)).alloc (.cells (madeCells #[.int .u32 0] n) 32)).alloc (.cells (madeCells #[.bool false] n) 4)).alloc (.cells #[.int .i64 inn,.pointer (some ⟨rb,0,none⟩),.slice (some ⟨w2.heap.size+1,0,none⟩) n n,.slice (some ⟨w2.heap.size+2,0,none⟩) n n,.int .i64 0,.pointer (some ⟨gr,0,none⟩),.slice (some ⟨gpb,0,none⟩) out out,.map (some mb)] 134)) (w2.heap.size+3) (w2.heap.size+1) (w2.heap.size+2) ((((Fr.refl NoF w2).alloc _).alloc _).alloc _|>.alloc _)
   (heap_step _ _ _ _ (heap_step _ _ _ _ (heap_alloc_new _ _ _ (by simp)))) (heap_step _ _ _ _ (heap_alloc_new _ _ _ (by simp))) (heap_alloc_new _ _ _ (by simp)) (by omega) (by omega) (by omega) (by omega) (by omega) (by omega)
  exact⟨w2.heap.size+3,F,rfl,(cod6 _ n inn out).fr P ((Fr.refl NoF _).drew) (λ_ _ q=>q),hF,((HF1.out.trans HF2.out (λ_ q=>q.elim)).alloc _|>.alloc _|>.alloc _|>.alloc _).drew⟩
 .go_wp2
  go_returns
  obtain⟨F,P,hF⟩:=KEY.out ((((w2.alloc (.cells #[.pointer (some ⟨gr,0,none⟩),.slice (some ⟨gpb,0,none⟩) out out,.map (some mb)] 130)).alloc (.cells (madeCells #[.bool false] n) 4)).alloc (.cells (madeCells #[.int .u32 0] n) 32)).alloc (.cells #[.int .i64 inn,.pointer (some ⟨rb,0,none⟩),.slice (some ⟨w2.heap.size+2,0,none⟩) n n,.slice (some ⟨w2.heap.size+1,0,none⟩) n n,.int .i64 0,.pointer (some ⟨gr,0,none⟩),.slice (some ⟨gpb,0,none⟩) out out,.map (some mb)] 134)) (w2.heap.size+3) (w2.heap.size+2) (w2.heap.size+1) ((((Fr.refl NoF w2).alloc _).alloc _).alloc _|>.alloc _)
   (heap_step _ _ _ _ (heap_alloc_new _ _ _ (by simp))) (heap_step _ _ _ _ (heap_step _ _ _ _ (heap_alloc_new _ _ _ (by simp)))) (heap_alloc_new _ _ _ (by simp)) (by omega) (by omega) (by omega) (by omega) (by omega) (by omega)
  exact⟨w2.heap.size+3,F,rfl,(cod6 _ n inn out).fr P ((Fr.refl NoF _).drew) (λ_ _ q=>q),hF,((HF1.out.trans HF2.out (λ_ q=>q.elim)).alloc _|>.alloc _|>.alloc _|>.alloc _).drew⟩
theorem range_putL3(k:Nat):putL [[],[],List.range k] 2 k false=[[],[],List.range (k+1)]:=by
 rw[putL3_2 ⟨by simp,by simp,by simp⟩];rw[awayN_not (l:=List.range k) (λq=>by have:=List.mem_range.1 q;omega),List.range_succ];rfl
theorem ga_new(n:Nat)(w:World)(hn:n<=65536):
  Calls prog 62 #[.int .i64 n] w λe w'=>∃gr gpb mb FG,e=.returned (.tuple #[.agg #[.pointer (some ⟨gr,0,none⟩),.slice (some ⟨gpb,0,none⟩) n n,.map (some mb)],.int .i64 0])/\
   GA w' gr gpb mb n [] [] (List.range n) (λ_=>0) [] [] FG/\(∀i,FGm FG gpb mb i->w.heap.size<=i)/\Fr NoF w w':=by
 obtain⟨i0,hi0,hz0,hz1,hz2⟩:=info_parts' (P:=prog) (e:=32) (z:=.int .u32 0) (s:=1) (b:=4) (by kernel_rfl)
 have mk1:∀w:World,(Instr.makeSlice 40 (.int .i64 (n:Int)) (.int .i64 (n:Int))).run prog w=
   .ok (.slice (some ⟨w.heap.size,0,none⟩) n n) (w.alloc (.cells (madeCells #[.int .u32 0] n) 32)):=by
  intro w;have:=run_make (P:=prog) w 40 32 i0 _ underlying40 hi0 hz0 .i64 .i64 (n:Int) (n:Int) (by omega) (Int.le_refl _) (by rw[hz2];omega) (by omega);rw[show((n:Int)).toNat=n from by omega,hz1,Nat.mul_one]at this;exact this
 have HN:Hid (∀w:World,Calls prog 58 #[.int .i64 n,.int .i64 3] w λe w'=>∃b F,e=.returned (.tuple #[.pointer (some ⟨b,0,none⟩),.int .i64 0])/\RR w' b n 3 (List.replicate 3 []) F/\(∀i,F i->w.heap.size<=i)/\Fr NoF w w'):=λw=>new_yes n 3 w (by omega) (by omega) (by omega)
 have hmm:=@run_makeMap prog;clear hi0 hz0 hz1 hz2;go_enter func62,ntmps62
 go_wp2_with fail
 refine(HN.out _).mono ?_;clear HN;rintro e w1⟨gr,FG,rfl,hR,hFG,hf⟩;have hw0:¬FG w.heap.size:=λq=>by have:=hFG _ q;simp at this;omega
 have hgs:=hR.lt;have hsz:=hf.size;simp only[World.size_alloc]at hsz;have lw:w.heap.size<w1.heap.size:=by omega
 have HFG:=Hd hFG;have HF:=Hd hf;have HR:=Hd hR;have HW0:=Hd hw0;clear hR hFG hf hw0 hgs;go_wp2
 go_loopw [6,17] (λ_ i wr=>∃k:Nat,k<=n/\i=.int .i64 k/\RR wr gr n 3 [[],[],List.range k] FG/\Fr FG w1 wr) (λ_ i _=>n-(intOf i).toNat)
 case atStart=>exact⟨0,Nat.zero_le _,rfl,HR.out,Fr.refl _ _⟩
 case round=>
  obtain⟨k,hk,rfl,hR,hf⟩:=hrel;by_cases hlt:k<n
  .have HB:=back_yes hR 2 k (by omega) hlt
   rw[range_putL3]at HB;have HB:=Hd HB;have HF2:=Hd hf;clear hR hf
   go_wp2_with fail
   refine HB.out.mono ?_;rintro e w2⟨rfl,hR2,f2⟩;have KEY:=Hd (And.intro hR2 (HF2.out.trans f2 (λ_ q=>.inl q)));clear hR2 f2 HB HF2;go_wp2
   go_roundw
   case rel=>exact⟨k+1,hlt,by go_num,KEY.out⟩
   case measure=>first|(simp[intOf];done)|(simp[intOf];omega)
  .obtain rfl:k=n:=by omega
   have hB0:Blk (w.alloc (.cells #[.pointer none,.slice none 0 0,.map none] 136)) w.heap.size 3 (λi=>(#[.pointer none,.slice none 0 0,.map none]:Array Value).getD i undef):=Blk.new _ _ _ 3 _ _ rfl rfl (λi hi=>by
    match i,hi with
    |0,_=>rfl
    |1,_=>rfl
    |2,_=>rfl)
   have hB:=(hB0.fr HF.out id).fr hf HW0.out;have r0:wr.cell? ⟨w.heap.size,0,none⟩=some (.pointer none):=hB.cell (i:=0) (by omega);have r1:wr.cell? ⟨w.heap.size,1,none⟩=some (.slice none 0 0):=hB.cell (i:=1) (by omega);have r2:wr.cell? ⟨w.heap.size,2,none⟩=some (.map none):=hB.cell (i:=2) (by omega);have rf:∀i,wr.frozen? ⟨w.heap.size,i,none⟩=false:=hB.frozen;have hs2:=hf.size;have lw2:w.heap.size<wr.heap.size:=by omega
   have HRR:=Hd hR;have HF2:=Hd hf;have HB:=Hd hB;clear hR hf hB hB0
   have KEY:Hid (∀W:World,Fr (λi=>i=w.heap.size) wr W->W.heap.size=wr.heap.size->GA ((W.alloc (.cells (madeCells #[.int .u32 0] k) 32)).alloc (.map #[] 0)) gr wr.heap.size (wr.heap.size+1) k [] [] (List.range k) (λ_=>0) [] [] FG/\(∀i,FGm FG wr.heap.size (wr.heap.size+1) i->w.heap.size<=i)/\Fr NoF w ((W.alloc (.cells (madeCells #[.int .u32 0] k) 32)).alloc (.map #[] 0))):=by
    intro W f eW;have hlt:=HRR.out.lt;have fA:Fr NoF W ((W.alloc (.cells (madeCells #[.int .u32 0] k) 32)).alloc (.map #[] 0)):=((Fr.refl _ _).alloc _).alloc _
    have hblk:Blk ((W.alloc (.cells (madeCells #[.int .u32 0] k) 32)).alloc (.map #[] 0)) W.heap.size k (uN λ_=>0):=(Blk.new _ _ _ k _ _ rfl (by simp[size_madeCells]) (λi hi=>by
     rw[made_at hi,show(#[Value.int .u32 0]:Array Value).size=1 from rfl,Nat.mod_one];rfl)).alloc _
    have hmp:=MpN.made prog 32 3 .u32 .i64 (W.alloc (.cells (madeCells #[.int .u32 0] k) 32));rw[World.size_alloc,eW]at hmp;rw[eW]at hblk;refine⟨⟨(HRR.out.fr f (λi hi e=>HW0.out (e▸hi))).fr fA (λ_ _ q=>q),hblk,hmp,rfl,rfl,List.nodup_nil,by simp,λx hx=>(by cases hx),hn,λq=>by have:=hlt _ q;omega,λq=>by have:=hlt _ q;omega,by omega⟩,?_,?_⟩
    .rintro i(q|q|q)
     .have:=HFG.out i q;simp at this;omega
     .omega
     .omega
    .have f0:Fr NoF w wr:=((((Fr.refl NoF w).alloc _).trans HF.out (λ_ q=>q.elim))).trans HF2.out (λi q=>.inr (by have:=HFG.out i q;simp at this;omega))
     exact(f0.trans f (λi e=>.inr (by omega))).trans fA (λ_ q=>q.elim)
   have hG:Blk (((((wr.setCell ⟨w.heap.size,0,none⟩ (.pointer (some ⟨gr,0,none⟩))).setCell ⟨w.heap.size,1,none⟩ (.slice (some ⟨wr.heap.size,0,none⟩) k k)).setCell ⟨w.heap.size,2,none⟩ (.map (some (wr.heap.size+1)))).alloc (.cells (madeCells #[.int .u32 0] k) 32)).alloc (.map #[] 0)) w.heap.size 3 _:=((((HB.out.set 0 _).set 1 _).set 2 _).alloc _).alloc _;have r0':((((((wr.setCell ⟨w.heap.size,0,none⟩ (.pointer (some ⟨gr,0,none⟩))).setCell ⟨w.heap.size,1,none⟩ (.slice (some ⟨wr.heap.size,0,none⟩) k k)).setCell ⟨w.heap.size,2,none⟩ (.map (some (wr.heap.size+1)))).alloc (.cells (madeCells #[.int .u32 0] k) 32)).alloc (.map #[] 0))).cell? ⟨w.heap.size,0,none⟩=some (.pointer (some ⟨gr,0,none⟩)):=by have:=hG.cell (i:=0) (by omega);simpa[upd]using this
   have r1':((((((wr.setCell ⟨w.heap.size,0,none⟩ (.pointer (some ⟨gr,0,none⟩))).setCell ⟨w.heap.size,1,none⟩ (.slice (some ⟨wr.heap.size,0,none⟩) k k)).setCell ⟨w.heap.size,2,none⟩ (.map (some (wr.heap.size+1)))).alloc (.cells (madeCells #[.int .u32 0] k) 32)).alloc (.map #[] 0))).cell? ⟨w.heap.size,1,none⟩=some (.slice (some ⟨wr.heap.size,0,none⟩) k k):=by have:=hG.cell (i:=1) (by omega);simpa[upd]using this
   have r2':((((((wr.setCell ⟨w.heap.size,0,none⟩ (.pointer (some ⟨gr,0,none⟩))).setCell ⟨w.heap.size,1,none⟩ (.slice (some ⟨wr.heap.size,0,none⟩) k k)).setCell ⟨w.heap.size,2,none⟩ (.map (some (wr.heap.size+1)))).alloc (.cells (madeCells #[.int .u32 0] k) 32)).alloc (.map #[] 0))).cell? ⟨w.heap.size,2,none⟩=some (.map (some (wr.heap.size+1))):=by have:=hG.cell (i:=2) (by omega);simpa[upd]using this
   clear hG;go_wp2;refine bodyPost_ret (v:=.tuple #[.agg #[.pointer (some ⟨gr,0,none⟩),.slice (some ⟨wr.heap.size,0,none⟩) k k,.map (some (wr.heap.size+1))],.int .i64 0]) (by simp only[results,Tryz.results62,go_sem];simp[go_sem,r0',r1',r2']) rfl ⟨gr,wr.heap.size,wr.heap.size+1,FG,rfl,KEY.out _ ?_ (by simp)⟩;exact(((Fr.refl (λi=>i=w.heap.size) wr).setCell (p:=⟨w.heap.size,0,none⟩) (.inl rfl) _).setCell (p:=⟨w.heap.size,1,none⟩) (.inl rfl) _).setCell (p:=⟨w.heap.size,2,none⟩) (.inl rfl) _
def t70:T7:=⟨[],[],λ_=>0,λ_=>false,[],[],0⟩
theorem ar_new_yes(n:Nat)(w:World)(h1:1<=n)(hn:n<=65535):
  Calls prog 37 #[.int .i64 n] w λe w'=>∃b F,e=.returned (.tuple #[.pointer (some ⟨b,0,none⟩),.int .i64 0])/\CRA b n w' t70 F/\(∀i,F i->w.heap.size<=i)/\Fr NoF w w':=by
 obtain⟨i0,hi0,hz0,hz1,hz2⟩:=info_parts' (P:=prog) (e:=32) (z:=.int .u32 0) (s:=1) (b:=4) (by kernel_rfl);obtain⟨i1,hi1,hy0,hy1,hy2⟩:=info_parts' (P:=prog) (e:=4) (z:=.bool false) (s:=1) (b:=1) (by kernel_rfl)
 have mk1:∀w:World,(Instr.makeSlice 40 (.int .i64 (n:Int)) (.int .i64 (n:Int))).run prog w=
   .ok (.slice (some ⟨w.heap.size,0,none⟩) n n) (w.alloc (.cells (madeCells #[.int .u32 0] n) 32)):=by
  intro w;have:=run_make (P:=prog) w 40 32 i0 _ underlying40 hi0 hz0 .i64 .i64 (n:Int) (n:Int) (by omega) (Int.le_refl _) (by rw[hz2];omega) (by omega);rw[show((n:Int)).toNat=n from by omega,hz1,Nat.mul_one]at this;exact this
 have mk2:∀w:World,(Instr.makeSlice 98 (.int .i64 (n:Int)) (.int .i64 (n:Int))).run prog w=
   .ok (.slice (some ⟨w.heap.size,0,none⟩) n n) (w.alloc (.cells (madeCells #[.bool false] n) 4)):=by
  intro w;have:=run_make (P:=prog) w 98 4 i1 _ underlying98 hi1 hy0 .i64 .i64 (n:Int) (n:Int) (by omega) (Int.le_refl _) (by rw[hy2];omega) (by omega);rw[show((n:Int)).toNat=n from by omega,hy1,Nat.mul_one]at this;exact this
 have MK:=Hd (And.intro mk1 mk2);have HN:=Hd (new_yes n 2 w (by omega) (by omega) (by omega));have HNG:=Hd (λw=>ga_new (n+1) w (by omega));clear mk1 mk2 hi0 hz0 hz1 hz2 hi1 hy0 hy1 hy2;go_enter func37,ntmps37
 go_wp2_with fail
 refine HN.out.mono ?_;clear HN;rintro e w1⟨rb,FR,rfl,hR,hFR,hf1⟩;have HR:=Hd hR;have HFR:=Hd hFR;have HF1:=Hd hf1;clear hR hFR hf1
 go_wp2_with fail
 refine(HNG.out w1).mono ?_;clear HNG;rintro e w2⟨gr,gpb,mb,FG,rfl,hG,hFG,hf2⟩;have HG:=Hd hG;have HFG:=Hd hFG;have HF2:=Hd hf2;obtain⟨mk1,mk2⟩:=MK.out
 have KEY:Hid (∀(wz:World) (b pb eb:Nat),Fr NoF w2 wz->wz.heap[pb]?=some (.cells (madeCells #[.int .u32 0] n) 32 (0,0))->wz.heap[eb]?=some (.cells (madeCells #[.bool false] n) 4 (0,0))->
   wz.heap[b]?=some (.cells #[.int .i64 0,.pointer (some ⟨rb,0,none⟩),.slice (some ⟨pb,0,none⟩) n n,.slice (some ⟨eb,0,none⟩) n n,.int .i64 0,.pointer (some ⟨gr,0,none⟩),.slice (some ⟨gpb,0,none⟩) (n+1) (n+1),.map (some mb)] 140 (0,0))->¬b=pb->¬b=eb->¬pb=eb->w2.heap.size<=b->w2.heap.size<=pb->w2.heap.size<=eb->
   ∃F,CRA b n wz t70 F/\∀i,F i->w.heap.size<=i):=by
  intro wz b pb eb fz g1 g2 g3 d1 d2 d3 l1 l2 l3;have hR0:=HR.out;have hrl:=hR0.lt
  have hgl:∀i,FGm FG gpb mb i->i<w2.heap.size:=by
   rintro i(q|rfl|rfl)
   .exact hG.rr.lt i q
   .exact hG.pg.lt
   .exact hG.mp.lt
  have hgb:=hFG;have s1:=HF1.out.size;have s2:=hf2.size
  let A:TA:=⟨rb,pb,eb,gr,gpb,mb,FR,FG,λi=>open Classical in if i=b then 0 else if i=pb then 1 else if i=eb then 2 else if FR i then 3 else if FG i then 4 else if i=gpb then 5 else if i=mb then 6 else 7⟩
  have hFRl:∀i,FR i->¬i=b/\¬i=pb/\¬i=eb:=λi q=>by have:=hrl i q;exact⟨by omega,by omega,by omega⟩
  have hFGl:∀i,FGm FG gpb mb i->¬i=b/\¬i=pb/\¬i=eb/\¬FR i:=λi q=>by
   have h1:=hgl i q;have h2:=hgb i q;exact⟨by omega,by omega,by omega,λq2=>by have:=hrl i q2;omega⟩
  have hL:TL b A:=by
   refine⟨if_pos rfl,?_,?_,λi q=>?_,λi q=>?_,?_,?_⟩
   .show(if pb=b then 0 else _)=1
    rw[if_neg (λe=>d1 e.symm),if_pos rfl]
   .show(if eb=b then 0 else _)=2
    rw[if_neg (λe=>d2 e.symm),if_neg (λe=>d3 e.symm),if_pos rfl]
   .obtain⟨q1,q2,q3⟩:=hFRl i q
    show(if i=b then 0 else _)=3
    rw[if_neg q1,if_neg q2,if_neg q3,if_pos q]
   .obtain⟨q1,q2,q3,q4⟩:=hFGl i (.inl q)
    show(if i=b then 0 else _)=4
    rw[if_neg q1,if_neg q2,if_neg q3,if_neg q4,if_pos q]
   .obtain⟨q1,q2,q3,q4⟩:=hFGl gpb (.inr (.inl rfl))
    show(if gpb=b then 0 else _)=5
    rw[if_neg q1,if_neg q2,if_neg q3,if_neg q4,if_neg hG.d1,if_pos rfl]
   .obtain⟨q1,q2,q3,q4⟩:=hFGl mb (.inr (.inr rfl))
    show(if mb=b then 0 else _)=6
    rw[if_neg q1,if_neg q2,if_neg q3,if_neg q4,if_neg hG.d2,if_neg (λe=>hG.d3 e.symm),if_pos rfl]
  refine⟨FT A b,⟨A,[],[],List.range (n+1),λ_=>0,⟨⟨_,_,g3,rfl,λi hi=>?_⟩,(hR0.fr hf2 (λ_ _ q=>q)).fr fz (λ_ _ q=>q),⟨_,_,g1,by simp[size_madeCells],λi hi=>?_⟩,⟨_,_,g2,by simp[size_madeCells],λi hi=>?_⟩,hG.fr fz (λ_ _ q=>q) id id,hL,λf q=>(by cases q),hn,Nat.zero_le _,Nat.zero_le _⟩,⟨λf q=>(by rcases q with q|q<;>cases q),λf g q=>(by rcases q with q|q<;>cases q)⟩,λ_=>Iff.rfl⟩,λi q=>?_⟩
  .match i,hi with
   |0,_=>rfl
   |1,_=>rfl
   |2,_=>rfl
   |3,_=>rfl
   |4,_=>rfl
   |5,_=>rfl
   |6,_=>rfl
   |7,_=>rfl
  .rw[made_at hi,show(#[Value.int .u32 0]:Array Value).size=1 from rfl,Nat.mod_one];rfl
  .rw[made_at hi,show(#[Value.bool false]:Array Value).size=1 from rfl,Nat.mod_one];rfl
  .rcases q with e|e|e|q|q
   .rw[e];omega
   .rw[e];show w.heap.size<=pb;omega
   .rw[e];show w.heap.size<=eb;omega
   .exact HFR.out i q
   .have:=hgb i q;omega
 clear hG hFG hf2 MK;go_wp2
 go_region
 .go_wp2
  go_returns
  obtain⟨F,P,hF⟩:=KEY.out ((((w2.alloc (.cells #[.pointer (some ⟨gr,0,none⟩),.slice (some ⟨gpb,0,none⟩) (n+1) (n+1),.map (some mb)] 136)).alloc (.cells (madeCells #[.int .u32 0] n) 32)).alloc (.cells (madeCells #[.bool false] n) 4)).alloc (.cells #[.int .i64 0,.pointer (some ⟨rb,0,none⟩),.slice (some ⟨w2.heap.size+1,0,none⟩) n n,.slice (some ⟨w2.heap.size+2,0,none⟩) n n,.int .i64 0,.pointer (some ⟨gr,0,none⟩),.slice (some ⟨gpb,0,none⟩) (n+1) (n+1),.map (some mb)] 140)) (w2.heap.size+3) (w2.heap.size+1) (w2.heap.size+2) ((((Fr.refl NoF w2).alloc _).alloc _).alloc _|>.alloc _)
   (heap_step _ _ _ _ (heap_step _ _ _ _ (heap_alloc_new _ _ _ (by simp)))) (heap_step _ _ _ _ (heap_alloc_new _ _ _ (by simp))) (heap_alloc_new _ _ _ (by simp)) (by omega) (by omega) (by omega) (by omega) (by omega) (by omega)
  exact⟨w2.heap.size+3,F,rfl,(cod7 _ n).fr P ((Fr.refl NoF _).drew) (λ_ _ q=>q),hF,((HF1.out.trans HF2.out (λ_ q=>q.elim)).alloc _|>.alloc _|>.alloc _|>.alloc _).drew⟩
 .go_wp2
  go_returns
  obtain⟨F,P,hF⟩:=KEY.out ((((w2.alloc (.cells #[.pointer (some ⟨gr,0,none⟩),.slice (some ⟨gpb,0,none⟩) (n+1) (n+1),.map (some mb)] 136)).alloc (.cells (madeCells #[.bool false] n) 4)).alloc (.cells (madeCells #[.int .u32 0] n) 32)).alloc (.cells #[.int .i64 0,.pointer (some ⟨rb,0,none⟩),.slice (some ⟨w2.heap.size+2,0,none⟩) n n,.slice (some ⟨w2.heap.size+1,0,none⟩) n n,.int .i64 0,.pointer (some ⟨gr,0,none⟩),.slice (some ⟨gpb,0,none⟩) (n+1) (n+1),.map (some mb)] 140)) (w2.heap.size+3) (w2.heap.size+2) (w2.heap.size+1) ((((Fr.refl NoF w2).alloc _).alloc _).alloc _|>.alloc _)
   (heap_step _ _ _ _ (heap_alloc_new _ _ _ (by simp))) (heap_step _ _ _ _ (heap_step _ _ _ _ (heap_alloc_new _ _ _ (by simp)))) (heap_alloc_new _ _ _ (by simp)) (by omega) (by omega) (by omega) (by omega) (by omega) (by omega)
  exact⟨w2.heap.size+3,F,rfl,(cod7 _ n).fr P ((Fr.refl NoF _).drew) (λ_ _ q=>q),hF,((HF1.out.trans HF2.out (λ_ q=>q.elim)).alloc _|>.alloc _|>.alloc _|>.alloc _).drew⟩
end
end Go.Proofs.YtpkbkhffglikhaaGreatDoor
