/- Part 15. -/
import Derived.Test.YtoenclhimbpfeaaGreatDoorW14
namespace Go.Proofs.YtoenclhimbpfeaaGreatDoor
set_option linter.all false
set_option maxHeartbeats 16000000
set_option maxRecDepth 100000
section
open Go.Maps Go.Proofs.Tryz Go.RowKit
theorem rM(k:Nat):cH [[],List.range k] 1 k false=[[],List.range (k+1)]:=by
 rw[dz (by simp)];rw[ah (l:=List.range k) (λq=>by have:=List.mem_range.1 q;omega),List.range_succ];rfl
theorem jV(n:Nat)(w:World)(hn:n<=65535):
  Calls prog 50 #[.int .i64 n] w λe w'=>∃gr gpb mb FG,e=.returned (.tuple #[.agg #[.pointer (some ⟨gr,0,none⟩),.slice (some ⟨gpb,0,none⟩) n n,.map (some mb)],.int .i64 0])/\
   GR w' gr gpb mb n [] (List.range n) (λ_=>0) [] FG/\(∀i,FGm FG gpb mb i->w.heap.size<=i)/\Fr NoF w w':=by
 have mk1:=mkU n (by omega);have HN:Hid (∀w:World,Calls prog 47 #[.int .i64 n,.int .i64 2] w λe w'=>∃b F,e=.returned (.tuple #[.pointer (some ⟨b,0,none⟩),.int .i64 0])/\RR w' b n 2 (List.replicate 2 []) F/\(∀i,F i->w.heap.size<=i)/\Fr NoF w w'):=λw=>gx n 2 w (by omega) (by omega) (by omega)
 have hmm:=@run_makeMap prog;go_enter func50,ntmps50
 go_wp2_with fail
 refine(HN.out _).mono ?_;clear HN;rintro e w1⟨gr,FG,rfl,hR,hFG,hf⟩;have hw0:¬FG w.heap.size:=λq=>by have:=hFG _ q;simp at this;omega
 have hgs:=hR.lt;have hsz:=hf.size;simp only[World.size_alloc]at hsz;have lw:w.heap.size<w1.heap.size:=by omega
 have HFG:=Hd hFG;have HF:=Hd hf;have HR:=Hd hR;have HW0:=Hd hw0;clear hR hFG hf hw0 hgs;go_wp2
 go_loopw [6,17] (λ_ i wr=>∃k:Nat,k<=n/\i=.int .i64 k/\RR wr gr n 2 [[],List.range k] FG/\Fr FG w1 wr) (λ_ i _=>n-(intOf i).toNat)
 case atStart=>exact⟨0,Nat.zero_le _,rfl,HR.out,Fr.refl _ _⟩
 case round=>
  obtain⟨k,hk,rfl,hR,hf⟩:=hrel;by_cases hlt:k<n
  .have HB:=aI hR 1 k (by omega) hlt
   rw[rM]at HB;have HB:=Hd HB;have HF2:=Hd hf;clear hR hf
   go_wp2_with fail
   refine HB.out.mono ?_;rintro e w2⟨rfl,hR2,f2⟩;have KEY:=Hd (And.intro hR2 (HF2.out.trans f2 (λ_ q=>.inl q)));clear hR2 f2 HB HF2;go_wp2
   go_roundw
   case rel=>exact⟨k+1,hlt,by go_num,KEY.out⟩
   case measure=>first|(simp[intOf];done)|(simp[intOf];omega)
  .obtain rfl:k=n:=by omega
   have hB0:Blk (w.alloc (.cells #[.pointer none,.slice none 0 0,.map none] 140)) w.heap.size 3 (λi=>(#[.pointer none,.slice none 0 0,.map none]:Array Value).getD i undef):=Blk.new _ _ _ 3 _ _ rfl rfl (λi hi=>by
    match i,hi with
    |0,_=>rfl
    |1,_=>rfl
    |2,_=>rfl)
   have hB:=(hB0.fr HF.out id).fr hf HW0.out;have r0:wr.cell? ⟨w.heap.size,0,none⟩=some (.pointer none):=hB.cell (i:=0) (by omega);have r1:wr.cell? ⟨w.heap.size,1,none⟩=some (.slice none 0 0):=hB.cell (i:=1) (by omega);have r2:wr.cell? ⟨w.heap.size,2,none⟩=some (.map none):=hB.cell (i:=2) (by omega);have rf:∀i,wr.frozen? ⟨w.heap.size,i,none⟩=false:=hB.frozen;have hs2:=hf.size;have lw2:w.heap.size<wr.heap.size:=by omega
   have HRR:=Hd hR;have HF2:=Hd hf;have HB:=Hd hB;clear hR hf hB hB0
   have KEY:Hid (∀W:World,Fr (λi=>i=w.heap.size) wr W->W.heap.size=wr.heap.size->GR ((W.alloc (.cells (madeCells #[.int .u32 0] k) 34)).alloc (.map #[] 0)) gr wr.heap.size (wr.heap.size+1) k [] (List.range k) (λ_=>0) [] FG/\(∀i,FGm FG wr.heap.size (wr.heap.size+1) i->w.heap.size<=i)/\Fr NoF w ((W.alloc (.cells (madeCells #[.int .u32 0] k) 34)).alloc (.map #[] 0))):=by
    intro W f eW;have hlt:=HRR.out.lt;have fA:Fr NoF W ((W.alloc (.cells (madeCells #[.int .u32 0] k) 34)).alloc (.map #[] 0)):=((Fr.refl _ _).alloc _).alloc _
    have hblk:Blk ((W.alloc (.cells (madeCells #[.int .u32 0] k) 34)).alloc (.map #[] 0)) W.heap.size k (uN λ_=>0):=(Blk.new _ _ _ k _ _ rfl (by simp[size_madeCells]) (λi hi=>by
     rw[du hi,show(#[Value.int .u32 0]:Array Value).size=1 from rfl,Nat.mod_one];rfl)).alloc _
    have hmp:=MpN.made prog 34 3 .u32 .i64 (W.alloc (.cells (madeCells #[.int .u32 0] k) 34));rw[World.size_alloc,eW]at hmp;rw[eW]at hblk;refine⟨⟨(HRR.out.fr f (λi hi e=>HW0.out (e▸hi))).fr fA (λ_ _ q=>q),hblk,hmp,rfl,List.nodup_nil,by simp,λx hx=>(by cases hx),hn,λq=>by have:=hlt _ q;omega,λq=>by have:=hlt _ q;omega,by omega⟩,?_,?_⟩
    .rintro i(q|q|q)
     .have:=HFG.out i q;simp at this;omega
     .omega
     .omega
    .have f0:Fr NoF w wr:=((((Fr.refl NoF w).alloc _).trans HF.out (λ_ q=>q.elim))).trans HF2.out (λi q=>.inr (by have:=HFG.out i q;simp at this;omega))
     exact(f0.trans f (λi e=>.inr (by omega))).trans fA (λ_ q=>q.elim)
   have hG:Blk (((((wr.setCell ⟨w.heap.size,0,none⟩ (.pointer (some ⟨gr,0,none⟩))).setCell ⟨w.heap.size,1,none⟩ (.slice (some ⟨wr.heap.size,0,none⟩) k k)).setCell ⟨w.heap.size,2,none⟩ (.map (some (wr.heap.size+1)))).alloc (.cells (madeCells #[.int .u32 0] k) 34)).alloc (.map #[] 0)) w.heap.size 3 _:=((((HB.out.set 0 _).set 1 _).set 2 _).alloc _).alloc _;have r0':=(hG.cell (i:=0) (by omega)).trans (show _=some (.pointer (some ⟨gr,0,none⟩))from by simp[upd]);have r1':=(hG.cell (i:=1) (by omega)).trans (show _=some (.slice (some ⟨wr.heap.size,0,none⟩) k k)from by simp[upd]);have r2':=(hG.cell (i:=2) (by omega)).trans (show _=some (.map (some (wr.heap.size+1)))from by simp[upd]);clear hG;go_wp2;refine bodyPost_ret (v:=.tuple #[.agg #[.pointer (some ⟨gr,0,none⟩),.slice (some ⟨wr.heap.size,0,none⟩) k k,.map (some (wr.heap.size+1))],.int .i64 0]) (by simp only[results,Tryz.results50,go_sem];simp[go_sem,r0',r1',r2']) rfl ⟨gr,wr.heap.size,wr.heap.size+1,FG,rfl,KEY.out _ ?_ (by simp)⟩;exact(((Fr.refl (λi=>i=w.heap.size) wr).setCell (p:=⟨w.heap.size,0,none⟩) (.inl rfl) _).setCell (p:=⟨w.heap.size,1,none⟩) (.inl rfl) _).setCell (p:=⟨w.heap.size,2,none⟩) (.inl rfl) _
def t60:T6:=⟨[],[],λ_=>0,λ_=>false,[]⟩
theorem s8(n inn out:Nat)(w:World)(h1:1<=n)(hn:n<=65535)(hi:inn<=65535)(ho:out<=65535):
  Calls prog 28 #[.int .i64 n,.int .i64 inn,.int .i64 out] w λe w'=>∃b F,e=.returned (.tuple #[.pointer (some ⟨b,0,none⟩),.int .i64 0])/\CRT b n inn out w' t60 F/\(∀i,F i->w.heap.size<=i)/\Fr NoF w w':=by
 have mk1:=mkU n (by omega);have mk2:=mkB n (by omega);have MK:=Hd (And.intro mk1 mk2);have HN:=Hd (gx n 2 w (by omega) (by omega) (by omega));have HNG:=Hd (λw=>jV out w ho);clear mk1 mk2;go_enter func28,ntmps28
 go_wp2_with fail
 refine HN.out.mono ?_;clear HN;rintro e w1⟨rb,FR,rfl,hR,hFR,hf1⟩;have HR:=Hd hR;have HFR:=Hd hFR;have HF1:=Hd hf1;clear hR hFR hf1
 go_wp2_with fail
 refine(HNG.out w1).mono ?_;clear HNG;rintro e w2⟨gr,gpb,mb,FG,rfl,hG,hFG,hf2⟩;have HG:=Hd hG;have HFG:=Hd hFG;have HF2:=Hd hf2;obtain⟨mk1,mk2⟩:=MK.out
 have KEY:Hid (∀(wz:World) (b pb eb:Nat),Fr NoF w2 wz->wz.heap[b]?=some (.cells #[.int .i64 inn,.pointer (some ⟨rb,0,none⟩),.slice (some ⟨pb,0,none⟩) n n,.slice (some ⟨eb,0,none⟩) n n,.int .i64 0,.pointer (some ⟨gr,0,none⟩),.slice (some ⟨gpb,0,none⟩) out out,.map (some mb)] 144 (0,0))->
   wz.heap[pb]?=some (.cells (madeCells #[.int .u32 0] n) 34 (0,0))->wz.heap[eb]?=some (.cells (madeCells #[.bool false] n) 4 (0,0))->¬b=pb->¬b=eb->¬pb=eb->w2.heap.size<=b->w2.heap.size<=pb->w2.heap.size<=eb->
   ∃c F,Ending.returned (.tuple #[.pointer (some ⟨b,0,none⟩),.int .i64 0])=.returned (.tuple #[.pointer (some ⟨c,0,none⟩),.int .i64 0])/\CRT c n inn out wz.drew t60 F/\(∀i,F i->w.heap.size<=i)/\Fr NoF w wz.drew):=by
  intro wz b pb eb fz g3 g1 g2 d1 d2 d3 l1 l2 l3;have hR0:=HR.out;have hrl:=hR0.lt;have s1:=HF1.out.size;have s2:=hf2.size
  obtain⟨hL,k1,k2,k3,k4⟩:=vq d1 d2 d3 l1 l2 l3 (z0:=w.heap.size) (by omega) (λi q=>⟨HFR.out i q,by have:=hrl i q;omega⟩) (λi q=>⟨by have:=hFG i q;omega,by
   rcases q with q|rfl|rfl
   .exact hG.rr.lt i q
   .exact hG.pg.lt
   .exact hG.mp.lt,λq2=>by have:=hrl i q2;have:=hFG i q;omega⟩) hG.d1 hG.d2 (λe=>hG.d3 e.symm) g1 g2 g3
  exact⟨b,FT _ b,rfl,(GC _ n inn out).fr ⟨_,[],List.range out,λ_=>0,⟨k1,(hR0.fr hf2 (λ_ _ q=>q)).fr fz (λ_ _ q=>q),k2,k3,hG.fr fz (λ_ _ q=>q) id id,hL,λf q=>(by cases q),hn,hi⟩,⟨λf q=>(by rcases q with q|q<;>cases q),λf g q=>(by rcases q with q|q<;>cases q)⟩,λ_=>Iff.rfl⟩ ((Fr.refl NoF _).drew) (λ_ _ q=>q),k4,((HF1.out.trans HF2.out (λ_ q=>q.elim)).trans fz (λ_ q=>q.elim)).drew⟩
 clear hG hFG hf2 MK;go_wp2
 go_region
 all_goals
  go_wp2;go_returns;exact KEY.out _ _ _ _ (by repeat(first|exact Fr.refl NoF _|apply Fr.alloc)) (heap_alloc_new _ _ _ (by simp)) (by first|exact aH _ _ _ _ (heap_alloc_new _ _ _ (by simp))|exact aH _ _ _ _ (aH _ _ _ _ (heap_alloc_new _ _ _ (by simp)))) (by first|exact aH _ _ _ _ (heap_alloc_new _ _ _ (by simp))|exact aH _ _ _ _ (aH _ _ _ _ (heap_alloc_new _ _ _ (by simp)))) (by omega) (by omega) (by omega) (by omega) (by omega) (by omega)
end
end Go.Proofs.YtoenclhimbpfeaaGreatDoor
