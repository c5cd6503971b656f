/- Part 34. -/
import Derived.Test.YtoenclhimbpfeaaGreatDoorC33
import Derived.Test.YtoenclhimbpfeaaGreatDoorC18
namespace Go.Proofs.YtoenclhimbpfeaaGreatDoor
set_option linter.all false
set_option maxHeartbeats 16000000
set_option maxRecDepth 100000
section
open Go.Maps Go.Proofs.Tryz Go.RowKit
theorem made_at6{N i:Nat}(hi:i<N):(madeCells #[Value.int .u32 0,.int .i64 0,.bool false,.bool false,.bool false,.bool false] N)[i]?=some (enF (fun _=>⟨0,0,false,false,false⟩) (fun _=>false) i):=by
 rw[made_get hi];have h6:i%6<6:=Nat.mod_lt _ (by omega)
 show some (#[Value.int .u32 0,.int .i64 0,.bool false,.bool false,.bool false,.bool false]:Array Value)[i%6]! =_
 unfold enF;generalize i%6=k at*
 match k,h6 with
 |0,_=>rfl
 |1,_=>rfl
 |2,_=>rfl
 |3,_=>rfl
 |4,_=>rfl
 |5,_=>rfl
theorem range_put2(k:Nat):putL [[],List.range k] 1 k false=[[],List.range (k+1)]:=by
 rw[putL2_1 (by simp)];rw[awayN_not (l:=List.range k) (fun q=>by have:=List.mem_range.1 q;omega),List.range_succ];rfl
theorem infoEntry:(prog.info? 281).map (fun i=>(i.zero,i.size,i.bytes))=some (some (.agg #[.int .u32 0,.int .i64 0,.bool false,.bool false,.bool false,.bool false]),6,24):=by kernel_rfl
theorem ck_new(N:Nat)(w:World)(hN:N<=200000):
  Calls prog 52 #[.int .i64 N] w fun e w'=>∃rb eb FR,e=.returned (.tuple #[.agg #[.pointer (some ⟨rb,0,none⟩),.slice (some ⟨eb,0,none⟩) N N,.int .i64 0,.int .i64 0,.int .i64 0],.int .i64 0])∧
   RR w' rb N 2 [[],List.range N] FR∧Blk w' eb (N*6) (enF (fun _=>⟨0,0,false,false,false⟩) (fun _=>false))∧(∀i,FR i->w.heap.size<=i∧¬i=eb)∧w.heap.size<=eb∧Fr NoF w w':=by
 obtain⟨i0,hi0,hz0,hz1,hz2⟩:=info_parts infoEntry
 have mk1:∀w:World,(Instr.makeSlice 151 (.int .i64 (N:Int)) (.int .i64 (N:Int))).run prog w=
   .ok (.slice (some ⟨w.heap.size,0,none⟩) N N) (w.alloc (.cells (madeCells #[.int .u32 0,.int .i64 0,.bool false,.bool false,.bool false,.bool false] (N*6)) 281)):=by
  intro w;have:=run_make (P:=prog) w 151 281 i0 _ underlying151 hi0 hz0 .i64 .i64 (N:Int) (N:Int) (by omega) (Int.le_refl _) (by rw[hz2];omega) (by omega);rw[show((N:Int)).toNat=N from by omega,hz1]at this;exact this
 have HN:Hid (∀w:World,Calls prog 47 #[.int .i64 N,.int .i64 2] w fun e w'=>∃b F,e=.returned (.tuple #[.pointer (some ⟨b,0,none⟩),.int .i64 0])∧RR w' b N 2 (List.replicate 2 []) F∧(∀i,F i->w.heap.size<=i)∧Fr NoF w w'):=fun w=>new_yes N 2 w (by omega) (by omega) (by omega)
 clear hi0 hz0 hz1 hz2;go_enter func52,ntmps52
 go_wp2_with fail
 refine(HN.out _).mono ?_;clear HN;rintro e w1⟨gr,FG,rfl,hR,hFG,hf⟩;have hw0:¬FG w.heap.size:=fun q=>by have:=hFG _ q;simp at this;omega
 have hgs:=hR.lt;have hsz:=hf.size;simp only[World.size_alloc]at hsz;have lw:w.heap.size<w1.heap.size:=by omega
 have HFG:=Hd hFG;have HF:=Hd hf;have HR:=Hd hR;have HW0:=Hd hw0;clear hR hFG hf hw0 hgs;go_wp2
 go_loopw [6,17] (fun _ i wr=>∃k:Nat,k<=N∧i=.int .i64 k∧RR wr gr N 2 [[],List.range k] FG∧Fr FG w1 wr) (fun _ i _=>N-(intOf i).toNat)
 case atStart=>exact⟨0,Nat.zero_le _,rfl,HR.out,Fr.refl _ _⟩
 case round=>
  obtain⟨k,hk,rfl,hR,hf⟩:=hrel;by_cases hlt:k<N
  .have HB:=back_yes hR 1 k (by omega) hlt
   rw[range_put2]at HB;have HB:=Hd HB;have HF2:=Hd hf;clear hR hf
   go_wp2_with fail
   refine HB.out.mono ?_;rintro e w2⟨rfl,hR2,f2⟩;have KEY:=Hd (And.intro hR2 (HF2.out.trans f2 (fun _ q=>.inl q)));clear hR2 f2 HB HF2;go_wp2
   go_roundw
   case rel=>exact⟨k+1,hlt,by go_num,KEY.out⟩
   case measure=>first|(simp[intOf];done)|(simp[intOf];omega)
  .obtain rfl:k=N:=by omega
   have hB0:Blk (w.alloc (.cells #[.pointer none,.slice none 0 0,.int .i64 0,.int .i64 0,.int .i64 0] 154)) w.heap.size 5 (fun i=>(#[.pointer none,.slice none 0 0,.int .i64 0,.int .i64 0,.int .i64 0]:Array Value).getD i undef):=Blk.new _ _ _ 5 _ _ rfl rfl (fun i hi=>by
    match i,hi with
    |0,_=>rfl
    |1,_=>rfl
    |2,_=>rfl
    |3,_=>rfl
    |4,_=>rfl)
   have hB:=(hB0.fr HF.out id).fr hf HW0.out;have r0:wr.cell? ⟨w.heap.size,0,none⟩=some (.pointer none):=hB.cell (i:=0) (by omega);have r1:wr.cell? ⟨w.heap.size,1,none⟩=some (.slice none 0 0):=hB.cell (i:=1) (by omega);have r2:wr.cell? ⟨w.heap.size,2,none⟩=some (.int .i64 0):=hB.cell (i:=2) (by omega);have r3:wr.cell? ⟨w.heap.size,3,none⟩=some (.int .i64 0):=hB.cell (i:=3) (by omega);have r4:wr.cell? ⟨w.heap.size,4,none⟩=some (.int .i64 0):=hB.cell (i:=4) (by omega);have rf:∀i,wr.frozen? ⟨w.heap.size,i,none⟩=false:=hB.frozen;have hs2:=hf.size;have lw2:w.heap.size<wr.heap.size:=by omega
   have HRR:=Hd hR;have HF2:=Hd hf;have HB:=Hd hB;clear hR hf hB hB0;have hG:Blk ((((((wr.setCell ⟨w.heap.size,0,none⟩ (.pointer (some ⟨gr,0,none⟩))).setCell ⟨w.heap.size,1,none⟩ (.slice (some ⟨wr.heap.size,0,none⟩) k k)).setCell ⟨w.heap.size,2,none⟩ (.int .i64 0)).setCell ⟨w.heap.size,3,none⟩ (.int .i64 0)).setCell ⟨w.heap.size,4,none⟩ (.int .i64 0)).alloc (.cells (madeCells #[.int .u32 0,.int .i64 0,.bool false,.bool false,.bool false,.bool false] (k*6)) 281)) w.heap.size 5 _:=(((((HB.out.set 0 _).set 1 _).set 2 _).set 3 _).set 4 _).alloc _;have r0':=(hG.cell (i:=0) (by omega)).trans (show _=some (.pointer (some ⟨gr,0,none⟩))from by simp[upd]);have r1':=(hG.cell (i:=1) (by omega)).trans (show _=some (.slice (some ⟨wr.heap.size,0,none⟩) k k)from by simp[upd]);have r2':=(hG.cell (i:=2) (by omega)).trans (show _=some (.int .i64 0)from by simp[upd]);have r3':=(hG.cell (i:=3) (by omega)).trans (show _=some (.int .i64 0)from by simp[upd]);have r4':=(hG.cell (i:=4) (by omega)).trans (show _=some (.int .i64 0)from by simp[upd])
   have KEY:Hid (RR ((((((wr.setCell ⟨w.heap.size,0,none⟩ (.pointer (some ⟨gr,0,none⟩))).setCell ⟨w.heap.size,1,none⟩ (.slice (some ⟨wr.heap.size,0,none⟩) k k)).setCell ⟨w.heap.size,2,none⟩ (.int .i64 0)).setCell ⟨w.heap.size,3,none⟩ (.int .i64 0)).setCell ⟨w.heap.size,4,none⟩ (.int .i64 0)).alloc (.cells (madeCells #[.int .u32 0,.int .i64 0,.bool false,.bool false,.bool false,.bool false] (k*6)) 281)) gr k 2 [[],List.range k] FG∧Blk ((((((wr.setCell ⟨w.heap.size,0,none⟩ (.pointer (some ⟨gr,0,none⟩))).setCell ⟨w.heap.size,1,none⟩ (.slice (some ⟨wr.heap.size,0,none⟩) k k)).setCell ⟨w.heap.size,2,none⟩ (.int .i64 0)).setCell ⟨w.heap.size,3,none⟩ (.int .i64 0)).setCell ⟨w.heap.size,4,none⟩ (.int .i64 0)).alloc (.cells (madeCells #[.int .u32 0,.int .i64 0,.bool false,.bool false,.bool false,.bool false] (k*6)) 281)) wr.heap.size (k*6) (enF (fun _=>⟨0,0,false,false,false⟩) (fun _=>false))∧(∀i,FG i->w.heap.size<=i∧¬i=wr.heap.size)∧w.heap.size<=wr.heap.size∧Fr NoF w ((((((wr.setCell ⟨w.heap.size,0,none⟩ (.pointer (some ⟨gr,0,none⟩))).setCell ⟨w.heap.size,1,none⟩ (.slice (some ⟨wr.heap.size,0,none⟩) k k)).setCell ⟨w.heap.size,2,none⟩ (.int .i64 0)).setCell ⟨w.heap.size,3,none⟩ (.int .i64 0)).setCell ⟨w.heap.size,4,none⟩ (.int .i64 0)).alloc (.cells (madeCells #[.int .u32 0,.int .i64 0,.bool false,.bool false,.bool false,.bool false] (k*6)) 281))):=by
    have hlt:=HRR.out.lt;have f5:Fr (fun i=>i=w.heap.size) wr (((((wr.setCell ⟨w.heap.size,0,none⟩ (.pointer (some ⟨gr,0,none⟩))).setCell ⟨w.heap.size,1,none⟩ (.slice (some ⟨wr.heap.size,0,none⟩) k k)).setCell ⟨w.heap.size,2,none⟩ (.int .i64 0)).setCell ⟨w.heap.size,3,none⟩ (.int .i64 0)).setCell ⟨w.heap.size,4,none⟩ (.int .i64 0)):=(((((Fr.refl (fun i=>i=w.heap.size) wr).setCell (p:=⟨w.heap.size,0,none⟩) (.inl rfl) _).setCell (p:=⟨w.heap.size,1,none⟩) (.inl rfl) _).setCell (p:=⟨w.heap.size,2,none⟩) (.inl rfl) _).setCell (p:=⟨w.heap.size,3,none⟩) (.inl rfl) _).setCell (p:=⟨w.heap.size,4,none⟩) (.inl rfl) _;have f6:=f5.alloc (.cells (madeCells #[.int .u32 0,.int .i64 0,.bool false,.bool false,.bool false,.bool false] (k*6)) 281);have hsz5:(((((wr.setCell ⟨w.heap.size,0,none⟩ (.pointer (some ⟨gr,0,none⟩))).setCell ⟨w.heap.size,1,none⟩ (.slice (some ⟨wr.heap.size,0,none⟩) k k)).setCell ⟨w.heap.size,2,none⟩ (.int .i64 0)).setCell ⟨w.heap.size,3,none⟩ (.int .i64 0)).setCell ⟨w.heap.size,4,none⟩ (.int .i64 0)).heap.size=wr.heap.size:=by simp
    have f0:Fr NoF w wr:=((((Fr.refl NoF w).alloc _).trans HF.out (fun _ q=>q.elim))).trans HF2.out (fun i q=>.inr (by have:=HFG.out i q;simp at this;omega));refine⟨HRR.out.fr f6 (fun i hi e=>HW0.out (e▸hi)),Blk.new _ _ _ _ _ _ hsz5.symm (by simp[size_madeCells]) (fun i hi=>made_at6 hi),fun i q=>⟨by have:=HFG.out i q;simp at this;omega,fun e=>by have:=hlt i q;omega⟩,by omega,f0.trans f6 (fun i e=>.inr (by omega))⟩
   clear hG;go_wp2;refine bodyPost_ret (v:=.tuple #[.agg #[.pointer (some ⟨gr,0,none⟩),.slice (some ⟨wr.heap.size,0,none⟩) k k,.int .i64 0,.int .i64 0,.int .i64 0],.int .i64 0]) (by simp only[results,Tryz.results52,go_sem];simp[go_sem,r0',r1',r2',r3',r4']) rfl ⟨gr,wr.heap.size,FG,rfl,KEY.out⟩
def raw0(n k g:Nat):Raw:=⟨[],List.range (2*n),fun _=>0,fun _=>⟨0,0,false,false,false⟩,fun _=>false,g,0,0,fun i=>if i<k then-1 else 0,fun _=>none,0⟩
def pr0(n:Nat):PrS:=⟨[],fun _=>0,max (n-1) 1,fun _=>0,fun _=>false⟩
theorem raw0_step(n k g:Nat):upd (raw0 n k g).fm k (-1)=(raw0 n (k+1) g).fm:=by
 funext j
 show upd (fun i=>if i<k then(-1:Int)else 0) k (-1) j=if j<k+1 then(-1:Int)else 0
 by_cases e:j=k
 .subst e;rw[upd_same,if_pos (by omega)]
 .rw[upd_other _ _ e]
  by_cases q:j<k
  .rw[if_pos (show j<k+1 by omega)];exact if_pos q
  .rw[if_neg (show¬j<k+1 by omega)];exact if_neg q
theorem rf0(n:Nat):Rf n (raw0 n n (max (n-1) 1)) (pr0 n):=by
 refine⟨⟨rfl,List.nodup_nil,.inl rfl⟩,rfl,rfl,fun x hx=>(by cases hx),rfl,fun f hf x hx=>?_,fun f hf x hx=>(by cases hx),fun f hf=>.inl (if_pos hf),fun p x=>⟨fun q=>(by cases q),fun q=>(by cases q.1)⟩,rfl,by simp[raw0]⟩;have hx:(if f<n then(-1:Int)else 0)=x:=hx;rw[if_pos hf]at hx;omega
theorem pk0{n:Nat}(h1:1<=n):PK n n (pr0 n)∧PM n (pr0 n):=
 ⟨⟨fun j hj=>.inr ⟨rfl,rfl⟩,fun i j x y hx=>by simp[pr0]at hx,fun x hx=>(by cases hx),Nat.zero_le _,by show 1<=max (n-1) 1∧max (n-1) 1<=max (n-1) 1;omega,h1⟩,⟨fun a b k=>(by obtain⟨x,hx,_⟩:=k;cases hx),fun f hf k=>⟨rfl,rfl⟩⟩⟩
def CRP(b n:Nat)(w:World)(s:PrS)(F:Nat->Prop):Prop:=∃A,PA n b A w s∧PK n n s∧PM n s∧∀i,F i↔FPr A b i
theorem CRP.fr{b n:Nat}{w w':World}{s:PrS}{F G:Nat->Prop}(h:CRP b n w s F)(f:Fr G w w')(hG:∀i,F i->¬G i):CRP b n w' s F:=by
 obtain⟨A,⟨r,h1,h2⟩,h3,h4,h5⟩:=h;exact⟨A,⟨r,h1.fr f (fun i q=>hG i ((h5 i).2 q)),h2⟩,h3,h4,h5⟩
theorem CRP.lt{b n:Nat}{w:World}{s:PrS}{F:Nat->Prop}(h:CRP b n w s F):∀i,F i->i<w.heap.size:=by
 obtain⟨A,⟨r,h1,h2⟩,h3,h4,h5⟩:=h;exact fun i q=>h1.lt i ((h5 i).1 q)
theorem pr_new_no(n:Int)(w:World)(h:n<1∨65535<n):
  Calls prog 30 #[.int .i64 n] w fun e w'=>e=.returned (.tuple #[.pointer none,.int .i64 1])∧w=w':=by
 by_cases h1:n<1
 .clear h
  go_enter func30,ntmps30;go_wp2;go_returns;exact⟨rfl,rfl⟩
 .have h2:65535<n:=by omega
  clear h;go_enter func30,ntmps30;go_wp2;go_returns;exact⟨rfl,rfl⟩
theorem MpV.madeP(w:World):MpV prog 34 .u32 (.int .i64 0) (w.alloc (.map #[] 0)) w.heap.size 0 (mpF fun _=>none):=MpV.made prog 34 .u32 (.int .i64 0) w
theorem MpV.madeP'{mb:Nat}(w:World)(hm:mb=w.heap.size):MpV prog 34 .u32 (.int .i64 0) (w.alloc (.map #[] 0)) mb 0 (mpF fun _=>none):=hm▸MpV.madeP w
theorem pc0{n:Nat}{w w1 wz:World}{rb eb b fb mb:Nat}{FR:Nat->Prop}(hn:n<=65535)(hR:RR w1 rb (2*n) 2 [[],List.range (2*n)] FR)(hE:Blk w1 eb (2*n*6) (enF (fun _=>⟨0,0,false,false,false⟩) (fun _=>false)))(hFR:∀i,FR i->w.heap.size<=i∧¬i=eb)(heb:w.heap.size<=eb)(hs:w.heap.size<=w1.heap.size)
  (fz:Fr NoF w1 wz)(g1:wz.heap[fb]?=some (.cells (madeCells #[.int .i64 0] n) 3 (0,0)))(g2:MpV prog 34 .u32 (.int .i64 0) wz mb 0 (mpF fun _=>none))
  (g3:wz.heap[b]?=some (.cells #[.pointer (some ⟨rb,0,none⟩),.slice (some ⟨eb,0,none⟩) (2*n) (2*n),.int .i64 0,.int .i64 0,.int .i64 0,.slice (some ⟨fb,0,none⟩) n n,.map (some mb),.int .i64 0,.int .i64 0,.int .i64 0] 159 (0,0)))
  (d1:¬b=fb)(d2:¬b=mb)(d3:¬fb=mb)(l1:w1.heap.size<=b)(l2:w1.heap.size<=fb)(l3:w1.heap.size<=mb):∃A,PC wz b n A (raw0 n 0 0)∧∀i,FPr A b i->w.heap.size<=i:=by
 have hrl:=hR.lt;have hel:=hE.lt
 let A:AP:=⟨rb,eb,fb,mb,FR,fun i=>open Classical in if i=b then 0 else if i=eb then 1 else if i=fb then 2 else if i=mb then 3 else 4⟩
 have hL:LP b A:=by
  refine⟨if_pos rfl,?_,?_,?_,fun i q=>?_⟩
  .show(if eb=b then 0 else _)=1
   rw[if_neg (show¬eb=b by omega),if_pos rfl]
  .show(if fb=b then 0 else _)=2
   rw[if_neg (fun e=>d1 e.symm),if_neg (show¬fb=eb by omega),if_pos rfl]
  .show(if mb=b then 0 else _)=3
   rw[if_neg (fun e=>d2 e.symm),if_neg (show¬mb=eb by omega),if_neg (fun e=>d3 e.symm),if_pos rfl]
  .have:=hrl i q
   have:=(hFR i q).2
   show(if i=b then 0 else _)=4
   rw[if_neg (show¬i=b by omega),if_neg this,if_neg (show¬i=fb by omega),if_neg (show¬i=mb by omega)]
 refine⟨A,⟨⟨_,_,g3,rfl,fun i hi=>?_⟩,hR.fr fz (fun _ _ q=>q),hE.fr fz id,⟨_,_,g1,by simp[size_madeCells],fun i hi=>?_⟩,g2,hL,hn⟩,fun i q=>?_⟩
 .match i,hi with
  |0,_=>rfl
  |1,_=>rfl
  |2,_=>rfl
  |3,_=>rfl
  |4,_=>rfl
  |5,_=>rfl
  |6,_=>rfl
  |7,_=>rfl
  |8,_=>rfl
  |9,_=>rfl
 .rw[made_at hi,show(#[Value.int .i64 0]:Array Value).size=1 from rfl,Nat.mod_one];rfl
 .rcases q with e|e|e|e|q
  .rw[e];omega
  .rw[e];exact heb
  .rw[e];show w.heap.size<=fb;omega
  .rw[e];show w.heap.size<=mb;omega
  .exact(hFR i q).1
theorem pr_new_yes(n:Nat)(w:World)(h1:1<=n)(hn:n<=65535):
  Calls prog 30 #[.int .i64 n] w fun e w'=>∃b F,e=.returned (.tuple #[.pointer (some ⟨b,0,none⟩),.int .i64 0])∧CRP b n w' (pr0 n) F∧(∀i,F i->w.heap.size<=i)∧Fr NoF w w':=by
 have mk1:=mkN (z:=.int .i64 0) (b:=8) underlying157 (P:=prog) (by kernel_rfl) rfl n (by omega) (Nat.mul_one n);have HC0:=ck_new (2*n) w (by omega);rw[show(((2*n:Nat)):Int)=2*(n:Int)from by omega]at HC0;have HC:=Hd HC0;have hmm:=@run_makeMap prog;clear HC0;go_enter func30,ntmps30
 go_wp2_with fail
 refine HC.out.mono ?_;clear HC;rintro e w1⟨rb,eb,FR,rfl,hR,hE,hFR,heb,hf1⟩;have HR:=Hd hR;have HE:=Hd hE;have HFR:=Hd (And.intro hFR heb);have HF1:=Hd hf1;clear hR hE hFR heb hf1
 go_wp2_with fail
 go_region
 all_goals
  refine wpw ?_;rintro wz hwz;have fz:Fr NoF w1 wz:=by rw[hwz];repeat(first|exact Fr.refl NoF _|apply Fr.drew|apply Fr.alloc)
  obtain⟨A,hpc,hAF⟩:∃A,PC wz (w1.heap.size+1+1+1) n A (raw0 n 0 0)∧∀i,FPr A (w1.heap.size+1+1+1) i->w.heap.size<=i:=by
   subst hwz
   first
    |exact pc0 (fb:=w1.heap.size+1) (mb:=w1.heap.size+1+1) hn HR.out HE.out HFR.out.1 HFR.out.2 HF1.out.size fz (heap_step _ _ _ _ (heap_step _ _ _ _ (heap_alloc_new _ _ _ (by simp)))) (by repeat(first|exact MpV.madeP' _ (by simp)|refine MpV.fr (G:=NoF) ?_ (by first|exact(Fr.refl NoF _).alloc _|exact(Fr.refl NoF _).drew) id)) (heap_alloc_new _ _ _ (by simp)) (by omega) (by omega) (by omega) (by omega) (by omega) (by omega)
    |exact pc0 (fb:=w1.heap.size+1+1) (mb:=w1.heap.size+1) hn HR.out HE.out HFR.out.1 HFR.out.2 HF1.out.size fz (heap_step _ _ _ _ (heap_alloc_new _ _ _ (by simp))) (by repeat(first|exact MpV.madeP' _ (by simp)|refine MpV.fr (G:=NoF) ?_ (by first|exact(Fr.refl NoF _).alloc _|exact(Fr.refl NoF _).drew) id)) (heap_alloc_new _ _ _ (by simp)) (by omega) (by omega) (by omega) (by omega) (by omega) (by omega)
  have H0:=Hd hpc;have F0:=Hd (HF1.out.trans fz (fun _ q=>q.elim));have HAF:=Hd hAF;clear hwz fz hpc hAF HR HE HFR HF1 hmm;have c5:wz.cell? ⟨w1.heap.size+1+1+1,5,none⟩=some (.slice (some ⟨A.fb,0,none⟩) n n):=H0.out.c 5 (by omega);have lbz:=H0.out.hd.lt;generalize w1.heap.size+1+1+1=b at*;go_wp2
  go_loopw [7,34] (fun _ i wr=>∃k:Nat,k<=n∧i=.int .i64 k∧PC wr b n A (raw0 n k 0)∧Fr (FPr A b) wz wr) (fun _ i _=>n-(intOf i).toNat)
  case atStart=>exact⟨0,Nat.zero_le _,rfl,H0.out,Fr.refl _ _⟩
  case round=>
   obtain⟨k,hk,rfl,hc,hf⟩:=hrel;clear c5 lbz;have d5:wr.cell? ⟨b,5,none⟩=some (.slice (some ⟨A.fb,0,none⟩) n n):=hc.c 5 (by omega);have lbr:=hc.hd.lt;have lfr:=hc.fb.lt;by_cases hlt:k<n
   .have cf:=hc.cf hlt
    have fz:=hc.fb.frozen k;have g0:(0:Int)<=(k:Int):=by omega
    have g1:(k:Int)<(n:Int):=by omega
    have h4:=hc.setFm (i:=k) (-1);rw[raw0_step]at h4;have H4:Hid (PC (wr.setCell ⟨A.fb,k,none⟩ (.int .i64 (-1))) b n A (raw0 n (k+1) 0)∧Fr (FPr A b) wz (wr.setCell ⟨A.fb,k,none⟩ (.int .i64 (-1)))):=⟨h4,hf.setCell (p:=⟨A.fb,k,none⟩) (.inl (.inr (.inr (.inl rfl)))) _⟩;clear h4 hc hf;go_wp2
    go_roundw
    case rel=>exact⟨k+1,hlt,by go_num,H4.out⟩
    case measure=>first|(simp[intOf];done)|(simp[intOf];omega)
   .obtain rfl:k=n:=by omega
    have HG:=Hd (pr_greatest hc h1);have c7:wr.cell? ⟨b,7,none⟩=some (.int .i64 (0:Nat)):=hc.c 7 (by omega);have fz7:=hc.hd.frozen 7;have h5:=hc.setHead (i:=7) (u:=.int .i64 ((max (k-1) 1:Nat):Int)) (r':=raw0 k k (max (k-1) 1)) (prH_goal _ _ _ _ _) rfl
    have KEY:Hid (CRP b k (wr.setCell ⟨b,7,none⟩ (.int .i64 ((max (k-1) 1:Nat):Int))) (pr0 k) (FPr A b)∧Fr NoF w (wr.setCell ⟨b,7,none⟩ (.int .i64 ((max (k-1) 1:Nat):Int)))):=
     ⟨⟨A,⟨_,h5,rf0 k⟩,(pk0 h1).1,(pk0 h1).2,fun _=>Iff.rfl⟩,(F0.out.trans hf (fun i q=>.inr (HAF.out i q))).setCell (p:=⟨b,7,none⟩) (.inr (HAF.out _ (.inl rfl))) _⟩
    clear h5 hc hf;generalize max (k-1) 1=gg at*
    go_wp2_with(go_at_call 53;refine HG.out.mono ?_;rintro e w'⟨rfl,rfl⟩)
    go_returns;exact⟨b,FPr A b,rfl,KEY.out.1,HAF.out,KEY.out.2⟩
def pre8(n:Nat)(t:PrS)(c:Cl):Prop:=
 (c.kind=1->c.frame<n∧1<=c.page∧c.page<4294967296∧(t.pg c.frame=c.page∨t.pg c.frame=0∧∀f,f<n->¬t.pg f=c.page))∧
 (c.kind=2->c.frame<n∧¬t.pg c.frame=0)∧(c.kind=4->c.frame<n∧¬t.pg c.frame=0)
section
variable{w w':World}{b n m:Nat}{A:AP}{s:PrS}{i x f id:Nat}{y:En}{F:Nat->Prop}
theorem set_ok(h:PK n m s)(hm:PM n s)(hf:f<n)(hp:¬s.pg f=0)(u:Bool):PK n m {s with on:=upd s.on f u}∧PM n {s with on:=upd s.on f u}:=by
 refine⟨⟨h.hl,h.uq,h.el,h.ng,h.gl,h.n1⟩,⟨hm.pf,fun g hg k=>?_⟩⟩;have h0:=hm.p0 g hg k;refine⟨h0.1,?_⟩
 show upd s.on f u g=false
 by_cases e:g=f
 .subst e;exact(hp h0.1).elim
 .rw[upd_other _ _ e];exact h0.2
theorem cr_access(h:CRP b n w s F)(hn:n<=65535)(ha:f<n)(h1:1<=id)(h2:id<4294967296)(hq:s.pg f=id∨s.pg f=0∧∀g,g<n->¬s.pg g=id):
  Calls prog 237 #[.pointer (some ⟨b,0,none⟩),.int .i64 f,.int .u32 id] w fun e w'=>e=.returned (.tuple #[])∧CRP b n w' (s.access n f id) F∧Fr F w w':=by
 obtain⟨A,hA,hk,hm,hF⟩:=h;rcases hq with hq|⟨hq,hni⟩
 .obtain⟨k1,k2,k3,k4,i,x,e,hx,ef,ea⟩:=access_old hk hm ha hq h1
  refine(pa_touch hA hk hx ef hn id).mono fun e w' ⟨he,h',hf⟩=>⟨he,⟨A,?_,k1,k2,hF⟩,hf.mono (fun i q=>(hF i).2 q)⟩
  rw[ea];exact h'.pgs _
 .obtain⟨k1,k2,k3,k4⟩:=access_new hk hm ha hq h1 h2 hni
  have hof:=ofF_no hk hm hq;have hno:=ofF_none hof;have hon:=(hm.p0 f ha (no_K hk hm hq)).2;have hl:=empty_lt hk hm ha hq
  cases eg:s.ofG id with
  |none=>
   refine(pa_come0 hA hk ha hno (ofG_none eg) hon hl h2 hn).mono fun e w' ⟨he,h',hf⟩=>⟨he,⟨A,?_,k1,k2,hF⟩,hf.mono (fun i q=>(hF i).2 q)⟩
   have ea:s.access n f id={s with pg:=upd s.pg f id}.lay ⟨id,f,false,false,true⟩:=by unfold PrS.access;simp only[hof,eg]
   rw[ea]
   have eb:({s with pg:=upd s.pg f id}:PrS).lay ⟨id,f,false,false,true⟩={s.lay ⟨id,f,false,false,true⟩with pg:=upd s.pg f id}:=by
    unfold PrS.lay;split<;>rfl
   rw[eb];exact h'.pgs _
  |some i=>
   obtain⟨g,hg,g1,g2⟩:=ofG_some eg;have ea:s.access n f id=(({s with pg:=upd s.pg f id,goal:=min (s.goal+1) (max (n-1) 1)}.drop i).lay ⟨id,f,true,false,false⟩).cool n:=by unfold PrS.access;simp only[hof,eg]
   have hA2:=hA.pgs (upd s.pg f id);have hk2:PK n n {s with pg:=upd s.pg f id}:=⟨hk.hl,hk.uq,hk.el,hk.ng,hk.gl,hk.n1⟩;have hpk0:PK n n {s with pg:=upd s.pg f id,goal:=min (s.goal+1) (max (n-1) 1)}:=⟨hk.hl,hk.uq,hk.el,hk.ng,by have:=hk.gl;show 1<=min (s.goal+1) (max (n-1) 1)∧min (s.goal+1) (max (n-1) 1)<=_;omega,hk.n1⟩;have hd:=hpk0.drop (i:=i) (x:=g) hg
   have hpk:PK n n (({s with pg:=upd s.pg f id,goal:=min (s.goal+1) (max (n-1) 1)}.drop i).lay ⟨id,f,true,false,false⟩):=by
    refine hd.lay ⟨⟨by show(-1:Int)<=(f:Int);omega,by show(f:Int)<n;omega⟩,⟨h1,h2⟩,fun q=>by have q:(f:Int)<0:=q;omega,fun q=>rfl⟩ (by show(0:Int)<=f;omega) (fun y hy=>⟨fun q=>?_,fun q=>hno y (List.mem_of_mem_eraseIdx hy) q⟩);have hyL:y∈s.L:=List.mem_of_mem_eraseIdx hy;obtain⟨k,hkk⟩:=List.getElem?_of_mem hy;have hkk:(s.L.eraseIdx i)[k]?=some y:=hkk;rw[eraseIdx_get]at hkk;have q:y.pg=id:=q
    split at hkk
    .have:=hk.uq i k g y hg hkk (.inl (by omega));omega
    .have:=hk.uq i (k+1) g y hg hkk (.inl (by omega));omega
   refine(pa_come1 hA2 hk2 ha hno hon hl h2 hg g1 g2 h1 hn hpk).mono fun e w' ⟨he,h',hf⟩=>⟨he,⟨A,?_,k1,k2,hF⟩,hf.mono (fun i q=>(hF i).2 q)⟩
   rw[ea];exact h'
theorem cr_set(h:CRP b n w s F)(hn:n<=65535)(ha:f<n)(hp:¬s.pg f=0)(u:Bool):Calls prog 241 #[.pointer (some ⟨b,0,none⟩),.int .i64 f,.bool u] w fun e w'=>e=.returned (.tuple #[])∧CRP b n w' {s with on:=upd s.on f u} F∧Fr F w w':=by
 obtain⟨A,hA,hk,hm,hF⟩:=h;obtain⟨i,x,_,hx,ef⟩:=ofF_of hm ha hp;obtain⟨k1,k2⟩:=set_ok hk hm ha hp u;exact(pa_set hA hk hx ef u hn).mono fun e w' ⟨he,h',hf⟩=>⟨he,⟨A,h',k1,k2,hF⟩,hf.mono (fun i q=>(hF i).2 q)⟩
theorem cr_remove(h:CRP b n w s F)(hn:n<=65535)(ha:f<n)(hp:¬s.pg f=0):Calls prog 240 #[.pointer (some ⟨b,0,none⟩),.int .i64 f] w fun e w'=>e=.returned (.tuple #[])∧CRP b n w' (s.rem f) F∧Fr F w w':=by
 obtain⟨A,hA,hk,hm,hF⟩:=h;obtain⟨i,x,e,hx,ef⟩:=ofF_of hm ha hp;obtain⟨k1,k2,_,_⟩:=rem_ok hk hm ha hp;have er:s.rem f=(s.empty f).drop i:=by unfold PrS.rem;rw[e]
 refine(pa_remove hA hk hx ef hn).mono fun e w' ⟨he,h',hf⟩=>⟨he,⟨A,by rw[er];exact h',k1,k2,hF⟩,hf.mono (fun i q=>(hF i).2 q)⟩
theorem resS_ok(hk:PK n n s)(hm:PM n s)(hz:¬s.sizeN n=0):PK n n (resS (s.vic n))∧PM n (resS (s.vic n))∧resF (s.vic n)<n∧(¬s.pg (resF (s.vic n))=0)∧s.on (resF (s.vic n))=true∧(resS (s.vic n)).pg=upd s.pg (resF (s.vic n)) 0∧(resS (s.vic n)).on=upd s.on (resF (s.vic n)) false:=by
 have h:=vicL_ok (n:=n) (4*s.L.length+4) hk hm;have e:s.vic n=vicL n (4*s.L.length+4) s:=rfl;rw[e];generalize vicL n (4*s.L.length+4) s=V at*;obtain⟨t,o⟩:=V;obtain⟨k1,k2,k3⟩:=h
 cases o with
 |some f=>
  obtain⟨p1,p2,p3,p4,p5⟩:=k3;exact⟨k1,k2,p1,p2,p3,p4,p5⟩
 |none=>
  have k3:Kept s t:=k3;have hz2:¬t.sizeN n=0:=by rw[kept_size k3];exact hz
  obtain⟨_,_,_,_,_,p1,p2,p3⟩:=first_ok k1 k2 hz2;obtain⟨r1,r2,r3,r4⟩:=rem_ok k1 k2 p1 p2;exact⟨r1,r2,p1,by rw[<-k3.pg];exact p2,by rw[<-k3.on];exact p3,by rw[<-k3.pg];exact r3,by rw[<-k3.on];exact r4⟩
theorem vicP(s:PrS)(id:Nat):(polP n).victim s id=(if s.sizeN n=0 then none else some (resF (s.vic n)))∧(polP n).gone s id=resS (s.vic n):=by
 constructor
 .show(if s.sizeN n=0 then none else match s.vic n with|(_,some f)=>some f|(t,none)=>some t.first)=_
  split
  .rfl
  .unfold resF
   generalize s.vic n=V;obtain⟨t,o⟩:=V
   cases o<;>rfl
 .show(match s.vic n with|(t,some _)=>t|(t,none)=>t.rem t.first)=_
  unfold resS;generalize s.vic n=V;obtain⟨t,o⟩:=V
  cases o<;>rfl
theorem cr_victim(h:CRP b n w s F)(hn:n<=65535)(hz:¬s.sizeN n=0)(p:Int):Calls prog 243 #[.pointer (some ⟨b,0,none⟩),.int .u32 p] w fun e w'=>e=.returned (.tuple #[.int .i64 (resF (s.vic n):Nat),.bool true])∧CRP b n w' (resS (s.vic n)) F∧Fr F w w':=by
 obtain⟨A,hA,hk,hm,hF⟩:=h;obtain⟨k1,k2,_⟩:=resS_ok hk hm hz;exact(pa_victim_yes hA hk hm hz hn p).mono fun e w' ⟨he,h',hf⟩=>⟨he,⟨A,h',k1,k2,hF⟩,hf.mono (fun i q=>(hF i).2 q)⟩
end
theorem cod8(b n:Nat)(hn:n<=65535):CodG (polC n) (CRP b n) b (pre8 n) 239 237 241 243 240 where
 fr:=fun h f hd=>h.fr f hd
 lt:=fun h=>h.lt
 miss:=by
  rintro w t F c h hp hk;exact(pr_miss _ _).mono fun e w' ⟨he,hw⟩=>⟨he,F,hw▸h,hw▸Fr.refl _ _,fun i hi=>.inl hi⟩
 access:=by
  rintro w t F c h hp hk;obtain⟨a1,a2,a3,a4⟩:=hp.1 hk;exact(cr_access h hn a1 a2 a3 a4).mono fun e w' ⟨he,h',hf⟩=>⟨he,F,h',hf,fun i hi=>.inl hi⟩
 set:=by
  rintro w t F c h hp hk;obtain⟨a1,a2⟩:=hp.2.1 hk;exact(cr_set h hn a1 a2 c.on).mono fun e w' ⟨he,h',hf⟩=>⟨he,F,h',hf,fun i hi=>.inl hi⟩
 victimNo:=by
  rintro w t F c h hp hk hv;have hv:(polP n).victim t c.page=none:=hv;rw[(vicP t c.page).1]at hv
  have hz:t.sizeN n=0:=by
   by_cases q:t.sizeN n=0
   .exact q
   .rw[if_neg q]at hv;cases hv
  obtain⟨A,hA,hk',hm,hF⟩:=h;exact(pa_victim_no hA hk' hm hz c.page).mono fun e w' ⟨he,hw⟩=>⟨he,F,hw▸⟨A,hA,hk',hm,hF⟩,hw▸Fr.refl _ _,fun i hi=>.inl hi⟩
 victimYes:=by
  rintro w t F c a h hp hk hv;have hv:(polP n).victim t c.page=some a:=hv;have hg:(polC n).gone t c.page=resS (t.vic n):=(vicP t c.page).2;rw[(vicP t c.page).1]at hv;by_cases q:t.sizeN n=0
  .rw[if_pos q]at hv;cases hv
  .rw[if_neg q]at hv
   simp only[Option.some.injEq]at hv;rw[hg,<-hv];exact(cr_victim h hn q c.page).mono fun e w' ⟨he,h',hf⟩=>⟨he,F,h',hf,fun i hi=>.inl hi⟩
 remove:=by
  rintro w t F c h hp hk;obtain⟨a1,a2⟩:=hp.2.2 hk;exact(cr_remove h hn a1 a2).mono fun e w' ⟨he,h',hf⟩=>⟨he,F,h',hf,fun i hi=>.inl hi⟩
end
section
open Go.RowKit
def ok8(n:Nat)(m:Nat)(s:PrS)(pg:Nat->Nat)(ev:Nat->Bool):Prop:=PK n n s∧PM n s∧(∀f,f<n->s.pg f=pg f)∧∀f,f<n->¬pg f=0->s.on f=ev f
theorem okS8(n:Nat):OkSys (polC n) (pre8 n) n (ok8 n) where
 more:=fun h _=>h
 same:=fun⟨h1,h2,h3,h4⟩ e1 e2=>⟨h1,h2,fun f hf=>(h3 f hf).trans (e1 f hf),fun f hf q=>(h4 f hf (by rw[e1 f hf];exact q)).trans (e2 f hf (by rw[e1 f hf];exact q))⟩
 pMiss:=fun _ _ _ _ _=>⟨fun q=>(by cases q),fun q=>(by cases q),fun q=>(by cases q)⟩
 pAcc:=fun{m s pg ev id k} ⟨h1,h2,h3,h4⟩ _ a1 a2 hk hx=>⟨fun _=>⟨hk,a1,a2,by
  show s.pg k=id∨s.pg k=0∧∀f,f<n->¬s.pg f=id
  rw[h3 k hk];exact hx.imp _root_.id (fun q=>⟨q.1,fun f hf=>by rw[h3 f hf];exact q.2 f hf⟩)⟩,fun q=>(by cases q),fun q=>(by cases q)⟩
 pSet:=fun{m s pg ev k} b ⟨h1,h2,h3,h4⟩ _ hk hx=>⟨fun q=>(by cases q),fun _=>⟨hk,by show¬s.pg k=0;rw[h3 k hk];exact hx⟩,fun q=>(by cases q)⟩
 pVic:=fun _ _ _ _ _=>⟨fun q=>(by cases q),fun q=>(by cases q),fun q=>(by cases q)⟩
 pRem:=fun{m s pg ev k} ⟨h1,h2,h3,h4⟩ _ hk hx=>⟨fun q=>(by cases q),fun q=>(by cases q),fun _=>⟨hk,by show¬s.pg k=0;rw[h3 k hk];exact hx⟩⟩
 okMiss:=fun h _ _ _=>h
 okNew:=fun{m s pg ev id k} ⟨h1,h2,h3,h4⟩ _ a1 a2 hk h0 hn=>by
  obtain⟨k1,k2,k3,k4⟩:=access_new h1 h2 hk (by rw[h3 k hk];exact h0) a1 a2 (fun f hf=>by rw[h3 f hf];exact hn f hf);have hon:=(h2.p0 k hk (no_K h1 h2 (by rw[h3 k hk];exact h0))).2;refine⟨k1,k2,fun f hf=>?_,fun f hf q=>?_⟩
  .show(s.access n k id).pg f=upd pg k id f
   rw[k3];by_cases e:f=k
   .subst e;rw[upd_same,upd_same]
   .rw[upd_other _ _ e,upd_other _ _ e];exact h3 f hf
  .show(s.access n k id).on f=upd ev k false f
   rw[k4];by_cases e:f=k
   .subst e;rw[upd_same];exact hon
   .rw[upd_other _ _ e]at q;rw[upd_other _ _ e];exact h4 f hf q
 okOld:=fun{m s pg ev id k} ⟨h1,h2,h3,h4⟩ _ a1 hk h0=>by
  obtain⟨k1,k2,k3,k4,_⟩:=access_old h1 h2 hk (by rw[h3 k hk];exact h0) a1;refine⟨k1,k2,fun f hf=>?_,fun f hf q=>?_⟩
  .show(s.access n k id).pg f=pg f
   rw[k3];by_cases e:f=k
   .subst e;rw[upd_same];exact h0.symm
   .rw[upd_other _ _ e];exact h3 f hf
  .show(s.access n k id).on f=ev f
   rw[k4];exact h4 f hf q
 okSet:=fun{m s pg ev k} b ⟨h1,h2,h3,h4⟩ _ hk hx=>by
  obtain⟨k1,k2⟩:=set_ok h1 h2 hk (by rw[h3 k hk];exact hx) b;refine⟨k1,k2,h3,fun f hf q=>?_⟩
  show upd s.on k b f=upd ev k b f
  by_cases e:f=k
  .subst e;rw[upd_same,upd_same]
  .rw[upd_other _ _ e,upd_other _ _ e];exact h4 f hf q
 okRem:=fun{m s pg ev k} ⟨h1,h2,h3,h4⟩ _ hk hx=>by
  obtain⟨k1,k2,k3,k4⟩:=rem_ok h1 h2 hk (by rw[h3 k hk];exact hx);refine⟨k1,k2,fun f hf=>?_,fun f hf q=>?_⟩
  .show(s.rem k).pg f=upd pg k 0 f
   rw[k3];by_cases e:f=k
   .subst e;rw[upd_same,upd_same]
   .rw[upd_other _ _ e,upd_other _ _ e];exact h3 f hf
  .show(s.rem k).on f=upd ev k false f
   rw[k4];by_cases e:f=k
   .subst e;rw[upd_same,upd_same]
   .rw[upd_other _ _ e]at q;rw[upd_other _ _ e,upd_other _ _ e];exact h4 f hf q
 goer:=fun{m s pg ev id x} ⟨h1,h2,h3,h4⟩ hv=>by
  have hv:(polP n).victim s id=some x:=hv;rw[(vicP s id).1]at hv;by_cases q:s.sizeN n=0
  .rw[if_pos q]at hv;cases hv
  .rw[if_neg q]at hv
   simp only[Option.some.injEq]at hv;obtain⟨_,_,k3,k4,k5,_,_⟩:=resS_ok h1 h2 q;rw[hv]at k3 k4 k5;rw[h3 x k3]at k4;exact⟨k3,k4,by rw[<-h4 x k3 k4];exact k5⟩
 some:=fun{m s pg ev id} ⟨h1,h2,h3,h4⟩ ⟨x,g1,g2,g3⟩ hv=>by
  have hv:(polP n).victim s id=none:=hv;rw[(vicP s id).1]at hv;by_cases q:s.sizeN n=0
  .have:=size_zero q g1 (by rw[h3 x g1];exact g2)
   rw[h4 x g1 g2,g3]at this;cases this
  .rw[if_neg q]at hv;cases hv
 okGone:=fun{m s pg ev id x} ⟨h1,h2,h3,h4⟩ _ a1 hn hv=>by
  have hv:(polP n).victim s id=some x:=hv;rw[(vicP s id).1]at hv;by_cases q:s.sizeN n=0
  .rw[if_pos q]at hv;cases hv
  .rw[if_neg q]at hv
   simp only[Option.some.injEq]at hv;obtain⟨k1,k2,k3,k4,k5,k6,k7⟩:=resS_ok h1 h2 q;rw[hv]at k6 k7;have hg:(polC n).gone s id=resS (s.vic n):=(vicP s id).2;rw[hg];refine⟨k1,k2,fun f hf=>?_,fun f hf q=>?_⟩
   .rw[k6]
    by_cases e:f=x
    .subst e;rw[upd_same,upd_same]
    .rw[upd_other _ _ e,upd_other _ _ e];exact h3 f hf
   .rw[k7]
    by_cases e:f=x
    .subst e;rw[upd_same,upd_same]
    .rw[upd_other _ _ e]at q;rw[upd_other _ _ e,upd_other _ _ e];exact h4 f hf q
theorem rep8(pb b n:Nat)(hn:n<=65535):RepSys (advOf (polC n)) (CRP b n) pb (repV8 b) n (ok8 n):=repOf (cod8 b n hn) (clo8 b) (okS8 n)
end
end Go.Proofs.YtoenclhimbpfeaaGreatDoor
