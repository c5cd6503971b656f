/- Part 46. -/
import Derived.Test.YtoenclhimbpfeaaGreatDoorC45
namespace Go.Proofs.YtoenclhimbpfeaaGreatDoor
set_option linter.all false
set_option maxHeartbeats 16000000
set_option maxRecDepth 100000
section
open Go.Maps Go.Proofs.Tryz Go.RowKit
def goodN(s:ByteArray)(n:Int):Prop:=(∃k,k<5∧s=polB k)∧1<=n∧n<=65535
theorem mk_ans(w:World):(Instr.makeSlice 37 (.int .i64 1) (.int .i64 1)).run prog w=.ok (.slice (some ⟨w.heap.size,0,none⟩) 1 1) (w.alloc (.cells (madeCells #[.int .i64 0,.int .u32 0,.int .u64 0] 3) 48)):=by
 obtain⟨i0,hi,hz,hs,hb⟩:=info_parts' (P:=prog) (e:=48) (z:=.agg #[.int .i64 0,.int .u32 0,.int .u64 0]) (s:=3) (b:=24) (by kernel_rfl);have:=run_make (P:=prog) w 37 48 i0 _ underlying37 hi hz .i64 .i64 (1:Int) (1:Int) (by omega) (by omega) (by rw[hb];omega) (by omega);rw[hs]at this;exact this
section
variable{w w':World}{db m ob oc:Nat}{r:RS}{F:Nat->Prop}{room:Nat}
theorem rep_any(s:ByteArray)(n:Int)(t:Int)(ht9:isI63 t.toNat)(h:CD db ⟨room,[],[],[],0,0,false,0⟩ 0 w F)(hr:room<=65535)(hT:TabT w)(hob:ob<w.heap.size)(hc:w.cell? ⟨ob,0,none⟩=some (.int .i64 0)∧w.cell? ⟨ob,1,none⟩=some (.int .u32 0)∧w.cell? ⟨ob,2,none⟩=some (.int .u64 0)):
  Calls prog 9 #[.pointer (some ⟨db,0,none⟩),.int .i64 n,.string s,.slice (some ⟨ob,0,none⟩) 1 oc,.int .i64 t] w fun e w'=>(∃a l,e=.returned (.tuple #[a,l])∧((goodN s n∧(∃ad c,a=.slice (some ad) 1 c)∧∃lb,l=.pointer (some lb))∨(¬goodN s n∧a=.slice none 0 0∧l=.pointer none)))∧Fr NoF w w':=by
 have HT:=Hd hT;have HT9:=Hd ht9;have HOB:=Hd hob
 have HCE:Hid (∀W,Fr NoF w W->W.cell? ⟨ob,0,none⟩=some (.int .i64 0)∧W.cell? ⟨ob,1,none⟩=some (.int .u32 0)∧W.cell? ⟨ob,2,none⟩=some (.int .u64 0)∧ob<W.heap.size):=fun W f=>
  ⟨(f.cell (p:=⟨ob,0,none⟩) hob id).trans hc.1,(f.cell (p:=⟨ob,1,none⟩) hob id).trans hc.2.1,(f.cell (p:=⟨ob,2,none⟩) hob id).trans hc.2.2,Nat.lt_of_lt_of_le hob f.size⟩
 have HCP:=Hd (cd_copy h);clear h hT hob hc ht9;go_enter func9,ntmps9
 go_wp2_with fail
 refine HCP.out.mono ?_;rintro e w1⟨db1,F1,rfl,c1,n1,f1⟩;have C1:Hid (CD db1 ⟨room,[],[],[],0,0,false,0⟩ 0 w1 F1):=c1;have N1:=Hd n1;have FR1:=Hd f1;clear c1 n1 f1 HCP
 go_wp2_with fail
 refine(polc_any s n w1).mono ?_;rintro e w2⟨rv,rfl,f2,hpol⟩;have FR2:=Hd (FR1.out.trans f2 (fun _ q=>.inl q));have C2:=Hd (C1.out.fr0 f2);have L1:=Hd C1.out.lt;have S2:=Hd f2.size;clear f2 C1;rcases hpol with⟨k,m,hk,rfl,rfl,hm,FA,hA,hAn⟩|⟨rfl,hbad⟩
 .have HG:Hid (goodN (polB k) (m:Int)):=⟨⟨k,hk,rfl⟩,by omega,by omega⟩
  have hsz:=FR1.out.size;have htl:=HT.out.lt;have HNW:=Hd (pz_new (m0:=0) C2.out (by omega) hA (fun i q k=>by have:=L1.out i q;have:=hAn i k;omega) (HT.out.fr0 FR2.out) ⟨fun q=>by have:=N1.out _ q;omega,fun q=>by have:=hAn _ q;omega⟩ hm hr);have NB:Hid (∀i,F1 i∨FA i->w.heap.size<=i):=fun i q=>q.elim (N1.out i) (fun q=>Nat.le_trans hsz (hAn i q))
  clear hA hAn hm hk hsz htl L1 N1 C2
  go_wp2_with fail
  refine HNW.out.mono ?_;rintro e w3⟨p,hpd,rfl,⟨F3,z3,n3⟩,f3⟩;have Z3:=Hd z3;have FR3:=Hd (FR2.out.trans f3 (fun _ q=>.inl q))
  have N3:Hid (∀i,F3 i->w.heap.size<=i):=fun i q=>by
   rcases n3 i q with q|q|q
   .exact NB.out i (.inl q)
   .exact NB.out i (.inr q)
   .exact Nat.le_trans FR2.out.size q
  subst hpd;clear z3 f3 n3 HNW NB;unfold PP.ptr
  go_wp2_with fail
  refine(Z3.out.stop t HT9.out).mono ?_;rintro e w4⟨rfl,F4,z4,f4,n4⟩;have Z4:=Hd z4;have FR4:=Hd (FR3.out.trans f4 (fun i q=>.inr (N3.out i q)));have N4:Hid (∀i,F4 i->w.heap.size<=i):=fun i q=>(n4 i q).elim (N3.out i) (fun q=>Nat.le_trans FR3.out.size q)
  clear z4 f4 n4 Z3 N3;have hmk:=mk_ans w4
  go_wp2_with fail
  have B5:Hid (Blk (w4.alloc (.cells (madeCells #[.int .i64 0,.int .u32 0,.int .u64 0] 3) 48)) w4.heap.size 3 zAn):=by
   rw[show madeCells #[.int .i64 0,.int .u32 0,.int .u64 0] 3=#[.int .i64 0,.int .u32 0,.int .u64 0]from by kernel_rfl];exact blkAn w4 _ _ _
  have f5:Fr NoF w4 (w4.alloc (.cells (madeCells #[.int .i64 0,.int .u32 0,.int .u64 0] 3) 48)):=(Fr.refl NoF w4).alloc _;have Z5:=Hd (pzFrm.fro Z4.out f5 (fun _ _ q=>q) id);have D5:Hid (∀i,F4 i->¬i=w4.heap.size):=fun i q e=>by have:=pzFrm.lt Z4.out i q;omega
  have FR5:=Hd (FR4.out.trans f5 (fun _ q=>.inl q));have S5:=Hd FR4.out.size;clear f5 Z4 FR4 hmk;generalize w4.alloc (.cells (madeCells #[.int .i64 0,.int .u32 0,.int .u64 0] 3) 48)=w5 at*;generalize w4.heap.size=ab at*
  go_loopw [39] (fun i wr=>∃j:Nat,j<=1∧i=.int .i64 j∧Fr NoF w wr∧∃F,PZ p (1000+10*j) wr F∧(∀i,F i->w.heap.size<=i∧¬i=ab)∧w.heap.size<=ab∧∃av,Blk wr ab 3 av) (fun i _=>1-(intOf i).toNat)
  case atStart=>exact⟨0,by omega,rfl,FR5.out,F4,Z5.out,fun i q=>⟨N4.out i q,D5.out i q⟩,S5.out,_,B5.out⟩
  case round=>
   obtain⟨j,hj,rfl,hf,F',hz,hF,hab,av,hb⟩:=hrel;have HZ:=Hd hz;have HFR:=Hd hf;have HFF:=Hd hF;have HB:=Hd hb;have HAB:=Hd hab;clear hz hF hb hab;by_cases hlt:j<1
   .obtain rfl:j=0:=by omega
    obtain⟨y0,y1,y2,yl⟩:=HCE.out wr hf;obtain⟨a0,b0,hnp⟩:=PZ.np HZ.out (by omega);have htw:0<wr.heap.size:=Nat.lt_of_lt_of_le HT.out.lt hf.size
    have HC:Hid (∀W,Fr NoF wr W->Calls prog 21 #[p.ptr,.agg #[.int .i64 0,.int .u32 0,.int .u64 0]] W fun e w'=>e=.returned (.agg #[.int .i64 b0,.int .u32 a0,.int .u64 0])∧Led (PZ p (1000+10*0+10)) F' W w'∧wr.heap.size<=W.heap.size∧Fr NoF wr W):=fun W f=>
     (call_newG pzFrm (fun i q=>Nat.lt_of_lt_of_le (pzFrm.lt HZ.out i q) f.size) (Nat.lt_of_lt_of_le htw f.size) (fun W' f'=>hnp W' (f.trans f' (fun _ q=>.inl q)))).mono fun e w' ⟨q1,q2⟩=>⟨q1,q2,f.size,f⟩
    clear hnp hf htw;unfold PP.ptr at HC
    go_wp2_with fail
    refine(HC.out _ (by repeat(first|exact Fr.refl NoF _|apply Fr.drew|apply Fr.alloc|refine Fr.setCell ?_ (.inr (Nat.le_refl _)) _))).mono ?_;rintro e w6⟨rfl,⟨F6,z6,f6,n6⟩,hsz,fW⟩;have fz:Fr (fun i=>F' i) wr w6:=fW.none.trans f6 (fun _ q=>.inl q);have B6:=Hd (HB.out.fr fz (fun q=>(HFF.out _ q).2 rfl));have z0:=B6.out.frozen 0;have z1:=B6.out.frozen 1;have z2:=B6.out.frozen 2;have x0:=B6.out.cell (i:=0) (by omega);have x1:=B6.out.cell (i:=1) (by omega);have x2:=B6.out.cell (i:=2) (by omega);have xl:=B6.out.lt;have hbl:=HB.out.lt
    have D6:Hid (∀i,F6 i->w.heap.size<=i∧¬i=ab):=fun i q=>by
     rcases n6 i q with q|q
     .exact HFF.out i q
     .have:=HFR.out.size;exact⟨by omega,fun e=>by omega⟩
    have FR6:=Hd (HFR.out.trans fz (fun i q=>.inr (HFF.out i q).1));have Z6:=Hd z6;have AB1:=Hd (Nat.ne_of_gt (Nat.lt_of_lt_of_le HT.out.lt HAB.out));clear z6 f6 n6 fz fW hsz y0 y1 y2 yl HC
    go_wp2_with fail
    go_roundw
    case rel=>
     have g:Fr (fun i=>i=ab) w6 _:=(((Fr.refl (fun i=>i=ab) w6).setCell (p:=⟨ab,0,none⟩) (.inl rfl) (.int .i64 b0)).setCell (p:=⟨ab,1,none⟩) (.inl rfl) (.int .u32 a0)).setCell (p:=⟨ab,2,none⟩) (.inl rfl) (.int .u64 0);exact⟨1,by omega,by first|rfl|go_num,FR6.out.trans g (fun i q=>.inr (by rw[q];exact HAB.out)),F6,pzFrm.fro Z6.out g (fun i q e=>(D6.out i q).2 e) (fun e=>AB1.out e.symm),D6.out,HAB.out,_,((B6.out.set 0 (.int .i64 b0)).set 1 (.int .u32 a0)).set 2 (.int .u64 0)⟩
    case measure=>simp[intOf]
   .obtain rfl:j=1:=by omega
    obtain⟨D,FD,hcd⟩:=PZ.cd HZ.out;have HCP2:=Hd (cd_copy hcd);clear hcd hf
    go_wp2_with fail
    refine HCP2.out.mono ?_;rintro e w7⟨db7,F7,rfl,_,_,f7⟩;have FR7:=Hd (HFR.out.trans f7 (fun _ q=>.inl q));clear f7 HCP2;go_wp2;go_returns;exact⟨⟨_,_,rfl,.inl ⟨HG.out,⟨_,_,rfl⟩,_,rfl⟩⟩,FR7.out⟩
 .have HG:Hid (¬goodN s n):=fun⟨⟨k,hk,e⟩,h1,h2⟩=>by
   rcases hbad with q|q
   .exact q k hk e
   .omega
  go_wp2_with fail
  refine(pnew_rn n db1 _).mono ?_;rintro e w3⟨rfl,rfl⟩;clear hbad;go_wp2;go_returns;exact⟨⟨_,_,rfl,.inr ⟨HG.out,rfl,rfl⟩⟩,FR2.out⟩
end
end
end Go.Proofs.YtoenclhimbpfeaaGreatDoor
