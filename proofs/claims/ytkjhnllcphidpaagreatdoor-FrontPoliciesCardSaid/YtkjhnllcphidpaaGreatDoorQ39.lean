/- Part 39. -/
import Derived.Test.YtkjhnllcphidpaaGreatDoorQ38
namespace Go.Proofs.YtkjhnllcphidpaaGreatDoor
set_option linter.all false
set_option maxHeartbeats 16000000
set_option maxRecDepth 100000
section
open Go.Maps Go.Proofs.Tryz Go.RowKit
noncomputable def AM.call(n:Nat)(M:AM)(o:OpF):AnF×AM:=
 if o.k=0 then(⟨(M.newPage n).1.2,(M.newPage n).1.1,0⟩,(M.newPage n).2)
 else if o.k=1 then(⟨(M.fetch n o.id).1,0,0⟩,(M.fetch n o.id).2)
 else if o.k=2 then(⟨(M.unpin o.id).1,0,0⟩,(M.unpin o.id).2)
 else if o.k=3 then(⟨(M.read o.id).2,0,(M.read o.id).1⟩,M)
 else if o.k=4 then(⟨(M.write o.id o.v).1,0,0⟩,(M.write o.id o.v).2)
 else if o.k=5 then(⟨M.flush o.id,0,0⟩,M)
 else if o.k=6 then(⟨0,0,0⟩,M)
 else if o.k=7 then(⟨(M.delete o.id).1,0,0⟩,(M.delete o.id).2)
 else(⟨1,0,0⟩,M)
def zAn:Nat->Value:=λi=>match i with|0=>.int .i64 0|1=>.int .u32 0|_=>.int .u64 0
theorem jh(w:World)(x y z:Value){t:TypeId}:Blk (w.alloc (.cells #[x,y,z] t)) w.heap.size 3 (λi=>match i with|0=>x|1=>y|_=>z):=Blk.new _ _ _ 3 _ _ rfl rfl (λi hi=>by
 match i,hi with
 |0,_|1,_|2,_=>rfl)
section
variable{p:PP}{q:Bool}{M:AM}{m:Nat}{w:World}{F:Nat->Prop}{o:OpF}
theorem yK{M':AM}{m':Nat}{w0 w1:World}(h0:w0.heap.size=w.heap.size+3)(f0:Fr NoF w w0)(hl:∀i,F i->i<w.heap.size)(ht:0<w.heap.size)(b1:Blk w0 (w.heap.size+1) 3 zAn)(b2:Blk w0 (w.heap.size+1+1) 3 zAn)(h:Led (aq p q M' m') F w0 w1):
  Blk w1 (w.heap.size+1) 3 zAn/\Blk w1 (w.heap.size+1+1) 3 zAn/\∀wf,Fr (λj=>j=w.heap.size+1\/j=w.heap.size+1+1) w1 wf->Led (aq p q M' m') F w wf:=by
 obtain⟨F',h1,f1,hF⟩:=h;refine⟨b1.fr f1 (λk=>by have:=hl _ k;omega),b2.fr f1 (λk=>by have:=hl _ k;omega),λwf g=>⟨F',h1.fro g (λi k=>?_) (by omega),(Fr.trans (f0.none.trans f1 (λi k=>.inl k)) g (λi k=>.inr (by omega))),λi k=>?_⟩⟩
 .rcases hF i k with c|c
  .have:=hl i c;omega
  .omega
 .rcases hF i k with c|c
  .exact .inl c
  .exact .inr (by omega)
theorem b8(h:aq p q M m w F)(ht:0<w.heap.size)(k:Int)(pg v:Nat):
  ∃W,W=((w.alloc (.cells #[.int .i64 k,.int .u32 (pg:Nat),.int .u64 (v:Nat)] 50)).alloc (.cells #[.int .i64 0,.int .u32 0,.int .u64 0] 47)).alloc (.cells #[.int .i64 0,.int .u32 0,.int .u64 0] 47)/\aq p q M m W F/\Blk W w.heap.size 3 (λi=>match i with|0=>.int .i64 k|1=>.int .u32 (pg:Nat)|_=>.int .u64 (v:Nat))/\∀(M':AM) (m':Nat) (w1:World),Led (aq p q M' m') F W w1->Blk w1 (w.heap.size+1) 3 zAn/\Blk w1 (w.heap.size+1+1) 3 zAn/\∀wf,Fr (λj=>j=w.heap.size+1\/j=w.heap.size+1+1) w1 wf->Led (aq p q M' m') F w wf:=by
 have f0:=(((Fr.refl NoF w).alloc (.cells #[.int .i64 k,.int .u32 (pg:Nat),.int .u64 (v:Nat)] 50)).alloc (.cells #[.int .i64 0,.int .u32 0,.int .u64 0] 47)).alloc (.cells #[.int .i64 0,.int .u32 0,.int .u64 0] 47);have b1:=(jh (w.alloc (.cells #[.int .i64 k,.int .u32 (pg:Nat),.int .u64 (v:Nat)] 50)) (.int .i64 0) (.int .u32 0) (.int .u64 0) (t:=47)).alloc (.cells #[.int .i64 0,.int .u32 0,.int .u64 0] 47);have b2:=jh ((w.alloc (.cells #[.int .i64 k,.int .u32 (pg:Nat),.int .u64 (v:Nat)] 50)).alloc (.cells #[.int .i64 0,.int .u32 0,.int .u64 0] 47)) (.int .i64 0) (.int .u32 0) (.int .u64 0) (t:=47);rw[World.size_alloc]at b1;rw[World.size_alloc,World.size_alloc]at b2;exact⟨_,rfl,h.fr0 f0,((jh w _ _ _).alloc _).alloc _,λM' m' w1 h1=>yK (by simp only[World.size_alloc]) f0 h.lt ht b1 b2 h1⟩
theorem bc{w:World}{x y:Nat}(a:Blk w x 3 zAn)(b:Blk w y 3 zAn):
  w.cell? ⟨x,0,none⟩=some (.int .i64 0)/\w.cell? ⟨x,1,none⟩=some (.int .u32 0)/\w.cell? ⟨x,2,none⟩=some (.int .u64 0)/\w.cell? ⟨y,0,none⟩=some (.int .i64 0)/\w.cell? ⟨y,1,none⟩=some (.int .u32 0)/\w.cell? ⟨y,2,none⟩=some (.int .u64 0)/\w.frozen? ⟨x,0,none⟩=false/\w.frozen? ⟨x,1,none⟩=false/\w.frozen? ⟨x,2,none⟩=false/\w.frozen? ⟨y,0,none⟩=false/\w.frozen? ⟨y,1,none⟩=false/\w.frozen? ⟨y,2,none⟩=false/\x<w.heap.size/\y<w.heap.size:=
 ⟨a.cell (by omega),a.cell (by omega),a.cell (by omega),b.cell (by omega),b.cell (by omega),b.cell (by omega),a.frozen _,a.frozen _,a.frozen _,b.frozen _,b.frozen _,b.frozen _,a.lt,b.lt⟩
theorem zC(h:aq p q M m w F)(hm:m<59000)(hn:p.n<=64)(ho:o.ok)(ht:0<w.heap.size)(hk:o.k=0):
  Calls prog 12 #[p.ptr,o.val] w λe w'=>e=.returned (⟨(M.newPage p.n).1.2,(M.newPage p.n).1.1,0⟩:AnF).val/\Led (aq p q (M.newPage p.n).2 (m+100)) F w w':=by
 obtain⟨k,pg,v⟩:=o;obtain⟨_,rfl,hA,b0,ke⟩:=b8 h ht k pg v;unfold OpF.val;simp only at hk;have KE:=Hd ke;have HA:=Hd hA;have B0:=Hd b0;have hid0:=ho.1;have hv0:=ho.2.1;clear h b0 hA ho ke;go_enter func12,ntmps12;subst hk
 go_wp2_with fail
 refine(HA.out.np (by omega)).mono ?_;rintro e w1⟨rfl,hl1⟩;obtain⟨c1,c2,c3⟩:=KE.out _ _ w1 (hl1.mono (λF' h'=>h'.more (k:=m+100) (by omega)));have HR:=Hd (((((c1.other (a:=⟨w.heap.size+1+1,1,none⟩) (by simp) (.int .u32 ((M.newPage p.n).1.1:Nat))).other (a:=⟨w.heap.size+1+1,0,none⟩) (by simp) (.int .i64 ((M.newPage p.n).1.2:Nat))).set 0 (.int .i64 ((M.newPage p.n).1.2:Nat))).set 1 (.int .u32 ((M.newPage p.n).1.1:Nat))).set 2 (.int .u64 0));have HL:=Hd (c3 (((((w1.setCell ⟨w.heap.size+1+1,1,none⟩ (.int .u32 ((M.newPage p.n).1.1:Nat))).setCell ⟨w.heap.size+1+1,0,none⟩ (.int .i64 ((M.newPage p.n).1.2:Nat))).setCell ⟨w.heap.size+1,0,none⟩ (.int .i64 ((M.newPage p.n).1.2:Nat))).setCell ⟨w.heap.size+1,1,none⟩ (.int .u32 ((M.newPage p.n).1.1:Nat))).setCell ⟨w.heap.size+1,2,none⟩ (.int .u64 0)) (by repeat(first|exact Fr.refl _ _|refine Fr.setCell ?_ (.inl (by first|exact .inl rfl|exact .inr rfl)) _)));obtain⟨a0,a1,a2,d0,d1,d2,z0,z1,z2,y0,y1,y2,l1,l2⟩:=bc c1 c2;clear c1 c2 c3 hl1
 go_wp2_with fail
 (try simp only[Exit.inBlock,Exit.then])
 refine bodyPost_ret (au Tryz.results12 _ _ HR.out rfl underlying47 rfl (by kernel_rfl)) rfl ?_;exact⟨rfl,HL.out⟩
theorem ur(h:aq p q M m w F)(hm:m<59000)(hn:p.n<=64)(ho:o.ok)(ht:0<w.heap.size)(hk:o.k=1):
  Calls prog 12 #[p.ptr,o.val] w λe w'=>e=.returned (⟨(M.fetch p.n o.id).1,0,0⟩:AnF).val/\Led (aq p q (M.fetch p.n o.id).2 (m+100)) F w w':=by
 obtain⟨k,pg,v⟩:=o;obtain⟨_,rfl,hA,b0,ke⟩:=b8 h ht k pg v;unfold OpF.val;simp only at hk;have KE:=Hd ke;have HA:=Hd hA;have B0:=Hd b0;have hid0:=ho.1;have hv0:=ho.2.1;clear h b0 hA ho ke;go_enter func12,ntmps12;subst hk
 go_wp2_with fail
 refine(HA.out.fe (by omega) hid0).mono ?_;rintro e w1⟨rfl,hl1⟩;obtain⟨c1,c2,c3⟩:=KE.out _ _ w1 (hl1.mono (λF' h'=>h'.more (k:=m+100) (by omega)));have HR:=Hd ((((c1.other (a:=⟨w.heap.size+1+1,0,none⟩) (by simp) (.int .i64 ((M.fetch p.n pg).1:Nat))).set 0 (.int .i64 ((M.fetch p.n pg).1:Nat))).set 1 (.int .u32 0)).set 2 (.int .u64 0));have HL:=Hd (c3 ((((w1.setCell ⟨w.heap.size+1+1,0,none⟩ (.int .i64 ((M.fetch p.n pg).1:Nat))).setCell ⟨w.heap.size+1,0,none⟩ (.int .i64 ((M.fetch p.n pg).1:Nat))).setCell ⟨w.heap.size+1,1,none⟩ (.int .u32 0)).setCell ⟨w.heap.size+1,2,none⟩ (.int .u64 0)) (by repeat(first|exact Fr.refl _ _|refine Fr.setCell ?_ (.inl (by first|exact .inl rfl|exact .inr rfl)) _)));obtain⟨a0,a1,a2,d0,d1,d2,z0,z1,z2,y0,y1,y2,l1,l2⟩:=bc c1 c2;clear c1 c2 c3 hl1
 go_wp2_with fail
 (try simp only[Exit.inBlock,Exit.then])
 refine bodyPost_ret (au Tryz.results12 _ _ HR.out rfl underlying47 rfl (by kernel_rfl)) rfl ?_;exact⟨rfl,HL.out⟩
theorem tK(h:aq p q M m w F)(hm:m<59000)(hn:p.n<=64)(ho:o.ok)(ht:0<w.heap.size)(hk:o.k=2):
  Calls prog 12 #[p.ptr,o.val] w λe w'=>e=.returned (⟨(M.unpin o.id).1,0,0⟩:AnF).val/\Led (aq p q (M.unpin o.id).2 (m+100)) F w w':=by
 obtain⟨k,pg,v⟩:=o;obtain⟨_,rfl,hA,b0,ke⟩:=b8 h ht k pg v;unfold OpF.val;simp only at hk;have KE:=Hd ke;have HA:=Hd hA;have B0:=Hd b0;have hid0:=ho.1;have hv0:=ho.2.1;clear h b0 hA ho ke;go_enter func12,ntmps12;subst hk
 go_wp2_with fail
 refine(HA.out.un (by omega) hid0).mono ?_;rintro e w1⟨rfl,hl1⟩;obtain⟨c1,c2,c3⟩:=KE.out _ _ w1 (hl1.mono (λF' h'=>h'.more (k:=m+100) (by omega)));have HR:=Hd ((((c1.other (a:=⟨w.heap.size+1+1,0,none⟩) (by simp) (.int .i64 ((M.unpin pg).1:Nat))).set 0 (.int .i64 ((M.unpin pg).1:Nat))).set 1 (.int .u32 0)).set 2 (.int .u64 0));have HL:=Hd (c3 ((((w1.setCell ⟨w.heap.size+1+1,0,none⟩ (.int .i64 ((M.unpin pg).1:Nat))).setCell ⟨w.heap.size+1,0,none⟩ (.int .i64 ((M.unpin pg).1:Nat))).setCell ⟨w.heap.size+1,1,none⟩ (.int .u32 0)).setCell ⟨w.heap.size+1,2,none⟩ (.int .u64 0)) (by repeat(first|exact Fr.refl _ _|refine Fr.setCell ?_ (.inl (by first|exact .inl rfl|exact .inr rfl)) _)));obtain⟨a0,a1,a2,d0,d1,d2,z0,z1,z2,y0,y1,y2,l1,l2⟩:=bc c1 c2;clear c1 c2 c3 hl1
 go_wp2_with fail
 (try simp only[Exit.inBlock,Exit.then])
 refine bodyPost_ret (au Tryz.results12 _ _ HR.out rfl underlying47 rfl (by kernel_rfl)) rfl ?_;exact⟨rfl,HL.out⟩
theorem xD(h:aq p q M m w F)(hm:m<59000)(hn:p.n<=64)(ho:o.ok)(ht:0<w.heap.size)(hk:o.k=3):
  Calls prog 12 #[p.ptr,o.val] w λe w'=>e=.returned (⟨(M.read o.id).2,0,(M.read o.id).1⟩:AnF).val/\Led (aq p q M (m+100)) F w w':=by
 obtain⟨k,pg,v⟩:=o;obtain⟨_,rfl,hA,b0,ke⟩:=b8 h ht k pg v;unfold OpF.val;simp only at hk;have KE:=Hd ke;have HA:=Hd hA;have B0:=Hd b0;have hid0:=ho.1;have hv0:=ho.2.1;clear h b0 hA ho ke;go_enter func12,ntmps12;subst hk
 go_wp2_with fail
 refine(HA.out.rd hid0).mono ?_;rintro e w1⟨rfl,hw1⟩;have hl1:Led (aq p q M (m+100)) F (((w.alloc (.cells #[.int .i64 3,.int .u32 (pg:Nat),.int .u64 (v:Nat)] 50)).alloc (.cells #[.int .i64 0,.int .u32 0,.int .u64 0] 47)).alloc (.cells #[.int .i64 0,.int .u32 0,.int .u64 0] 47)) w1:=by rw[<-hw1];exact Led.refl (HA.out.more (by omega))
 clear hw1;obtain⟨c1,c2,c3⟩:=KE.out _ _ w1 (hl1);have HR:=Hd (((((c1.other (a:=⟨w.heap.size+1+1,2,none⟩) (by simp) (.int .u64 ((M.read pg).1:Nat))).other (a:=⟨w.heap.size+1+1,0,none⟩) (by simp) (.int .i64 ((M.read pg).2:Nat))).set 0 (.int .i64 ((M.read pg).2:Nat))).set 1 (.int .u32 0)).set 2 (.int .u64 ((M.read pg).1:Nat)));have HL:=Hd (c3 (((((w1.setCell ⟨w.heap.size+1+1,2,none⟩ (.int .u64 ((M.read pg).1:Nat))).setCell ⟨w.heap.size+1+1,0,none⟩ (.int .i64 ((M.read pg).2:Nat))).setCell ⟨w.heap.size+1,0,none⟩ (.int .i64 ((M.read pg).2:Nat))).setCell ⟨w.heap.size+1,1,none⟩ (.int .u32 0)).setCell ⟨w.heap.size+1,2,none⟩ (.int .u64 ((M.read pg).1:Nat))) (by repeat(first|exact Fr.refl _ _|refine Fr.setCell ?_ (.inl (by first|exact .inl rfl|exact .inr rfl)) _)));obtain⟨a0,a1,a2,d0,d1,d2,z0,z1,z2,y0,y1,y2,l1,l2⟩:=bc c1 c2;clear c1 c2 c3 hl1
 go_wp2_with fail
 (try simp only[Exit.inBlock,Exit.then])
 refine bodyPost_ret (au Tryz.results12 _ _ HR.out rfl underlying47 rfl (by kernel_rfl)) rfl ?_;exact⟨rfl,HL.out⟩
theorem ss(h:aq p q M m w F)(hm:m<59000)(hn:p.n<=64)(ho:o.ok)(ht:0<w.heap.size)(hk:o.k=4):
  Calls prog 12 #[p.ptr,o.val] w λe w'=>e=.returned (⟨(M.write o.id o.v).1,0,0⟩:AnF).val/\Led (aq p q (M.write o.id o.v).2 (m+100)) F w w':=by
 obtain⟨k,pg,v⟩:=o;obtain⟨_,rfl,hA,b0,ke⟩:=b8 h ht k pg v;unfold OpF.val;simp only at hk;have KE:=Hd ke;have HA:=Hd hA;have B0:=Hd b0;have hid0:=ho.1;have hv0:=ho.2.1;clear h b0 hA ho ke;go_enter func12,ntmps12;subst hk
 go_wp2_with fail
 refine(HA.out.wr hid0 hv0).mono ?_;rintro e w1⟨rfl,hl1⟩;obtain⟨c1,c2,c3⟩:=KE.out _ _ w1 (hl1.mono (λF' h'=>h'.more (k:=m+100) (by omega)));have HR:=Hd ((((c1.other (a:=⟨w.heap.size+1+1,0,none⟩) (by simp) (.int .i64 ((M.write pg v).1:Nat))).set 0 (.int .i64 ((M.write pg v).1:Nat))).set 1 (.int .u32 0)).set 2 (.int .u64 0));have HL:=Hd (c3 ((((w1.setCell ⟨w.heap.size+1+1,0,none⟩ (.int .i64 ((M.write pg v).1:Nat))).setCell ⟨w.heap.size+1,0,none⟩ (.int .i64 ((M.write pg v).1:Nat))).setCell ⟨w.heap.size+1,1,none⟩ (.int .u32 0)).setCell ⟨w.heap.size+1,2,none⟩ (.int .u64 0)) (by repeat(first|exact Fr.refl _ _|refine Fr.setCell ?_ (.inl (by first|exact .inl rfl|exact .inr rfl)) _)));obtain⟨a0,a1,a2,d0,d1,d2,z0,z1,z2,y0,y1,y2,l1,l2⟩:=bc c1 c2;clear c1 c2 c3 hl1
 go_wp2_with fail
 (try simp only[Exit.inBlock,Exit.then])
 refine bodyPost_ret (au Tryz.results12 _ _ HR.out rfl underlying47 rfl (by kernel_rfl)) rfl ?_;exact⟨rfl,HL.out⟩
theorem tJ(h:aq p q M m w F)(hm:m<59000)(hn:p.n<=64)(ho:o.ok)(ht:0<w.heap.size)(hk:o.k=5):
  Calls prog 12 #[p.ptr,o.val] w λe w'=>e=.returned (⟨M.flush o.id,0,0⟩:AnF).val/\Led (aq p q M (m+100)) F w w':=by
 obtain⟨k,pg,v⟩:=o;obtain⟨_,rfl,hA,b0,ke⟩:=b8 h ht k pg v;unfold OpF.val;simp only at hk;have KE:=Hd ke;have HA:=Hd hA;have B0:=Hd b0;have hid0:=ho.1;have hv0:=ho.2.1;clear h b0 hA ho ke;go_enter func12,ntmps12;subst hk
 go_wp2_with fail
 refine(HA.out.fl (by omega) hid0).mono ?_;rintro e w1⟨rfl,hl1⟩;obtain⟨c1,c2,c3⟩:=KE.out _ _ w1 (hl1.mono (λF' h'=>h'.more (k:=m+100) (by omega)));have HR:=Hd ((((c1.other (a:=⟨w.heap.size+1+1,0,none⟩) (by simp) (.int .i64 (M.flush pg:Nat))).set 0 (.int .i64 (M.flush pg:Nat))).set 1 (.int .u32 0)).set 2 (.int .u64 0));have HL:=Hd (c3 ((((w1.setCell ⟨w.heap.size+1+1,0,none⟩ (.int .i64 (M.flush pg:Nat))).setCell ⟨w.heap.size+1,0,none⟩ (.int .i64 (M.flush pg:Nat))).setCell ⟨w.heap.size+1,1,none⟩ (.int .u32 0)).setCell ⟨w.heap.size+1,2,none⟩ (.int .u64 0)) (by repeat(first|exact Fr.refl _ _|refine Fr.setCell ?_ (.inl (by first|exact .inl rfl|exact .inr rfl)) _)));obtain⟨a0,a1,a2,d0,d1,d2,z0,z1,z2,y0,y1,y2,l1,l2⟩:=bc c1 c2;clear c1 c2 c3 hl1
 go_wp2_with fail
 (try simp only[Exit.inBlock,Exit.then])
 refine bodyPost_ret (au Tryz.results12 _ _ HR.out rfl underlying47 rfl (by kernel_rfl)) rfl ?_;exact⟨rfl,HL.out⟩
theorem rk(h:aq p q M m w F)(hm:m<59000)(hn:p.n<=64)(ho:o.ok)(ht:0<w.heap.size)(hk:o.k=7):
  Calls prog 12 #[p.ptr,o.val] w λe w'=>e=.returned (⟨(M.delete o.id).1,0,0⟩:AnF).val/\Led (aq p q (M.delete o.id).2 (m+100)) F w w':=by
 obtain⟨k,pg,v⟩:=o;obtain⟨_,rfl,hA,b0,ke⟩:=b8 h ht k pg v;unfold OpF.val;simp only at hk;have KE:=Hd ke;have HA:=Hd hA;have B0:=Hd b0;have hid0:=ho.1;have hv0:=ho.2.1;clear h b0 hA ho ke;go_enter func12,ntmps12;subst hk
 go_wp2_with fail
 refine(HA.out.de (by omega) hid0).mono ?_;rintro e w1⟨rfl,hl1⟩;obtain⟨c1,c2,c3⟩:=KE.out _ _ w1 (hl1.mono (λF' h'=>h'.more (k:=m+100) (by omega)));have HR:=Hd ((((c1.other (a:=⟨w.heap.size+1+1,0,none⟩) (by simp) (.int .i64 ((M.delete pg).1:Nat))).set 0 (.int .i64 ((M.delete pg).1:Nat))).set 1 (.int .u32 0)).set 2 (.int .u64 0));have HL:=Hd (c3 ((((w1.setCell ⟨w.heap.size+1+1,0,none⟩ (.int .i64 ((M.delete pg).1:Nat))).setCell ⟨w.heap.size+1,0,none⟩ (.int .i64 ((M.delete pg).1:Nat))).setCell ⟨w.heap.size+1,1,none⟩ (.int .u32 0)).setCell ⟨w.heap.size+1,2,none⟩ (.int .u64 0)) (by repeat(first|exact Fr.refl _ _|refine Fr.setCell ?_ (.inl (by first|exact .inl rfl|exact .inr rfl)) _)));obtain⟨a0,a1,a2,d0,d1,d2,z0,z1,z2,y0,y1,y2,l1,l2⟩:=bc c1 c2;clear c1 c2 c3 hl1
 go_wp2_with fail
 (try simp only[Exit.inBlock,Exit.then])
 refine bodyPost_ret (au Tryz.results12 _ _ HR.out rfl underlying47 rfl (by kernel_rfl)) rfl ?_;exact⟨rfl,HL.out⟩
theorem xJ(h:aq p q M m w F)(hm:m<59000)(hn:p.n<=64)(ho:o.ok)(ht:0<w.heap.size)(hk:¬(0<=o.k/\o.k<=7)):
  Calls prog 12 #[p.ptr,o.val] w λe w'=>e=.returned (⟨1,0,0⟩:AnF).val/\Led (aq p q M (m+100)) F w w':=by
 obtain⟨k,pg,v⟩:=o;obtain⟨_,rfl,hA,b0,ke⟩:=b8 h ht k pg v;unfold OpF.val;simp only at hk;have KE:=Hd ke;have HA:=Hd hA;have B0:=Hd b0;have hid0:=ho.1;have hv0:=ho.2.1;clear h b0 hA ho ke;go_enter func12,ntmps12;have g0:¬k=0:=λq=>hk (by omega)
 have g1:¬k=1:=λq=>hk (by omega)
 have g2:¬k=2:=λq=>hk (by omega)
 have g3:¬k=3:=λq=>hk (by omega)
 have g4:¬k=4:=λq=>hk (by omega)
 have g5:¬k=5:=λq=>hk (by omega)
 have g6:¬k=6:=λq=>hk (by omega)
 have g7:¬k=7:=λq=>hk (by omega)
 clear hk
 go_upto_region 2 with fail
 have b00:=B0.out.cell (i:=0) (by omega);have b01:=B0.out.lt;simp only at b00;have hl1:Led (aq p q M (m+100)) F _ _:=Led.refl (HA.out.more (k:=m+100) (by omega));obtain⟨c1,c2,c3⟩:=KE.out _ _ _ hl1;clear hl1 HA B0;generalize(((w.alloc (.cells #[.int .i64 k,.int .u32 (pg:Nat),.int .u64 (v:Nat)] 50)).alloc (.cells #[.int .i64 0,.int .u32 0,.int .u64 0] 47)).alloc (.cells #[.int .i64 0,.int .u32 0,.int .u64 0] 47))=w1 at*;have HR:=Hd ((((c1.other (a:=⟨w.heap.size+1+1,0,none⟩) (by simp) (.int .i64 1)).set 0 (.int .i64 1)).set 1 (.int .u32 0)).set 2 (.int .u64 0));have HL:=Hd (c3 ((((w1.setCell ⟨w.heap.size+1+1,0,none⟩ (.int .i64 1)).setCell ⟨w.heap.size+1,0,none⟩ (.int .i64 1)).setCell ⟨w.heap.size+1,1,none⟩ (.int .u32 0)).setCell ⟨w.heap.size+1,2,none⟩ (.int .u64 0)) (by repeat(first|exact Fr.refl _ _|refine Fr.setCell ?_ (.inl (by first|exact .inl rfl|exact .inr rfl)) _)));obtain⟨a0,a1,a2,d0,d1,d2,z0,z1,z2,y0,y1,y2,l1,l2⟩:=bc c1 c2;clear c1 c2 c3
 go_wp2_with fail
 (try simp only[Exit.inBlock,Exit.then])
 refine bodyPost_ret (au Tryz.results12 _ _ HR.out rfl underlying47 rfl (by kernel_rfl)) rfl ?_;exact⟨rfl,HL.out⟩
end
def ru(M:AM)(o:OpF):AnF:=⟨if o.id∈M.ids then 5 else 3,0,0⟩
section
variable{p:PP}{q:Bool}{M:AM}{m:Nat}{w:World}{F:Nat->Prop}{o:OpF}{b fb i d mb s cnt:Nat}{ov cv lv:Value}{la:Option Nat}{pin:Nat->Nat}
theorem sN(h:aq p q M m w F)(ho:o.ok)(hc:Blk w b 5 (clC i ov d mb b s))(hf:Blk w fb 4 (frC p.ptr cv la lv))(hm:aG w mb cnt (aX pin))(hl:jS o pin=true):
  Calls prog 149 #[.pointer (some ⟨b,0,none⟩),.pointer (some ⟨fb,0,none⟩),o.val] w λe w'=>e=.returned (ru M o).val/\Fr NoF w w':=by
 obtain⟨k,pg,v⟩:=o;have f0:Fr NoF w ((w.alloc (.cells #[.int .i64 k,.int .u32 (pg:Nat),.int .u64 (v:Nat)] 50)).alloc (.cells #[.int .i64 0,.int .u32 0,.int .u64 0] 47)):=((Fr.refl NoF w).alloc _).alloc _;have b0:=((jh w (.int .i64 k) (.int .u32 (pg:Nat)) (.int .u64 (v:Nat)) (t:=50)).alloc (.cells #[.int .i64 0,.int .u32 0,.int .u64 0] 47));have b1:=(jh (w.alloc (.cells #[.int .i64 k,.int .u32 (pg:Nat),.int .u64 (v:Nat)] 50)) (.int .i64 0) (.int .u32 0) (.int .u64 0) (t:=47));rw[World.size_alloc]at b1;have hLK:=jO ho (hc.fr f0 id) (hm.fr f0 id);have HLA:Hid (ru M ⟨k,pg,v⟩=⟨if pg∈M.ids then 5 else 3,0,0⟩):=Hd rfl;rw[hl]at hLK;have HA:=Hd h;have HF:=Hd hf;have HLK:=Hd hLK;have B0:=Hd b0;have B1:=Hd b1;have F0:=Hd f0;have hid0:=ho.1;have hlt:=h.lt;clear h b0 b1 hc hf hm hl ho hLK f0;unfold OpF.val AnF.val;go_enter func149,ntmps149
 go_wp2_with fail
 refine HLK.out.mono ?_;clear HLK;rintro e w1⟨rfl,f1⟩;have HA1:=Hd (HA.out.fr0 (F0.out.trans f1 (λ_ q=>q.elim)));have HF1:=HF.out.fr (F0.out.trans f1 (λ_ q=>q.elim)) id;have B0:=Hd (B0.out.fr f1 id);have B1:=Hd (B1.out.fr f1 id);have F1:=Hd (F0.out.trans f1 (λ_ q=>q.elim));have g0:=HF1.cell (i:=0) (by omega);have lf:=HF1.lt;have o1:=B0.out.cell (i:=1) (by omega);have l0:=B0.out.lt;have l1:=B1.out.lt;simp only[frC]at g0;simp only at o1;clear f1 HF1 HA HF F0
 go_upto_region 2 with fail
 have HS:Hid (∀n,Calls prog 153 #[p.ptr,.int .u32 pg] (w1.drewN n) λe w'=>e=.returned (.bool (decide (pg∈M.ids)))/\w1.drewN n=w'):=Hd λn=>(HA1.out.fr0 ((Fr.refl NoF w1).drewN n)).hs hid0
 go_quiet ((first|(go_at_call 153;with_reducible exact qs (HS.out _))|fail))
 have B1:=B1.out.drewN nq;have F1:=F1.out.drewN nq;generalize w1.drewN nq=w2 at*;clear HS g0 lf o1 l0 l1 B0;have a0:=B1.cell (i:=0) (by omega);have a1:=B1.cell (i:=1) (by omega);have a2:=B1.cell (i:=2) (by omega);have z0:=B1.frozen 0;have z1:=B1.frozen 1;have z2:=B1.frozen 2;have l1:=B1.lt;simp only at a0 a1 a2;by_cases hin:pg∈M.ids
 .rw[decide_eq_true hin]
  have HR:=Hd (((B1.set 0 (.int .i64 5)).set 1 (.int .u32 0)).set 2 (.int .u64 0));have HL:=Hd (F1.setCell (p:=⟨w.heap.size+1,0,none⟩) (.inr (Nat.le_succ _)) (.int .i64 5)|>.setCell (p:=⟨w.heap.size+1,1,none⟩) (.inr (Nat.le_succ _)) (.int .u32 0)|>.setCell (p:=⟨w.heap.size+1,2,none⟩) (.inr (Nat.le_succ _)) (.int .u64 0));have HZ:Hid (ru M ⟨k,pg,v⟩=⟨5,0,0⟩):=Hd (by rw[HLA.out];simp[hin]);clear B1 F1 hin
  go_wp2_with fail
  (try simp only[Exit.inBlock,Exit.then])
  refine bodyPost_ret (au Tryz.results149 _ _ HR.out rfl underlying47 rfl (by kernel_rfl)) rfl ?_;exact⟨by rw[HZ.out];rfl,HL.out⟩
 .rw[decide_eq_false hin]
  have HR:=Hd (((B1.set 0 (.int .i64 3)).set 1 (.int .u32 0)).set 2 (.int .u64 0));have HL:=Hd (F1.setCell (p:=⟨w.heap.size+1,0,none⟩) (.inr (Nat.le_succ _)) (.int .i64 3)|>.setCell (p:=⟨w.heap.size+1,1,none⟩) (.inr (Nat.le_succ _)) (.int .u32 0)|>.setCell (p:=⟨w.heap.size+1,2,none⟩) (.inr (Nat.le_succ _)) (.int .u64 0));have HZ:Hid (ru M ⟨k,pg,v⟩=⟨3,0,0⟩):=Hd (by rw[HLA.out];simp[hin]);clear B1 F1 hin
  go_wp2_with fail
  (try simp only[Exit.inBlock,Exit.then])
  refine bodyPost_ret (au Tryz.results149 _ _ HR.out rfl underlying47 rfl (by kernel_rfl)) rfl ?_;exact⟨by rw[HZ.out];rfl,HL.out⟩
end
end
section
open Go.RowKit
section
variable{P:Program}{Q:Exit->Act->World->Prop}
def wv(P:Program)(ops:Array Oper)(last:Oper)(Q:Exit->Act->World->Prop):Exit->Act->World->Prop
 |.normal,a,w=>wpList P ops Q [last] a w
 |e,a,w=>Q e a w
def cP(md:Region.Mode)(l:List Oper)(last:Oper):Bool:=
 ((List.range l.length).all λi=>(last.after.any λe=>Region.binds md e&&e.on==i)||(List.range l.length).any λj=>decide (i<j)&&match l[j]? with|none=>false|some o=>o.after.any λe=>Region.binds md e&&e.on==i)&&
 ((List.range l.length).all λi=>match l[i]? with
   |none=>false
   |some o=>(o.after.all λe=>decide (e.on<i))&&(match o.guard with|none=>true|some (g,_)=>decide (g<l.length)))&&
 (last.after.all λe=>decide (e.on<l.length))&&(match last.guard with|none=>true|some (g,_)=>decide (g<l.length))
def ClT(md:Region.Mode)(l:List Oper)(d:Array Bool):Prop:=∀(j:Nat) (o:Oper),l[j]?=some o->d.getD j false=true->∀e∈o.after,Region.binds md e=true->d.getD e.on false=true
variable{md:Region.Mode}{l:List Oper}{last:Oper}
theorem tail_wait(h:cP md l last=true){i:Nat}(hi:i<l.length):(∃e∈last.after,Region.binds md e=true/\e.on=i)\/∃j o,i<j/\l[j]?=some o/\∃e∈o.after,Region.binds md e=true/\e.on=i:=by
 simp only[cP,Bool.and_eq_true,List.all_eq_true,List.mem_range]at h;rcases Bool.or_eq_true _ _|>.mp (h.1.1.1 i hi)with q|q
 .obtain⟨e,he,hb⟩:=Array.any_eq_true'.1 q
  simp only[Bool.and_eq_true,beq_iff_eq]at hb;exact .inl ⟨e,he,hb⟩
 .obtain⟨j,hj,q⟩:=List.any_eq_true.1 q
  simp only[Bool.and_eq_true,decide_eq_true_eq]at q;obtain⟨q1,q2⟩:=q
  cases e:l[j]? with
  |none=>rw[e]at q2;cases q2
  |some o=>
   rw[e]at q2;obtain⟨e',he,hb⟩:=Array.any_eq_true'.1 q2;simp only[Bool.and_eq_true,beq_iff_eq]at hb;exact .inr ⟨j,o,q1,e,e',he,hb⟩
theorem eG(h:cP md l last=true){i:Nat}{o:Oper}(ho:l[i]?=some o):(∀e∈o.after,e.on<i)/\∀g b,o.guard=some (g,b)->g<l.length:=by
 simp only[cP,Bool.and_eq_true,List.all_eq_true,List.mem_range]at h;have:=h.1.1.2 i (List.getElem?_eq_some_iff.1 ho).1;rw[ho]at this;simp only[Bool.and_eq_true]at this;refine⟨λe he=>by simpa using Array.all_eq_true'.1 this.1 e he,λg b hg=>?_⟩;rw[hg]at this;simpa using this.2
theorem xI(h:cP md l last=true):(∀e∈last.after,e.on<l.length)/\∀g b,last.guard=some (g,b)->g<l.length:=by
 simp only[cP,Bool.and_eq_true]at h;refine⟨λe he=>by simpa using Array.all_eq_true'.1 h.1.2 e he,λg b hg=>?_⟩;have:=h.2;rw[hg]at this;simpa using this
theorem dj(d:Array Bool)(j:Nat)(hj:j<d.size)(x b:Bool):(d.push b).getD j x=d.getD j x:=by
 simp[hj,Nat.lt_succ_of_lt hj,Array.getElem_push_lt]
theorem jk(d:Array Bool)(x b:Bool):(d.push b).getD d.size x=b:=by simp
theorem AS(d:Array Bool)(i:Nat)(hi:i<d.size)(b:Bool):(d.push b).setIfInBounds i true=(d.setIfInBounds i true).push b:=by
 apply Array.ext_getElem?;intro j;simp only[Array.getElem?_setIfInBounds,Array.getElem?_push,Array.size_setIfInBounds,Array.size_push];by_cases e:i=j
 .subst e
  have h1:i<d.size+1:=by omega
  have h2:¬i=d.size:=by omega
  simp[hi,h1,h2]
 .simp[e]
theorem lJ{d:Array Bool}(hd:d.size=l.length){i:Nat}(hi:i<l.length)(h:cP md l last=true):
  i∈Region.ready md (l++[last]).toArray (d.push false)↔i∈Region.ready md l.toArray d:=by
 rw[mem_ready,mem_ready,dj d i (by omega)];have e:((l++[last]).toArray)[i]?=l.toArray[i]?:=by simp[List.getElem?_append_left hi]
 rw[e];constructor
 .rintro⟨h0,o,ho,ha⟩
  refine⟨h0,o,ho,λe he hb=>?_⟩;have hlt:=(eG h (by simpa using ho)).1 e he;have:=ha e he hb
  rwa [dj d e.on (by omega)]at this
 .rintro⟨h0,o,ho,ha⟩
  refine⟨h0,o,ho,λe he hb=>?_⟩;have hlt:=(eG h (by simpa using ho)).1 e he;rw[dj d e.on (by omega)];exact ha e he hb
theorem tR{d:Array Bool}(hd:d.size=l.length)(h:cP md l last=true)(hr:Region.ready md l.toArray d=[]):∀i,i<l.length->d.getD i false=true:=by
 intro i
 induction i using Nat.strongRecOn with
 |_ i ih=>
  intro hi
  cases e:d.getD i false with
  |true=>rfl
  |false=>
   have hm:i∈Region.ready md l.toArray d:=by
    rw[mem_ready];refine⟨?_,l[i],by simp,λe' he hb=>?_⟩
    .have:i<d.size:=by omega
     simpa[this]using e
    .have hlt:=(eG h (List.getElem?_eq_getElem hi)).1 e' he
     exact ih e'.on hlt (by omega)
   rw[hr]at hm;cases hm
theorem mI{d:Array Bool}(hd:d.size=l.length)(h:cP md l last=true)(hc:ClT md l d):l.length∈Region.ready md (l++[last]).toArray (d.push false)↔∀i,i<l.length->d.getD i false=true:=by
 rw[mem_ready];constructor
 .rintro⟨_,o,ho,ha⟩
  have:o=last:=by simpa using ho.symm
  subst this
  have key:∀k i,l.length-i=k->i<l.length->d.getD i false=true:=by
   intro k
   induction k using Nat.strongRecOn with
   |_ k ih=>
    intro i hk hi;rcases tail_wait h hi with⟨e,he,hb,rfl⟩|⟨j,o',hij,hj,e,he,hb,rfl⟩
    .have:=ha e he hb
     rwa [dj d e.on (by omega)]at this
    .have hjl:=(List.getElem?_eq_some_iff.1 hj).1
     exact hc j o' hj (ih (l.length-j) (by omega) j rfl hjl) e he hb
  exact λi hi=>key _ i rfl hi
 .intro hall
  refine⟨by rw[<-hd];exact jk d true false,last,by simp,λe he hb=>?_⟩;have hlt:=(xI h).1 e he;rw[dj d e.on (by omega)];exact hall e.on hlt
theorem ClT.set{d:Array Bool}(hd:d.size=l.length)(hc:ClT md l d){i:Nat}(hi:i∈Region.ready md l.toArray d):ClT md l (d.setIfInBounds i true):=by
 obtain⟨h0,o,ho,ha⟩:=mem_ready.1 hi;have hio:l[i]?=some o:=by simpa using ho
 have up:∀k,d.getD k false=true->(d.setIfInBounds i true).getD k false=true:=by
  intro k hk;simp only[Array.getD_eq_getD_getElem?,Array.getElem?_setIfInBounds]at*
  split
  .split<;>simp_all
  .exact hk
 intro j o' hj hdj e he hb;by_cases e':i=j
 .subst e'
  rw[hio]at hj
  injection hj with hj
  subst hj;exact up _ (ha e he hb)
 .refine up _ (hc j o' hj ?_ e he hb)
  simp only[Array.getD_eq_getD_getElem?,Array.getElem?_setIfInBounds,if_neg e']at hdj;simpa[Array.getD_eq_getD_getElem?]using hdj
theorem sd(tmps:Array Value){g:Nat}(hg:g<l.length):yielded (l++[last]).toArray tmps g=yielded l.toArray tmps g:=by
 unfold yielded;rw[show((l++[last]).toArray)[g]?=l.toArray[g]? from by simp[List.getElem?_append_left hg]]
theorem yv(tmps:Array Value){o:Oper}(ho:∀g b,o.guard=some (g,b)->g<l.length):Region.wanted o (yielded (l++[last]).toArray tmps)=Region.wanted o (yielded l.toArray tmps):=by
 unfold Region.wanted
 cases e:o.guard with
 |none=>rfl
 |some x=>
  obtain⟨g,b⟩:=x;simp only[sd tmps (ho g b e)]
theorem zr{ops:Array Oper}{o:Oper}{a:Act}{w:World}{K:Act->World->Prop}(h:o.wp P a w K (wv P ops last Q)):o.wp P a w K Q:=by
 unfold Oper.wp at*;generalize(execOp a.eval o).run P w=r at*
 cases r with
 |ok n w'=>
  cases n<;>simp only[Oper.upon]at h⊢<;>
   first
    |exact h
    |exact Calls.mono h (λe w'' he=>by cases e<;>exact he)
 |halt x w'=>cases x<;>simp only[Oper.upon]at h⊢<;>exact h
theorem xY{i:Nat}(hi:i<l.length)(hok:cP md l last=true){a:Act}{w:World}{K K':Act->World->Prop}(hK:∀a w,K a w->K' a w)
  (h:wpOp P l.toArray (wv P (l++[last]).toArray last Q) i K a w):wpOp P (l++[last]).toArray Q i K' a w:=by
 refine wpOp_mono hK ?_;unfold wpOp at*;rw[show((l++[last]).toArray)[i]?=l.toArray[i]? from by simp[List.getElem?_append_left hi]]
 cases e:l.toArray[i]? with
 |none=>rw[e]at h;exact h
 |some o=>
  rw[e]at h;simp only at h⊢;rw[yv a.tmps (eG hok (by simpa using e)).2]
  split
  .rename_i hw
   rw[if_pos hw]at h;exact h.imp zr id
  .rename_i hw
   rw[if_neg hw]at h;exact h
theorem wJ{a:Act}{w:World}(h:wpList P (l++[last]).toArray Q [last] a w){K:Act->World->Prop}(hK:∀a w,Q .normal a w->K a w):wpOp P (l++[last]).toArray Q l.length K a w:=by
 unfold wpOp;rw[show((l++[last]).toArray)[l.length]?=some last from by simp];simp only[wpList]at h⊢
 split
 .rename_i hw
  rw[if_pos hw]at h;exact h.imp (Oper.wp_mono hK) id
 .rename_i hw
  rw[if_neg hw]at h;exact hK _ _ h
theorem s9(hok:cP md l last=true):∀(fuel:Nat) (d:Array Bool) (a:Act) (w:World),d.size=l.length->ClT md l d->
  wpAny P md l.toArray (wv P (l++[last]).toArray last Q) fuel d a w->wpAny P md (l++[last]).toArray Q (fuel+1) (d.push false) a w:=by
 have fin:∀(fuel:Nat) (d:Array Bool) (a:Act) (w:World),d.size=l.length->ClT md l d->Region.ready md l.toArray d=[]->wpList P (l++[last]).toArray Q [last] a w->
   wpAny P md (l++[last]).toArray Q (fuel+1) (d.push false) a w:=by
  intro fuel d a w hd hc hr hl;have hall:=tR (last:=last) hd hok hr;have hlr:=(mI hd hok hc).2 hall;refine⟨λh0=>(by rw[h0]at hlr;cases hlr),λi hi=>?_⟩
  have hil:i=l.length:=by
   rcases Nat.lt_or_ge i l.length with q|q
   .rw[lJ hd q hok,hr]at hi;cases hi
   .obtain⟨_,o,ho,_⟩:=mem_ready.1 hi
    have:i<(l++[last]).toArray.size:=(Array.getElem?_eq_some_iff.1 ho).1;simp at this;omega
  subst hil;refine wJ hl (λa' w' hq=>?_)
  have hset:(d.push false).setIfInBounds l.length true=d.push true:=by
   apply Array.ext_getElem?;intro j;simp only[Array.getElem?_setIfInBounds,Array.getElem?_push,Array.size_push];by_cases e:l.length=j
   .subst e
    have h2:l.length=d.size:=hd.symm;simp[h2]
   .have h3:¬j=d.size:=by omega
    simp[e,h3]
  have hnil:Region.ready md (l++[last]).toArray (d.push true)=[]:=by
   rw[List.eq_nil_iff_forall_not_mem];intro j hj;obtain⟨h0,o,ho,_⟩:=mem_ready.1 hj;have hj':j<(l++[last]).toArray.size:=(Array.getElem?_eq_some_iff.1 ho).1;simp at hj';rcases Nat.lt_or_ge j l.length with q|q
   .have h1:=hall j q
    rw[dj d j (by omega)]at h0;have:j<d.size:=by omega
    simp[this]at h0 h1;rw[h0]at h1;cases h1
   .obtain rfl:j=d.size:=by omega
    rw[jk]at h0;cases h0
  rw[hset]
  cases fuel with
  |zero=>exact⟨hnil,hq⟩
  |succ f=>exact⟨λ_=>hq,by rw[hnil];simp⟩
 intro fuel
 induction fuel with
 |zero=>intro d a w hd hc h;exact fin 0 d a w hd hc h.1 h.2
 |succ fuel ih=>
  intro d a w hd hc h;by_cases hr:Region.ready md l.toArray d=[]
  .exact fin (fuel+1) d a w hd hc hr (h.1 hr)
  .refine⟨λh0=>?_,λi hi=>?_⟩
   .obtain⟨j,hj⟩:=List.exists_mem_of_ne_nil _ hr
    have hjl:j<l.length:=by
     obtain⟨_,o,ho,_⟩:=mem_ready.1 hj;have:=(Array.getElem?_eq_some_iff.1 ho).1;simpa using this
    have:=(lJ hd hjl hok).2 hj;rw[h0]at this;cases this
   .rcases Nat.lt_or_ge i l.length with q|q
    .have hi':=(lJ hd q hok).1 hi
     refine xY q hok (λa' w' hh=>?_) (h.2 i hi');rw[AS d i (by omega)];exact ih _ a' w' (by simp[hd]) (hc.set hd hi') hh
    .obtain⟨_,o,ho,_⟩:=mem_ready.1 hi
     have h2:i<(l++[last]).toArray.size:=(Array.getElem?_eq_some_iff.1 ho).1;have hil:i=l.length:=by simp at h2;omega
     subst hil;have hall:=(mI hd hok hc).1 hi
     have:Region.ready md l.toArray d=[]:=by
      rw[List.eq_nil_iff_forall_not_mem];intro j hj;obtain⟨h0,o,ho,_⟩:=mem_ready.1 hj;have hj':j<l.toArray.size:=(Array.getElem?_eq_some_iff.1 ho).1;have hj'':j<l.length:=by simpa using hj'
      have h1:=hall j hj'';have:j<d.size:=by omega
      simp[this]at h0 h1;rw[h0]at h1;cases h1
     exact(hr this).elim
theorem fC(S:World->Prop)(n:Nat){id:Nat}{l:List Oper}{last:Oper}{a:Act}{w:World}(hm:P.follows .mixedOrders=true)(hn:l=l.take n++[last])(hln:(l.take n).length=n)(hok:cP .any (l.take n) last=true)
  (h:wpAnyH P .any (l.take n).toArray (wv P l.toArray last Q) S n (Array.replicate n false) a w.drew):(Code.region id l.toArray true).wp P Q a w:=by
 refine wp_region_any hm ?_;have h1:=s9 (P:=P) (Q:=Q) (md:=.any) hok n (Array.replicate n false) a w.drew (by simp[hln]) (λj o _ hd=>by simp[Array.getD_eq_getD_getElem?,Array.getElem?_replicate]at hd;split at hd<;>cases hd) (by rw[<-hn];exact wpAny_of_held _ _ _ _ h);rw[<-hn]at h1
 have e1:l.toArray.size=n+1:=by
  have e0:=congrArg List.length hn;rw[List.length_append,hln]at e0;simpa using e0
 have e2:(Array.replicate n false).push false=Array.replicate (n+1) false:=by
  apply Array.ext_getElem?;intro j;simp only[Array.getElem?_push,Array.getElem?_replicate,Array.size_replicate];by_cases e:j=n
  .subst e;simp
  .by_cases h2:j<n
   .have:j<n+1:=by omega
    simp[e,h2,this]
   .have:¬j<n+1:=by omega
    simp[e,h2,this]
 rw[e2]at h1;rw[e1];exact h1
end
end
end Go.Proofs.YtkjhnllcphidpaaGreatDoor
