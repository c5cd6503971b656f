/- Part 39. -/
import Derived.Test.YtoenclhimbpfeaaGreatDoorW38
namespace Go.Proofs.YtoenclhimbpfeaaGreatDoor
set_option linter.all false
set_option maxHeartbeats 16000000
set_option maxRecDepth 100000
section
open Go.Maps Go.Proofs.Tryz Go.RowKit
noncomputable def AM.call(n:Nat)(M:AM)(o:OpF):AnF×AM:=
 if o.k=0 then(⟨(M.newPage n).1.2,(M.newPage n).1.1,0⟩,(M.newPage n).2)
 else if o.k=1 then(⟨(M.fetch n o.id).1,0,0⟩,(M.fetch n o.id).2)
 else if o.k=2 then(⟨(M.unpin o.id).1,0,0⟩,(M.unpin o.id).2)
 else if o.k=3 then(⟨(M.read o.id).2,0,(M.read o.id).1⟩,M)
 else if o.k=4 then(⟨(M.write o.id o.v).1,0,0⟩,(M.write o.id o.v).2)
 else if o.k=5 then(⟨M.flush o.id,0,0⟩,M)
 else if o.k=6 then(⟨0,0,0⟩,M)
 else if o.k=7 then(⟨(M.delete o.id).1,0,0⟩,(M.delete o.id).2)
 else(⟨1,0,0⟩,M)
def zAn:Nat->Value:=λi=>match i with|0=>.int .i64 0|1=>.int .u32 0|_=>.int .u64 0
theorem lQ(w:World)(x y z:Value){t:TypeId}:Blk (w.alloc (.cells #[x,y,z] t)) w.heap.size 3 (λi=>match i with|0=>x|1=>y|_=>z):=Blk.new _ _ _ 3 _ _ rfl rfl (λi hi=>by
 match i,hi with
 |0,_|1,_|2,_=>rfl)
section
variable{p:PP}{q:Bool}{M:AM}{m:Nat}{w:World}{F:Nat->Prop}{o:OpF}
theorem zZ{M':AM}{m':Nat}{w0 w1:World}(h0:w0.heap.size=w.heap.size+3)(f0:Fr NoF w w0)(hl:∀i,F i->i<w.heap.size)(ht:0<w.heap.size)(b1:Blk w0 (w.heap.size+1) 3 zAn)(b2:Blk w0 (w.heap.size+1+1) 3 zAn)(h:Led (au p q M' m') F w0 w1):
  Blk w1 (w.heap.size+1) 3 zAn/\Blk w1 (w.heap.size+1+1) 3 zAn/\∀wf,Fr (λj=>j=w.heap.size+1\/j=w.heap.size+1+1) w1 wf->Led (au p q M' m') F w wf:=by
 obtain⟨F',h1,f1,hF⟩:=h;refine⟨b1.fr f1 (λk=>by have:=hl _ k;omega),b2.fr f1 (λk=>by have:=hl _ k;omega),λwf g=>⟨F',h1.fro g (λi k=>?_) (by omega),(Fr.trans (f0.none.trans f1 (λi k=>.inl k)) g (λi k=>.inr (by omega))),λi k=>?_⟩⟩
 .rcases hF i k with c|c
  .have:=hl i c;omega
  .omega
 .rcases hF i k with c|c
  .exact .inl c
  .exact .inr (by omega)
theorem b7(h:au p q M m w F)(ht:0<w.heap.size)(k:Int)(pg v:Nat):
  ∃W,W=((w.alloc (.cells #[.int .i64 k,.int .u32 (pg:Nat),.int .u64 (v:Nat)] 36)).alloc (.cells #[.int .i64 0,.int .u32 0,.int .u64 0] 48)).alloc (.cells #[.int .i64 0,.int .u32 0,.int .u64 0] 48)/\au p q M m W F/\Blk W w.heap.size 3 (λi=>match i with|0=>.int .i64 k|1=>.int .u32 (pg:Nat)|_=>.int .u64 (v:Nat))/\∀(M':AM) (m':Nat) (w1:World),Led (au p q M' m') F W w1->Blk w1 (w.heap.size+1) 3 zAn/\Blk w1 (w.heap.size+1+1) 3 zAn/\∀wf,Fr (λj=>j=w.heap.size+1\/j=w.heap.size+1+1) w1 wf->Led (au p q M' m') F w wf:=by
 have f0:=(((Fr.refl NoF w).alloc (.cells #[.int .i64 k,.int .u32 (pg:Nat),.int .u64 (v:Nat)] 36)).alloc (.cells #[.int .i64 0,.int .u32 0,.int .u64 0] 48)).alloc (.cells #[.int .i64 0,.int .u32 0,.int .u64 0] 48);have b1:=(lQ (w.alloc (.cells #[.int .i64 k,.int .u32 (pg:Nat),.int .u64 (v:Nat)] 36)) (.int .i64 0) (.int .u32 0) (.int .u64 0) (t:=48)).alloc (.cells #[.int .i64 0,.int .u32 0,.int .u64 0] 48);have b2:=lQ ((w.alloc (.cells #[.int .i64 k,.int .u32 (pg:Nat),.int .u64 (v:Nat)] 36)).alloc (.cells #[.int .i64 0,.int .u32 0,.int .u64 0] 48)) (.int .i64 0) (.int .u32 0) (.int .u64 0) (t:=48);rw[World.size_alloc]at b1;rw[World.size_alloc,World.size_alloc]at b2;exact⟨_,rfl,h.fr0 f0,((lQ w _ _ _).alloc _).alloc _,λM' m' w1 h1=>zZ (by simp only[World.size_alloc]) f0 h.lt ht b1 b2 h1⟩
theorem aW{w:World}{x y:Nat}(a:Blk w x 3 zAn)(b:Blk w y 3 zAn):
  w.cell? ⟨x,0,none⟩=some (.int .i64 0)/\w.cell? ⟨x,1,none⟩=some (.int .u32 0)/\w.cell? ⟨x,2,none⟩=some (.int .u64 0)/\w.cell? ⟨y,0,none⟩=some (.int .i64 0)/\w.cell? ⟨y,1,none⟩=some (.int .u32 0)/\w.cell? ⟨y,2,none⟩=some (.int .u64 0)/\w.frozen? ⟨x,0,none⟩=false/\w.frozen? ⟨x,1,none⟩=false/\w.frozen? ⟨x,2,none⟩=false/\w.frozen? ⟨y,0,none⟩=false/\w.frozen? ⟨y,1,none⟩=false/\w.frozen? ⟨y,2,none⟩=false/\x<w.heap.size/\y<w.heap.size:=
 ⟨a.cell (by omega),a.cell (by omega),a.cell (by omega),b.cell (by omega),b.cell (by omega),b.cell (by omega),a.frozen _,a.frozen _,a.frozen _,b.frozen _,b.frozen _,b.frozen _,a.lt,b.lt⟩
theorem AF(h:au p q M m w F)(hm:m<59000)(hn:p.n<=64)(ho:o.ok)(ht:0<w.heap.size)(hk:o.k=0):
  Calls prog 21 #[p.ptr,o.val] w λe w'=>e=.returned (⟨(M.newPage p.n).1.2,(M.newPage p.n).1.1,0⟩:AnF).val/\Led (au p q (M.newPage p.n).2 (m+100)) F w w':=by
 obtain⟨k,pg,v⟩:=o;obtain⟨_,rfl,hA,b0,ke⟩:=b7 h ht k pg v;unfold OpF.val;simp only at hk;have KE:=Hd ke;have HA:=Hd hA;have B0:=Hd b0;have hid0:=ho.1;have hv0:=ho.2.1;clear h b0 hA ho ke;go_enter func21,ntmps21;subst hk
 go_wp2_with fail
 refine(HA.out.np (by omega)).mono ?_;rintro e w1⟨rfl,hl1⟩;obtain⟨c1,c2,c3⟩:=KE.out _ _ w1 (hl1.mono (λF' h'=>h'.more (k:=m+100) (by omega)));have HR:=Hd (((((c1.other (a:=⟨w.heap.size+1+1,1,none⟩) (by simp) (.int .u32 ((M.newPage p.n).1.1:Nat))).other (a:=⟨w.heap.size+1+1,0,none⟩) (by simp) (.int .i64 ((M.newPage p.n).1.2:Nat))).set 0 (.int .i64 ((M.newPage p.n).1.2:Nat))).set 1 (.int .u32 ((M.newPage p.n).1.1:Nat))).set 2 (.int .u64 0));have HL:=Hd (c3 (((((w1.setCell ⟨w.heap.size+1+1,1,none⟩ (.int .u32 ((M.newPage p.n).1.1:Nat))).setCell ⟨w.heap.size+1+1,0,none⟩ (.int .i64 ((M.newPage p.n).1.2:Nat))).setCell ⟨w.heap.size+1,0,none⟩ (.int .i64 ((M.newPage p.n).1.2:Nat))).setCell ⟨w.heap.size+1,1,none⟩ (.int .u32 ((M.newPage p.n).1.1:Nat))).setCell ⟨w.heap.size+1,2,none⟩ (.int .u64 0)) (by repeat(first|exact Fr.refl _ _|refine Fr.setCell ?_ (.inl (by first|exact .inl rfl|exact .inr rfl)) _)));obtain⟨a0,a1,a2,d0,d1,d2,z0,z1,z2,y0,y1,y2,l1,l2⟩:=aW c1 c2;clear c1 c2 c3 hl1
 go_wp2_with fail
 (try simp only[Exit.inBlock,Exit.then])
 refine bodyPost_ret (af Tryz.results21 _ _ HR.out rfl underlying48 rfl (by kernel_rfl)) rfl ?_;exact⟨rfl,HL.out⟩
theorem tQ(h:au p q M m w F)(hm:m<59000)(hn:p.n<=64)(ho:o.ok)(ht:0<w.heap.size)(hk:o.k=1):
  Calls prog 21 #[p.ptr,o.val] w λe w'=>e=.returned (⟨(M.fetch p.n o.id).1,0,0⟩:AnF).val/\Led (au p q (M.fetch p.n o.id).2 (m+100)) F w w':=by
 obtain⟨k,pg,v⟩:=o;obtain⟨_,rfl,hA,b0,ke⟩:=b7 h ht k pg v;unfold OpF.val;simp only at hk;have KE:=Hd ke;have HA:=Hd hA;have B0:=Hd b0;have hid0:=ho.1;have hv0:=ho.2.1;clear h b0 hA ho ke;go_enter func21,ntmps21;subst hk
 go_wp2_with fail
 refine(HA.out.fe (by omega) hid0).mono ?_;rintro e w1⟨rfl,hl1⟩;obtain⟨c1,c2,c3⟩:=KE.out _ _ w1 (hl1.mono (λF' h'=>h'.more (k:=m+100) (by omega)));have HR:=Hd ((((c1.other (a:=⟨w.heap.size+1+1,0,none⟩) (by simp) (.int .i64 ((M.fetch p.n pg).1:Nat))).set 0 (.int .i64 ((M.fetch p.n pg).1:Nat))).set 1 (.int .u32 0)).set 2 (.int .u64 0));have HL:=Hd (c3 ((((w1.setCell ⟨w.heap.size+1+1,0,none⟩ (.int .i64 ((M.fetch p.n pg).1:Nat))).setCell ⟨w.heap.size+1,0,none⟩ (.int .i64 ((M.fetch p.n pg).1:Nat))).setCell ⟨w.heap.size+1,1,none⟩ (.int .u32 0)).setCell ⟨w.heap.size+1,2,none⟩ (.int .u64 0)) (by repeat(first|exact Fr.refl _ _|refine Fr.setCell ?_ (.inl (by first|exact .inl rfl|exact .inr rfl)) _)));obtain⟨a0,a1,a2,d0,d1,d2,z0,z1,z2,y0,y1,y2,l1,l2⟩:=aW c1 c2;clear c1 c2 c3 hl1
 go_wp2_with fail
 (try simp only[Exit.inBlock,Exit.then])
 refine bodyPost_ret (af Tryz.results21 _ _ HR.out rfl underlying48 rfl (by kernel_rfl)) rfl ?_;exact⟨rfl,HL.out⟩
theorem td(h:au p q M m w F)(hm:m<59000)(hn:p.n<=64)(ho:o.ok)(ht:0<w.heap.size)(hk:o.k=2):
  Calls prog 21 #[p.ptr,o.val] w λe w'=>e=.returned (⟨(M.unpin o.id).1,0,0⟩:AnF).val/\Led (au p q (M.unpin o.id).2 (m+100)) F w w':=by
 obtain⟨k,pg,v⟩:=o;obtain⟨_,rfl,hA,b0,ke⟩:=b7 h ht k pg v;unfold OpF.val;simp only at hk;have KE:=Hd ke;have HA:=Hd hA;have B0:=Hd b0;have hid0:=ho.1;have hv0:=ho.2.1;clear h b0 hA ho ke;go_enter func21,ntmps21;subst hk
 go_wp2_with fail
 refine(HA.out.un (by omega) hid0).mono ?_;rintro e w1⟨rfl,hl1⟩;obtain⟨c1,c2,c3⟩:=KE.out _ _ w1 (hl1.mono (λF' h'=>h'.more (k:=m+100) (by omega)));have HR:=Hd ((((c1.other (a:=⟨w.heap.size+1+1,0,none⟩) (by simp) (.int .i64 ((M.unpin pg).1:Nat))).set 0 (.int .i64 ((M.unpin pg).1:Nat))).set 1 (.int .u32 0)).set 2 (.int .u64 0));have HL:=Hd (c3 ((((w1.setCell ⟨w.heap.size+1+1,0,none⟩ (.int .i64 ((M.unpin pg).1:Nat))).setCell ⟨w.heap.size+1,0,none⟩ (.int .i64 ((M.unpin pg).1:Nat))).setCell ⟨w.heap.size+1,1,none⟩ (.int .u32 0)).setCell ⟨w.heap.size+1,2,none⟩ (.int .u64 0)) (by repeat(first|exact Fr.refl _ _|refine Fr.setCell ?_ (.inl (by first|exact .inl rfl|exact .inr rfl)) _)));obtain⟨a0,a1,a2,d0,d1,d2,z0,z1,z2,y0,y1,y2,l1,l2⟩:=aW c1 c2;clear c1 c2 c3 hl1
 go_wp2_with fail
 (try simp only[Exit.inBlock,Exit.then])
 refine bodyPost_ret (af Tryz.results21 _ _ HR.out rfl underlying48 rfl (by kernel_rfl)) rfl ?_;exact⟨rfl,HL.out⟩
theorem wl(h:au p q M m w F)(hm:m<59000)(hn:p.n<=64)(ho:o.ok)(ht:0<w.heap.size)(hk:o.k=3):
  Calls prog 21 #[p.ptr,o.val] w λe w'=>e=.returned (⟨(M.read o.id).2,0,(M.read o.id).1⟩:AnF).val/\Led (au p q M (m+100)) F w w':=by
 obtain⟨k,pg,v⟩:=o;obtain⟨_,rfl,hA,b0,ke⟩:=b7 h ht k pg v;unfold OpF.val;simp only at hk;have KE:=Hd ke;have HA:=Hd hA;have B0:=Hd b0;have hid0:=ho.1;have hv0:=ho.2.1;clear h b0 hA ho ke;go_enter func21,ntmps21;subst hk
 go_wp2_with fail
 refine(HA.out.rd hid0).mono ?_;rintro e w1⟨rfl,hw1⟩;have hl1:Led (au p q M (m+100)) F (((w.alloc (.cells #[.int .i64 3,.int .u32 (pg:Nat),.int .u64 (v:Nat)] 36)).alloc (.cells #[.int .i64 0,.int .u32 0,.int .u64 0] 48)).alloc (.cells #[.int .i64 0,.int .u32 0,.int .u64 0] 48)) w1:=by rw[<-hw1];exact Led.refl (HA.out.more (by omega))
 clear hw1;obtain⟨c1,c2,c3⟩:=KE.out _ _ w1 (hl1);have HR:=Hd (((((c1.other (a:=⟨w.heap.size+1+1,2,none⟩) (by simp) (.int .u64 ((M.read pg).1:Nat))).other (a:=⟨w.heap.size+1+1,0,none⟩) (by simp) (.int .i64 ((M.read pg).2:Nat))).set 0 (.int .i64 ((M.read pg).2:Nat))).set 1 (.int .u32 0)).set 2 (.int .u64 ((M.read pg).1:Nat)));have HL:=Hd (c3 (((((w1.setCell ⟨w.heap.size+1+1,2,none⟩ (.int .u64 ((M.read pg).1:Nat))).setCell ⟨w.heap.size+1+1,0,none⟩ (.int .i64 ((M.read pg).2:Nat))).setCell ⟨w.heap.size+1,0,none⟩ (.int .i64 ((M.read pg).2:Nat))).setCell ⟨w.heap.size+1,1,none⟩ (.int .u32 0)).setCell ⟨w.heap.size+1,2,none⟩ (.int .u64 ((M.read pg).1:Nat))) (by repeat(first|exact Fr.refl _ _|refine Fr.setCell ?_ (.inl (by first|exact .inl rfl|exact .inr rfl)) _)));obtain⟨a0,a1,a2,d0,d1,d2,z0,z1,z2,y0,y1,y2,l1,l2⟩:=aW c1 c2;clear c1 c2 c3 hl1
 go_wp2_with fail
 (try simp only[Exit.inBlock,Exit.then])
 refine bodyPost_ret (af Tryz.results21 _ _ HR.out rfl underlying48 rfl (by kernel_rfl)) rfl ?_;exact⟨rfl,HL.out⟩
theorem rX(h:au p q M m w F)(hm:m<59000)(hn:p.n<=64)(ho:o.ok)(ht:0<w.heap.size)(hk:o.k=4):
  Calls prog 21 #[p.ptr,o.val] w λe w'=>e=.returned (⟨(M.write o.id o.v).1,0,0⟩:AnF).val/\Led (au p q (M.write o.id o.v).2 (m+100)) F w w':=by
 obtain⟨k,pg,v⟩:=o;obtain⟨_,rfl,hA,b0,ke⟩:=b7 h ht k pg v;unfold OpF.val;simp only at hk;have KE:=Hd ke;have HA:=Hd hA;have B0:=Hd b0;have hid0:=ho.1;have hv0:=ho.2.1;clear h b0 hA ho ke;go_enter func21,ntmps21;subst hk
 go_wp2_with fail
 refine(HA.out.wr hid0 hv0).mono ?_;rintro e w1⟨rfl,hl1⟩;obtain⟨c1,c2,c3⟩:=KE.out _ _ w1 (hl1.mono (λF' h'=>h'.more (k:=m+100) (by omega)));have HR:=Hd ((((c1.other (a:=⟨w.heap.size+1+1,0,none⟩) (by simp) (.int .i64 ((M.write pg v).1:Nat))).set 0 (.int .i64 ((M.write pg v).1:Nat))).set 1 (.int .u32 0)).set 2 (.int .u64 0));have HL:=Hd (c3 ((((w1.setCell ⟨w.heap.size+1+1,0,none⟩ (.int .i64 ((M.write pg v).1:Nat))).setCell ⟨w.heap.size+1,0,none⟩ (.int .i64 ((M.write pg v).1:Nat))).setCell ⟨w.heap.size+1,1,none⟩ (.int .u32 0)).setCell ⟨w.heap.size+1,2,none⟩ (.int .u64 0)) (by repeat(first|exact Fr.refl _ _|refine Fr.setCell ?_ (.inl (by first|exact .inl rfl|exact .inr rfl)) _)));obtain⟨a0,a1,a2,d0,d1,d2,z0,z1,z2,y0,y1,y2,l1,l2⟩:=aW c1 c2;clear c1 c2 c3 hl1
 go_wp2_with fail
 (try simp only[Exit.inBlock,Exit.then])
 refine bodyPost_ret (af Tryz.results21 _ _ HR.out rfl underlying48 rfl (by kernel_rfl)) rfl ?_;exact⟨rfl,HL.out⟩
theorem tg(h:au p q M m w F)(hm:m<59000)(hn:p.n<=64)(ho:o.ok)(ht:0<w.heap.size)(hk:o.k=5):
  Calls prog 21 #[p.ptr,o.val] w λe w'=>e=.returned (⟨M.flush o.id,0,0⟩:AnF).val/\Led (au p q M (m+100)) F w w':=by
 obtain⟨k,pg,v⟩:=o;obtain⟨_,rfl,hA,b0,ke⟩:=b7 h ht k pg v;unfold OpF.val;simp only at hk;have KE:=Hd ke;have HA:=Hd hA;have B0:=Hd b0;have hid0:=ho.1;have hv0:=ho.2.1;clear h b0 hA ho ke;go_enter func21,ntmps21;subst hk
 go_wp2_with fail
 refine(HA.out.fl (by omega) hid0).mono ?_;rintro e w1⟨rfl,hl1⟩;obtain⟨c1,c2,c3⟩:=KE.out _ _ w1 (hl1.mono (λF' h'=>h'.more (k:=m+100) (by omega)));have HR:=Hd ((((c1.other (a:=⟨w.heap.size+1+1,0,none⟩) (by simp) (.int .i64 (M.flush pg:Nat))).set 0 (.int .i64 (M.flush pg:Nat))).set 1 (.int .u32 0)).set 2 (.int .u64 0));have HL:=Hd (c3 ((((w1.setCell ⟨w.heap.size+1+1,0,none⟩ (.int .i64 (M.flush pg:Nat))).setCell ⟨w.heap.size+1,0,none⟩ (.int .i64 (M.flush pg:Nat))).setCell ⟨w.heap.size+1,1,none⟩ (.int .u32 0)).setCell ⟨w.heap.size+1,2,none⟩ (.int .u64 0)) (by repeat(first|exact Fr.refl _ _|refine Fr.setCell ?_ (.inl (by first|exact .inl rfl|exact .inr rfl)) _)));obtain⟨a0,a1,a2,d0,d1,d2,z0,z1,z2,y0,y1,y2,l1,l2⟩:=aW c1 c2;clear c1 c2 c3 hl1
 go_wp2_with fail
 (try simp only[Exit.inBlock,Exit.then])
 refine bodyPost_ret (af Tryz.results21 _ _ HR.out rfl underlying48 rfl (by kernel_rfl)) rfl ?_;exact⟨rfl,HL.out⟩
theorem rn(h:au p q M m w F)(hm:m<59000)(hn:p.n<=64)(ho:o.ok)(ht:0<w.heap.size)(hk:o.k=7):
  Calls prog 21 #[p.ptr,o.val] w λe w'=>e=.returned (⟨(M.delete o.id).1,0,0⟩:AnF).val/\Led (au p q (M.delete o.id).2 (m+100)) F w w':=by
 obtain⟨k,pg,v⟩:=o;obtain⟨_,rfl,hA,b0,ke⟩:=b7 h ht k pg v;unfold OpF.val;simp only at hk;have KE:=Hd ke;have HA:=Hd hA;have B0:=Hd b0;have hid0:=ho.1;have hv0:=ho.2.1;clear h b0 hA ho ke;go_enter func21,ntmps21;subst hk
 go_wp2_with fail
 refine(HA.out.de (by omega) hid0).mono ?_;rintro e w1⟨rfl,hl1⟩;obtain⟨c1,c2,c3⟩:=KE.out _ _ w1 (hl1.mono (λF' h'=>h'.more (k:=m+100) (by omega)));have HR:=Hd ((((c1.other (a:=⟨w.heap.size+1+1,0,none⟩) (by simp) (.int .i64 ((M.delete pg).1:Nat))).set 0 (.int .i64 ((M.delete pg).1:Nat))).set 1 (.int .u32 0)).set 2 (.int .u64 0));have HL:=Hd (c3 ((((w1.setCell ⟨w.heap.size+1+1,0,none⟩ (.int .i64 ((M.delete pg).1:Nat))).setCell ⟨w.heap.size+1,0,none⟩ (.int .i64 ((M.delete pg).1:Nat))).setCell ⟨w.heap.size+1,1,none⟩ (.int .u32 0)).setCell ⟨w.heap.size+1,2,none⟩ (.int .u64 0)) (by repeat(first|exact Fr.refl _ _|refine Fr.setCell ?_ (.inl (by first|exact .inl rfl|exact .inr rfl)) _)));obtain⟨a0,a1,a2,d0,d1,d2,z0,z1,z2,y0,y1,y2,l1,l2⟩:=aW c1 c2;clear c1 c2 c3 hl1
 go_wp2_with fail
 (try simp only[Exit.inBlock,Exit.then])
 refine bodyPost_ret (af Tryz.results21 _ _ HR.out rfl underlying48 rfl (by kernel_rfl)) rfl ?_;exact⟨rfl,HL.out⟩
theorem xA(h:au p q M m w F)(hm:m<59000)(hn:p.n<=64)(ho:o.ok)(ht:0<w.heap.size)(hk:¬(0<=o.k/\o.k<=7)):
  Calls prog 21 #[p.ptr,o.val] w λe w'=>e=.returned (⟨1,0,0⟩:AnF).val/\Led (au p q M (m+100)) F w w':=by
 obtain⟨k,pg,v⟩:=o;obtain⟨_,rfl,hA,b0,ke⟩:=b7 h ht k pg v;unfold OpF.val;simp only at hk;have KE:=Hd ke;have HA:=Hd hA;have B0:=Hd b0;have hid0:=ho.1;have hv0:=ho.2.1;clear h b0 hA ho ke;go_enter func21,ntmps21;have g0:¬k=0:=λq=>hk (by omega)
 have g1:¬k=1:=λq=>hk (by omega)
 have g2:¬k=2:=λq=>hk (by omega)
 have g3:¬k=3:=λq=>hk (by omega)
 have g4:¬k=4:=λq=>hk (by omega)
 have g5:¬k=5:=λq=>hk (by omega)
 have g6:¬k=6:=λq=>hk (by omega)
 have g7:¬k=7:=λq=>hk (by omega)
 clear hk
 go_upto_region 2 with fail
 have b00:=B0.out.cell (i:=0) (by omega);have b01:=B0.out.lt;simp only at b00;have hl1:Led (au p q M (m+100)) F _ _:=Led.refl (HA.out.more (k:=m+100) (by omega));obtain⟨c1,c2,c3⟩:=KE.out _ _ _ hl1;clear hl1 HA B0;generalize(((w.alloc (.cells #[.int .i64 k,.int .u32 (pg:Nat),.int .u64 (v:Nat)] 36)).alloc (.cells #[.int .i64 0,.int .u32 0,.int .u64 0] 48)).alloc (.cells #[.int .i64 0,.int .u32 0,.int .u64 0] 48))=w1 at*;have HR:=Hd ((((c1.other (a:=⟨w.heap.size+1+1,0,none⟩) (by simp) (.int .i64 1)).set 0 (.int .i64 1)).set 1 (.int .u32 0)).set 2 (.int .u64 0));have HL:=Hd (c3 ((((w1.setCell ⟨w.heap.size+1+1,0,none⟩ (.int .i64 1)).setCell ⟨w.heap.size+1,0,none⟩ (.int .i64 1)).setCell ⟨w.heap.size+1,1,none⟩ (.int .u32 0)).setCell ⟨w.heap.size+1,2,none⟩ (.int .u64 0)) (by repeat(first|exact Fr.refl _ _|refine Fr.setCell ?_ (.inl (by first|exact .inl rfl|exact .inr rfl)) _)));obtain⟨a0,a1,a2,d0,d1,d2,z0,z1,z2,y0,y1,y2,l1,l2⟩:=aW c1 c2;clear c1 c2 c3
 go_wp2_with fail
 (try simp only[Exit.inBlock,Exit.then])
 refine bodyPost_ret (af Tryz.results21 _ _ HR.out rfl underlying48 rfl (by kernel_rfl)) rfl ?_;exact⟨rfl,HL.out⟩
end
end
section
open Go.Maps Go.RowKit
section
variable{p:PP}{q:Bool}{M:AM}{m:Nat}{w w0 w':World}
structure Frm(R:World->(Nat->Prop)->Prop):Prop where
 lt:∀{w:World} {F:Nat->Prop},R w F->∀i,F i->i<w.heap.size
 fro:∀{w w':World} {F G:Nat->Prop},R w F->Fr G w w'->(∀i,F i->¬G i)->¬G 0->R w' F
theorem lD:Frm (au p q M m):=⟨au.lt,λh f hG ht=>au.fro h f hG ht⟩
end
end
end Go.Proofs.YtoenclhimbpfeaaGreatDoor
