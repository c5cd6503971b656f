/- Part 52. -/
import Derived.Test.YtoenclhimbpfeaaGreatDoorW51
namespace Go.Proofs.YtoenclhimbpfeaaGreatDoor
set_option linter.all false
set_option maxHeartbeats 16000000
set_option maxRecDepth 100000
section
open Go.Proofs.Tryz Go.RowKit
section
variable{w w0 w':World}{r n room:Nat}{l:List Pg}{lv v:Value}
theorem aq{w:World}{m:Nat}(y1 y2 y3 u1 u2 u3:Value){t t':TypeId}(hm:m=w.heap.size+1):Blk ((w.alloc (.cells #[y1,y2,y3] t')).alloc (.cells #[u1,u2,u3] t)) m 3 (λi=>if i=0 then u1 else if i=1 then u2 else u3):=by
 subst hm;exact dZ w y1 y2 y3 u1 u2 u3
theorem RG.setP{g cap:Nat}(h:RG w r n room l (.slice (some ⟨g,0,none⟩) l.length cap)){k:Nat}(hk:k<l.length)(p:Pg)(hid:p.id=l[k].id){c:Nat}(hc:c=1/\p.pins=l[k].pins\/c=2/\p.v=l[k].v)(hp:okV p.v/\p.pins<1000000){z:Value}(hz:z=if c=1 then .int .u64 (p.v:Nat)else .int .i64 (p.pins:Nat)):
  RG (w.setCell ⟨g,k*3+c,none⟩ z) r n room (l.set k p) (.slice (some ⟨g,0,none⟩) l.length cap)/\Fr (λi=>i=g) w (w.setCell ⟨g,k*3+c,none⟩ z):=by
 subst hz;have hgr:¬g=r:=h.nb g rfl;have f:Fr (λi=>i=g) w (w.setCell ⟨g,k*3+c,none⟩ (if c=1 then .int .u64 (p.v:Nat)else .int .i64 (p.pins:Nat))):=(Fr.refl (λi=>i=g) w).setCell (p:=⟨g,k*3+c,none⟩) (.inl rfl) _;refine⟨⟨h.hd.fr f (λe=>hgr e.symm),?_,h.nb,by rw[List.length_set];exact h.b1,λq hq=>?_⟩,f⟩
 .have hs:=(h.hl.set (i:=k*3+c) (by omega) (if c=1 then .int .u64 (p.v:Nat)else .int .i64 (p.pins:Nat))).congr (Ep l hk p hid hc)
  rw[List.length_set];exact hs
 .rcases List.mem_or_eq_of_mem_set hq with q|q
  .exact h.ok _ q
  .subst q;exact⟨by rw[hid];exact(h.ok _ (List.getElem_mem hk)).1,hp⟩
theorem xJ(h:RG w r n room l lv){k id x:Int}(hk:k<0\/7<k):Calls prog 11 #[.pointer (some ⟨r,0,none⟩),.agg #[.int .i64 k,.int .u32 id,.int .u64 x]] w λe w'=>e=.returned (.agg #[.int .i64 1,.int .u32 0,.int .u64 0])/\Fr NoF w w':=by
 by_cases h0:k<0
 .have g0:decide (k<0)=true:=by simpa using h0
  clear h hk h0;go_enter func11,ntmps11;go_wp2
  (try simp only[Exit.inBlock,Exit.then])
  refine bodyPost_ret (af Tryz.results11 _ _ (aq (w:=w) _ _ _ _ _ _ (by simp)) rfl underlying45 rfl (by kernel_rfl)) rfl ?_;exact⟨rfl,((Fr.refl NoF w).alloc _).alloc _⟩
 .have g0:decide (k<0)=false:=by simpa using h0
  have g1:decide (7<k)=true:=by simp;omega
  clear h hk h0;go_enter func11,ntmps11;go_wp2
  (try simp only[Exit.inBlock,Exit.then])
  refine bodyPost_ret (af Tryz.results11 _ _ (aq (w:=w) _ _ _ _ _ _ (by simp)) rfl underlying45 rfl (by kernel_rfl)) rfl ?_;exact⟨rfl,((Fr.refl NoF w).alloc _).alloc _⟩
theorem GL(h:RG w r n room l lv){id x:Int}:Calls prog 11 #[.pointer (some ⟨r,0,none⟩),.agg #[.int .i64 6,.int .u32 id,.int .u64 x]] w λe w'=>e=.returned (.agg #[.int .i64 0,.int .u32 0,.int .u64 0])/\Fr NoF w w':=by
 clear h;go_enter func11,ntmps11;go_wp2
 (try simp only[Exit.inBlock,Exit.then])
 refine bodyPost_ret (af Tryz.results11 _ _ (aq (w:=w) _ _ _ _ _ _ (by simp)) rfl underlying45 rfl (by kernel_rfl)) rfl ?_;exact⟨rfl,((Fr.refl NoF w).alloc _).alloc _⟩
theorem mr(h:RG w r n room l lv){id:Nat}{x:Int}(hat:atG l id=none):Calls prog 11 #[.pointer (some ⟨r,0,none⟩),.agg #[.int .i64 1,.int .u32 id,.int .u64 x]] w λe w'=>e=.returned (.agg #[.int .i64 3,.int .u32 0,.int .u64 0])/\Fr NoF w w':=by
 have HAT:=aC (h.fr0 (((Fr.refl NoF w).alloc (.cells #[.int .i64 1,.int .u32 id,.int .u64 x] 50)).alloc (.cells #[.int .i64 0,.int .u32 0,.int .u64 0] 45))) id;rw[hat]at HAT;unfold eF at HAT;have HA2:=Hd HAT;clear h hat HAT;go_enter func11,ntmps11
 go_wp2_with fail
 refine HA2.out.mono ?_;rintro e w1⟨rfl,rfl⟩;go_wp2
 (try simp only[Exit.inBlock,Exit.then])
 refine bodyPost_ret (af Tryz.results11 _ _ (aq (w:=w) _ _ _ _ _ _ (by simp)) rfl underlying45 rfl (by kernel_rfl)) rfl ?_;exact⟨rfl,((Fr.refl NoF w).alloc _).alloc _⟩
theorem ml(h:RG w r n room l lv){id:Nat}{x:Int}(hat:atG l id=none):Calls prog 11 #[.pointer (some ⟨r,0,none⟩),.agg #[.int .i64 2,.int .u32 id,.int .u64 x]] w λe w'=>e=.returned (.agg #[.int .i64 3,.int .u32 0,.int .u64 0])/\Fr NoF w w':=by
 have HAT:=aC (h.fr0 (((Fr.refl NoF w).alloc (.cells #[.int .i64 2,.int .u32 id,.int .u64 x] 50)).alloc (.cells #[.int .i64 0,.int .u32 0,.int .u64 0] 45))) id;rw[hat]at HAT;unfold eF at HAT;have HA2:=Hd HAT;clear h hat HAT;go_enter func11,ntmps11
 go_wp2_with fail
 refine HA2.out.mono ?_;rintro e w1⟨rfl,rfl⟩;go_wp2
 (try simp only[Exit.inBlock,Exit.then])
 refine bodyPost_ret (af Tryz.results11 _ _ (aq (w:=w) _ _ _ _ _ _ (by simp)) rfl underlying45 rfl (by kernel_rfl)) rfl ?_;exact⟨rfl,((Fr.refl NoF w).alloc _).alloc _⟩
theorem mi(h:RG w r n room l lv){id:Nat}{x:Int}(hat:atG l id=none):Calls prog 11 #[.pointer (some ⟨r,0,none⟩),.agg #[.int .i64 3,.int .u32 id,.int .u64 x]] w λe w'=>e=.returned (.agg #[.int .i64 3,.int .u32 0,.int .u64 0])/\Fr NoF w w':=by
 have HAT:=aC (h.fr0 (((Fr.refl NoF w).alloc (.cells #[.int .i64 3,.int .u32 id,.int .u64 x] 50)).alloc (.cells #[.int .i64 0,.int .u32 0,.int .u64 0] 45))) id;rw[hat]at HAT;unfold eF at HAT;have HA2:=Hd HAT;clear h hat HAT;go_enter func11,ntmps11
 go_wp2_with fail
 refine HA2.out.mono ?_;rintro e w1⟨rfl,rfl⟩;go_wp2
 (try simp only[Exit.inBlock,Exit.then])
 refine bodyPost_ret (af Tryz.results11 _ _ (aq (w:=w) _ _ _ _ _ _ (by simp)) rfl underlying45 rfl (by kernel_rfl)) rfl ?_;exact⟨rfl,((Fr.refl NoF w).alloc _).alloc _⟩
theorem lY(h:RG w r n room l lv){id:Nat}{x:Int}(hat:atG l id=none):Calls prog 11 #[.pointer (some ⟨r,0,none⟩),.agg #[.int .i64 4,.int .u32 id,.int .u64 x]] w λe w'=>e=.returned (.agg #[.int .i64 3,.int .u32 0,.int .u64 0])/\Fr NoF w w':=by
 have HAT:=aC (h.fr0 (((Fr.refl NoF w).alloc (.cells #[.int .i64 4,.int .u32 id,.int .u64 x] 50)).alloc (.cells #[.int .i64 0,.int .u32 0,.int .u64 0] 45))) id;rw[hat]at HAT;unfold eF at HAT;have HA2:=Hd HAT;clear h hat HAT;go_enter func11,ntmps11
 go_wp2_with fail
 refine HA2.out.mono ?_;rintro e w1⟨rfl,rfl⟩;go_wp2
 (try simp only[Exit.inBlock,Exit.then])
 refine bodyPost_ret (af Tryz.results11 _ _ (aq (w:=w) _ _ _ _ _ _ (by simp)) rfl underlying45 rfl (by kernel_rfl)) rfl ?_;exact⟨rfl,((Fr.refl NoF w).alloc _).alloc _⟩
theorem mz(h:RG w r n room l lv){id:Nat}{x:Int}(hat:atG l id=none):Calls prog 11 #[.pointer (some ⟨r,0,none⟩),.agg #[.int .i64 5,.int .u32 id,.int .u64 x]] w λe w'=>e=.returned (.agg #[.int .i64 3,.int .u32 0,.int .u64 0])/\Fr NoF w w':=by
 have HAT:=aC (h.fr0 (((Fr.refl NoF w).alloc (.cells #[.int .i64 5,.int .u32 id,.int .u64 x] 50)).alloc (.cells #[.int .i64 0,.int .u32 0,.int .u64 0] 45))) id;rw[hat]at HAT;unfold eF at HAT;have HA2:=Hd HAT;clear h hat HAT;go_enter func11,ntmps11
 go_wp2_with fail
 refine HA2.out.mono ?_;rintro e w1⟨rfl,rfl⟩;go_wp2
 (try simp only[Exit.inBlock,Exit.then])
 refine bodyPost_ret (af Tryz.results11 _ _ (aq (w:=w) _ _ _ _ _ _ (by simp)) rfl underlying45 rfl (by kernel_rfl)) rfl ?_;exact⟨rfl,((Fr.refl NoF w).alloc _).alloc _⟩
theorem mx(h:RG w r n room l lv){id:Nat}{x:Int}(hat:atG l id=none):Calls prog 11 #[.pointer (some ⟨r,0,none⟩),.agg #[.int .i64 7,.int .u32 id,.int .u64 x]] w λe w'=>e=.returned (.agg #[.int .i64 3,.int .u32 0,.int .u64 0])/\Fr NoF w w':=by
 have HAT:=aC (h.fr0 (((Fr.refl NoF w).alloc (.cells #[.int .i64 7,.int .u32 id,.int .u64 x] 50)).alloc (.cells #[.int .i64 0,.int .u32 0,.int .u64 0] 45))) id;rw[hat]at HAT;unfold eF at HAT;have HA2:=Hd HAT;clear h hat HAT;go_enter func11,ntmps11
 go_wp2_with fail
 refine HA2.out.mono ?_;rintro e w1⟨rfl,rfl⟩;go_wp2
 (try simp only[Exit.inBlock,Exit.then])
 refine bodyPost_ret (af Tryz.results11 _ _ (aq (w:=w) _ _ _ _ _ _ (by simp)) rfl underlying45 rfl (by kernel_rfl)) rfl ?_;exact⟨rfl,((Fr.refl NoF w).alloc _).alloc _⟩
theorem xX(h:RG w r n room l lv){id j:Nat}{x:Int}(hat:atG l id=some j)(hj:j<l.length)(hp:l[j].pins=0):Calls prog 11 #[.pointer (some ⟨r,0,none⟩),.agg #[.int .i64 2,.int .u32 id,.int .u64 x]] w λe w'=>e=.returned (.agg #[.int .i64 5,.int .u32 0,.int .u64 0])/\Fr NoF w w':=by
 have HAT:=aC (h.fr0 (((Fr.refl NoF w).alloc (.cells #[.int .i64 2,.int .u32 id,.int .u64 x] 50)).alloc (.cells #[.int .i64 0,.int .u32 0,.int .u64 0] 45))) id;rw[hat]at HAT;unfold eF at HAT;have HA2:=Hd HAT;have hll:=h.b1.1;have c2:=h.c2;have lr:=h.hd.lt;obtain⟨g,cap,rfl,q1,q2,lg,y0,y1,y2,yf⟩:=h.at hj;have HYF:=Hd yf;have fz1:=yf (j*3+1);have fz2:=yf (j*3+2);have hgr:¬g=r:=h.nb g rfl;have hpk:l[j].pins<1000000:=(h.ok _ (List.getElem_mem hj)).2.2;have HH:=Hd h;rw[hp]at y2;clear h hat HAT yf;go_enter func11,ntmps11
 go_wp2_with fail
 refine HA2.out.mono ?_;rintro e w1⟨rfl,rfl⟩;go_wp2
 (try simp only[Exit.inBlock,Exit.then])
 refine bodyPost_ret (af Tryz.results11 _ _ (aq (w:=w) _ _ _ _ _ _ (by simp)) rfl underlying45 rfl (by kernel_rfl)) rfl ?_;exact⟨rfl,((Fr.refl NoF w).alloc _).alloc _⟩
theorem wY(h:RG w r n room l lv){id j:Nat}{x:Int}(hat:atG l id=some j)(hj:j<l.length)(hp:l[j].pins=0):Calls prog 11 #[.pointer (some ⟨r,0,none⟩),.agg #[.int .i64 3,.int .u32 id,.int .u64 x]] w λe w'=>e=.returned (.agg #[.int .i64 5,.int .u32 0,.int .u64 0])/\Fr NoF w w':=by
 have HAT:=aC (h.fr0 (((Fr.refl NoF w).alloc (.cells #[.int .i64 3,.int .u32 id,.int .u64 x] 50)).alloc (.cells #[.int .i64 0,.int .u32 0,.int .u64 0] 45))) id;rw[hat]at HAT;unfold eF at HAT;have HA2:=Hd HAT;have hll:=h.b1.1;have c2:=h.c2;have lr:=h.hd.lt;obtain⟨g,cap,rfl,q1,q2,lg,y0,y1,y2,yf⟩:=h.at hj;have HYF:=Hd yf;have fz1:=yf (j*3+1);have fz2:=yf (j*3+2);have hgr:¬g=r:=h.nb g rfl;have hpk:l[j].pins<1000000:=(h.ok _ (List.getElem_mem hj)).2.2;have HH:=Hd h;rw[hp]at y2;clear h hat HAT yf;go_enter func11,ntmps11
 go_wp2_with fail
 refine HA2.out.mono ?_;rintro e w1⟨rfl,rfl⟩;go_wp2
 (try simp only[Exit.inBlock,Exit.then])
 refine bodyPost_ret (af Tryz.results11 _ _ (aq (w:=w) _ _ _ _ _ _ (by simp)) rfl underlying45 rfl (by kernel_rfl)) rfl ?_;exact⟨rfl,((Fr.refl NoF w).alloc _).alloc _⟩
theorem xT(h:RG w r n room l lv){id j:Nat}{x:Nat}(hat:atG l id=some j)(hj:j<l.length)(hp:l[j].pins=0):Calls prog 11 #[.pointer (some ⟨r,0,none⟩),.agg #[.int .i64 4,.int .u32 id,.int .u64 x]] w λe w'=>e=.returned (.agg #[.int .i64 5,.int .u32 0,.int .u64 0])/\Fr NoF w w':=by
 have HAT:=aC (h.fr0 (((Fr.refl NoF w).alloc (.cells #[.int .i64 4,.int .u32 id,.int .u64 x] 50)).alloc (.cells #[.int .i64 0,.int .u32 0,.int .u64 0] 45))) id;rw[hat]at HAT;unfold eF at HAT;have HA2:=Hd HAT;have hll:=h.b1.1;have c2:=h.c2;have lr:=h.hd.lt;obtain⟨g,cap,rfl,q1,q2,lg,y0,y1,y2,yf⟩:=h.at hj;have HYF:=Hd yf;have fz1:=yf (j*3+1);have fz2:=yf (j*3+2);have hgr:¬g=r:=h.nb g rfl;have hpk:l[j].pins<1000000:=(h.ok _ (List.getElem_mem hj)).2.2;have HH:=Hd h;rw[hp]at y2;clear h hat HAT yf;go_enter func11,ntmps11
 go_wp2_with fail
 refine HA2.out.mono ?_;rintro e w1⟨rfl,rfl⟩;go_wp2
 (try simp only[Exit.inBlock,Exit.then])
 refine bodyPost_ret (af Tryz.results11 _ _ (aq (w:=w) _ _ _ _ _ _ (by simp)) rfl underlying45 rfl (by kernel_rfl)) rfl ?_;exact⟨rfl,((Fr.refl NoF w).alloc _).alloc _⟩
theorem sq(h:RG w r n room l lv){id j:Nat}{x:Int}(hat:atG l id=some j)(hj:j<l.length)(hp:l[j].pins=0)(hf:n<=pinL l):Calls prog 11 #[.pointer (some ⟨r,0,none⟩),.agg #[.int .i64 1,.int .u32 id,.int .u64 x]] w λe w'=>e=.returned (.agg #[.int .i64 6,.int .u32 0,.int .u64 0])/\Fr NoF w w':=by
 have HAT:=aC (h.fr0 (((Fr.refl NoF w).alloc (.cells #[.int .i64 1,.int .u32 id,.int .u64 x] 50)).alloc (.cells #[.int .i64 0,.int .u32 0,.int .u64 0] 45))) id;rw[hat]at HAT;unfold eF at HAT;have HA2:=Hd HAT;have hll:=h.b1.1;have c2:=h.c2;have lr:=h.hd.lt;obtain⟨g,cap,rfl,q1,q2,lg,y0,y1,y2,yf⟩:=h.at hj;have HYF:=Hd yf;have fz1:=yf (j*3+1);have fz2:=yf (j*3+2);have hgr:¬g=r:=h.nb g rfl;have hpk:l[j].pins<1000000:=(h.ok _ (List.getElem_mem hj)).2.2;have HH:=Hd h;have HFU:=Hd (bM (h.fr0 (((Fr.refl NoF w).alloc (.cells #[.int .i64 1,.int .u32 id,.int .u64 x] 50)).alloc (.cells #[.int .i64 0,.int .u32 0,.int .u64 0] 45))));rw[hp]at y2;rw[show decide (n<=pinL l)=true from by simpa using hf]at HFU;clear hf;clear h hat HAT yf;go_enter func11,ntmps11
 go_wp2_with fail
 refine HA2.out.mono ?_;rintro e w1⟨rfl,rfl⟩
 go_wp2_with fail
 refine HFU.out.mono ?_;rintro e w1⟨rfl,rfl⟩;go_wp2
 (try simp only[Exit.inBlock,Exit.then])
 refine bodyPost_ret (af Tryz.results11 _ _ (aq (w:=w) _ _ _ _ _ _ (by simp)) rfl underlying45 rfl (by kernel_rfl)) rfl ?_;exact⟨rfl,((Fr.refl NoF w).alloc _).alloc _⟩
theorem pT(h:RG w r n room l lv){id j:Nat}{x:Int}(hat:atG l id=some j)(hj:j<l.length)(hp:l[j].pins=0)(hf:¬n<=pinL l):Calls prog 11 #[.pointer (some ⟨r,0,none⟩),.agg #[.int .i64 1,.int .u32 id,.int .u64 x]] w λe w'=>e=.returned (.agg #[.int .i64 0,.int .u32 0,.int .u64 0])/\RG w' r n room (l.set j {l[j]with pins:=1}) lv/\Fr (GFr r lv) w w':=by
 have HAT:=aC (h.fr0 (((Fr.refl NoF w).alloc (.cells #[.int .i64 1,.int .u32 id,.int .u64 x] 50)).alloc (.cells #[.int .i64 0,.int .u32 0,.int .u64 0] 45))) id;rw[hat]at HAT;unfold eF at HAT;have HA2:=Hd HAT;have hll:=h.b1.1;have c2:=h.c2;have lr:=h.hd.lt;obtain⟨g,cap,rfl,q1,q2,lg,y0,y1,y2,yf⟩:=h.at hj;have HYF:=Hd yf;have fz1:=yf (j*3+1);have fz2:=yf (j*3+2);have hgr:¬g=r:=h.nb g rfl;have hpk:l[j].pins<1000000:=(h.ok _ (List.getElem_mem hj)).2.2;have HH:=Hd h;have HFU:=Hd (bM (h.fr0 (((Fr.refl NoF w).alloc (.cells #[.int .i64 1,.int .u32 id,.int .u64 x] 50)).alloc (.cells #[.int .i64 0,.int .u32 0,.int .u64 0] 45))));have hV:=(h.ok _ (List.getElem_mem hj)).2.1;have HV:=Hd hV;clear hV;rw[hp]at y2;rw[show decide (n<=pinL l)=false from by simpa using hf]at HFU;clear hf;clear h hat HAT yf;go_enter func11,ntmps11
 go_wp2_with fail
 refine HA2.out.mono ?_;rintro e w1⟨rfl,rfl⟩
 go_wp2_with fail
 refine HFU.out.mono ?_;rintro e w1⟨rfl,rfl⟩;go_wp2;have KS:=HH.out.setP hj {l[j]with pins:=1} rfl (c:=2) (.inr ⟨rfl,rfl⟩) (⟨HV.out,by show 1<1000000;omega⟩) (z:=(.int .i64 1)) (by rfl)
 (try simp only[Exit.inBlock,Exit.then])
 refine bodyPost_ret (af Tryz.results11 _ _ (aq (w:=(w.setCell ⟨g,j*3+2,none⟩ (.int .i64 1))) _ _ _ _ _ _ (by simp)) rfl underlying45 rfl (by kernel_rfl)) rfl ?_;have f2:Fr NoF (w.setCell ⟨g,j*3+2,none⟩ (.int .i64 1)) (((w.setCell ⟨g,j*3+2,none⟩ (.int .i64 1)).alloc (.cells #[.int .i64 1,.int .u32 id,.int .u64 x] 50)).alloc (.cells #[.int .i64 0,.int .u32 0,.int .u64 0] 45)):=((Fr.refl NoF _).alloc _).alloc _;exact⟨rfl,KS.1.fr0 f2,(KS.2.mono (λi q=>.inr (by rw[q];rfl))).trans f2 (λ_ q=>q.elim)⟩
theorem rV(h:RG w r n room l lv){id j:Nat}{x:Int}(hat:atG l id=some j)(hj:j<l.length){q:Nat}(hp:l[j].pins=q+1)(hq:q+2<1000000):Calls prog 11 #[.pointer (some ⟨r,0,none⟩),.agg #[.int .i64 1,.int .u32 id,.int .u64 x]] w λe w'=>e=.returned (.agg #[.int .i64 0,.int .u32 0,.int .u64 0])/\RG w' r n room (l.set j {l[j]with pins:=q+2}) lv/\Fr (GFr r lv) w w':=by
 have HAT:=aC (h.fr0 (((Fr.refl NoF w).alloc (.cells #[.int .i64 1,.int .u32 id,.int .u64 x] 50)).alloc (.cells #[.int .i64 0,.int .u32 0,.int .u64 0] 45))) id;rw[hat]at HAT;unfold eF at HAT;have HA2:=Hd HAT;have hll:=h.b1.1;have c2:=h.c2;have lr:=h.hd.lt;obtain⟨g,cap,rfl,q1,q2,lg,y0,y1,y2,yf⟩:=h.at hj;have HYF:=Hd yf;have fz1:=yf (j*3+1);have fz2:=yf (j*3+2);have hgr:¬g=r:=h.nb g rfl;have hpk:l[j].pins<1000000:=(h.ok _ (List.getElem_mem hj)).2.2;have HH:=Hd h;have hV:=(h.ok _ (List.getElem_mem hj)).2.1;have HV:=Hd hV;clear hV;rw[hp]at y2;have gq:((q:Int)+1==0)=false:=by simp;omega
 have hcw:IntKind.i64.wrap ((q:Int)+1+1)=(q:Int)+2:=by rw[IntWalk.i64_in _ (by omega)];omega
 clear h hat HAT yf;go_enter func11,ntmps11
 go_wp2_with fail
 refine HA2.out.mono ?_;rintro e w1⟨rfl,rfl⟩;go_wp2;have KS:=HH.out.setP hj {l[j]with pins:=q+2} rfl (c:=2) (.inr ⟨rfl,rfl⟩) (⟨HV.out,hq⟩) (z:=(.int .i64 ((q:Int)+2))) (by rfl)
 (try simp only[Exit.inBlock,Exit.then])
 refine bodyPost_ret (af Tryz.results11 _ _ (aq (w:=(w.setCell ⟨g,j*3+2,none⟩ (.int .i64 ((q:Int)+2)))) _ _ _ _ _ _ (by simp)) rfl underlying45 rfl (by kernel_rfl)) rfl ?_;have f2:Fr NoF (w.setCell ⟨g,j*3+2,none⟩ (.int .i64 ((q:Int)+2))) (((w.setCell ⟨g,j*3+2,none⟩ (.int .i64 ((q:Int)+2))).alloc (.cells #[.int .i64 1,.int .u32 id,.int .u64 x] 50)).alloc (.cells #[.int .i64 0,.int .u32 0,.int .u64 0] 45)):=((Fr.refl NoF _).alloc _).alloc _;exact⟨rfl,KS.1.fr0 f2,(KS.2.mono (λi q=>.inr (by rw[q];rfl))).trans f2 (λ_ q=>q.elim)⟩
theorem Gd(h:RG w r n room l lv){id j:Nat}{x:Int}(hat:atG l id=some j)(hj:j<l.length){q:Nat}(hp:l[j].pins=q+1):Calls prog 11 #[.pointer (some ⟨r,0,none⟩),.agg #[.int .i64 2,.int .u32 id,.int .u64 x]] w λe w'=>e=.returned (.agg #[.int .i64 0,.int .u32 0,.int .u64 0])/\RG w' r n room (l.set j {l[j]with pins:=q}) lv/\Fr (GFr r lv) w w':=by
 have HAT:=aC (h.fr0 (((Fr.refl NoF w).alloc (.cells #[.int .i64 2,.int .u32 id,.int .u64 x] 50)).alloc (.cells #[.int .i64 0,.int .u32 0,.int .u64 0] 45))) id;rw[hat]at HAT;unfold eF at HAT;have HA2:=Hd HAT;have hll:=h.b1.1;have c2:=h.c2;have lr:=h.hd.lt;obtain⟨g,cap,rfl,q1,q2,lg,y0,y1,y2,yf⟩:=h.at hj;have HYF:=Hd yf;have fz1:=yf (j*3+1);have fz2:=yf (j*3+2);have hgr:¬g=r:=h.nb g rfl;have hpk:l[j].pins<1000000:=(h.ok _ (List.getElem_mem hj)).2.2;have HH:=Hd h;have hV:=(h.ok _ (List.getElem_mem hj)).2.1;have HV:=Hd hV;clear hV;rw[hp]at y2 hpk;have gq:((q:Int)+1==0)=false:=by simp;omega
 have hcw:IntKind.i64.wrap ((q:Int)+1-1)=(q:Int):=by rw[IntWalk.i64_in _ (by omega)];omega
 clear h hat HAT yf;go_enter func11,ntmps11
 go_wp2_with fail
 refine HA2.out.mono ?_;rintro e w1⟨rfl,rfl⟩;go_wp2;have KS:=HH.out.setP hj {l[j]with pins:=q} rfl (c:=2) (.inr ⟨rfl,rfl⟩) (⟨HV.out,by show q<1000000;omega⟩) (z:=(.int .i64 q)) (by rfl)
 (try simp only[Exit.inBlock,Exit.then])
 refine bodyPost_ret (af Tryz.results11 _ _ (aq (w:=(w.setCell ⟨g,j*3+2,none⟩ (.int .i64 q))) _ _ _ _ _ _ (by simp)) rfl underlying45 rfl (by kernel_rfl)) rfl ?_;have f2:Fr NoF (w.setCell ⟨g,j*3+2,none⟩ (.int .i64 q)) (((w.setCell ⟨g,j*3+2,none⟩ (.int .i64 q)).alloc (.cells #[.int .i64 2,.int .u32 id,.int .u64 x] 50)).alloc (.cells #[.int .i64 0,.int .u32 0,.int .u64 0] 45)):=((Fr.refl NoF _).alloc _).alloc _;exact⟨rfl,KS.1.fr0 f2,(KS.2.mono (λi q=>.inr (by rw[q];rfl))).trans f2 (λ_ q=>q.elim)⟩
theorem GJ(h:RG w r n room l lv){id j:Nat}{x:Int}(hat:atG l id=some j)(hj:j<l.length){q:Nat}(hp:l[j].pins=q+1):Calls prog 11 #[.pointer (some ⟨r,0,none⟩),.agg #[.int .i64 3,.int .u32 id,.int .u64 x]] w λe w'=>e=.returned (.agg #[.int .i64 0,.int .u32 0,.int .u64 (l[j].v:Nat)])/\Fr NoF w w':=by
 have HAT:=aC (h.fr0 (((Fr.refl NoF w).alloc (.cells #[.int .i64 3,.int .u32 id,.int .u64 x] 50)).alloc (.cells #[.int .i64 0,.int .u32 0,.int .u64 0] 45))) id;rw[hat]at HAT;unfold eF at HAT;have HA2:=Hd HAT;have hll:=h.b1.1;have c2:=h.c2;have lr:=h.hd.lt;obtain⟨g,cap,rfl,q1,q2,lg,y0,y1,y2,yf⟩:=h.at hj;have HYF:=Hd yf;have fz1:=yf (j*3+1);have fz2:=yf (j*3+2);have hgr:¬g=r:=h.nb g rfl;have hpk:l[j].pins<1000000:=(h.ok _ (List.getElem_mem hj)).2.2;have HH:=Hd h;rw[hp]at y2;have gq:((q:Int)+1==0)=false:=by simp;omega
 clear h hat HAT yf;go_enter func11,ntmps11
 go_wp2_with fail
 refine HA2.out.mono ?_;rintro e w1⟨rfl,rfl⟩;go_wp2
 (try simp only[Exit.inBlock,Exit.then])
 refine bodyPost_ret (af Tryz.results11 _ _ (aq (w:=w) _ _ _ _ _ _ (by simp)) rfl underlying45 rfl (by kernel_rfl)) rfl ?_;exact⟨rfl,((Fr.refl NoF w).alloc _).alloc _⟩
theorem Gx(h:RG w r n room l lv){id j:Nat}{x:Nat}(hat:atG l id=some j)(hj:j<l.length){q:Nat}(hp:l[j].pins=q+1)(hx:okV x):Calls prog 11 #[.pointer (some ⟨r,0,none⟩),.agg #[.int .i64 4,.int .u32 id,.int .u64 x]] w λe w'=>e=.returned (.agg #[.int .i64 0,.int .u32 0,.int .u64 0])/\RG w' r n room (l.set j {l[j]with v:=x}) lv/\Fr (GFr r lv) w w':=by
 have HAT:=aC (h.fr0 (((Fr.refl NoF w).alloc (.cells #[.int .i64 4,.int .u32 id,.int .u64 x] 50)).alloc (.cells #[.int .i64 0,.int .u32 0,.int .u64 0] 45))) id;rw[hat]at HAT;unfold eF at HAT;have HA2:=Hd HAT;have hll:=h.b1.1;have c2:=h.c2;have lr:=h.hd.lt;obtain⟨g,cap,rfl,q1,q2,lg,y0,y1,y2,yf⟩:=h.at hj;have HYF:=Hd yf;have fz1:=yf (j*3+1);have fz2:=yf (j*3+2);have hgr:¬g=r:=h.nb g rfl;have hpk:l[j].pins<1000000:=(h.ok _ (List.getElem_mem hj)).2.2;have HH:=Hd h;have HX:=Hd hx;clear hx;rw[hp]at y2;have gq:((q:Int)+1==0)=false:=by simp;omega
 clear h hat HAT yf;go_enter func11,ntmps11
 go_wp2_with fail
 refine HA2.out.mono ?_;rintro e w1⟨rfl,rfl⟩;go_wp2
 go_region
 all_goals
  go_wp2;have KS:=HH.out.setP hj {l[j]with v:=x} rfl (c:=1) (.inl ⟨rfl,rfl⟩) (⟨HX.out,hpk⟩) (z:=(.int .u64 x)) (by rfl)
  (try simp only[Exit.inBlock,Exit.then])
  refine bodyPost_ret (af Tryz.results11 _ _ (aq (w:=(w.setCell ⟨g,j*3+1,none⟩ (.int .u64 x))) _ _ _ _ _ _ (by simp)).drew rfl underlying45 rfl (by kernel_rfl)) rfl ?_;have f2:Fr NoF (w.setCell ⟨g,j*3+1,none⟩ (.int .u64 x)) (((w.setCell ⟨g,j*3+1,none⟩ (.int .u64 x)).alloc (.cells #[.int .i64 4,.int .u32 id,.int .u64 x] 50)).alloc (.cells #[.int .i64 0,.int .u32 0,.int .u64 0] 45)).drew:=(((Fr.refl NoF _).alloc _).alloc _).drew;exact⟨rfl,KS.1.fr0 f2,(KS.2.mono (λi q=>.inr (by rw[q];rfl))).trans f2 (λ_ q=>q.elim)⟩
theorem Ed(h:RG w r n room l lv){id j:Nat}{x:Int}(hat:atG l id=some j)(hj:j<l.length):Calls prog 11 #[.pointer (some ⟨r,0,none⟩),.agg #[.int .i64 5,.int .u32 id,.int .u64 x]] w λe w'=>e=.returned (.agg #[.int .i64 0,.int .u32 0,.int .u64 0])/\Fr NoF w w':=by
 have HAT:=aC (h.fr0 (((Fr.refl NoF w).alloc (.cells #[.int .i64 5,.int .u32 id,.int .u64 x] 50)).alloc (.cells #[.int .i64 0,.int .u32 0,.int .u64 0] 45))) id;rw[hat]at HAT;unfold eF at HAT;have HA2:=Hd HAT;have hll:=h.b1.1;have c2:=h.c2;have lr:=h.hd.lt;obtain⟨g,cap,rfl,q1,q2,lg,y0,y1,y2,yf⟩:=h.at hj;have HYF:=Hd yf;have fz1:=yf (j*3+1);have fz2:=yf (j*3+2);have hgr:¬g=r:=h.nb g rfl;have hpk:l[j].pins<1000000:=(h.ok _ (List.getElem_mem hj)).2.2;have HH:=Hd h;clear h hat HAT yf;go_enter func11,ntmps11
 go_wp2_with fail
 refine HA2.out.mono ?_;rintro e w1⟨rfl,rfl⟩;go_wp2
 (try simp only[Exit.inBlock,Exit.then])
 refine bodyPost_ret (af Tryz.results11 _ _ (aq (w:=w) _ _ _ _ _ _ (by simp)) rfl underlying45 rfl (by kernel_rfl)) rfl ?_;exact⟨rfl,((Fr.refl NoF w).alloc _).alloc _⟩
theorem oY(h:RG w r n room l lv){id j:Nat}{x:Int}(hat:atG l id=some j)(hj:j<l.length){q:Nat}(hp:l[j].pins=q+1):Calls prog 11 #[.pointer (some ⟨r,0,none⟩),.agg #[.int .i64 7,.int .u32 id,.int .u64 x]] w λe w'=>e=.returned (.agg #[.int .i64 4,.int .u32 0,.int .u64 0])/\Fr NoF w w':=by
 have HAT:=aC (h.fr0 (((Fr.refl NoF w).alloc (.cells #[.int .i64 7,.int .u32 id,.int .u64 x] 50)).alloc (.cells #[.int .i64 0,.int .u32 0,.int .u64 0] 45))) id;rw[hat]at HAT;unfold eF at HAT;have HA2:=Hd HAT;have hll:=h.b1.1;have c2:=h.c2;have lr:=h.hd.lt;obtain⟨g,cap,rfl,q1,q2,lg,y0,y1,y2,yf⟩:=h.at hj;have HYF:=Hd yf;have fz1:=yf (j*3+1);have fz2:=yf (j*3+2);have hgr:¬g=r:=h.nb g rfl;have hpk:l[j].pins<1000000:=(h.ok _ (List.getElem_mem hj)).2.2;have HH:=Hd h;rw[hp]at y2;have gq:decide (0<(q:Int)+1)=true:=by simp<;>omega
 clear h hat HAT yf;go_enter func11,ntmps11
 go_wp2_with fail
 refine HA2.out.mono ?_;rintro e w1⟨rfl,rfl⟩;go_wp2
 (try simp only[Exit.inBlock,Exit.then])
 refine bodyPost_ret (af Tryz.results11 _ _ (aq (w:=w) _ _ _ _ _ _ (by simp)) rfl underlying45 rfl (by kernel_rfl)) rfl ?_;exact⟨rfl,((Fr.refl NoF w).alloc _).alloc _⟩
end
section
variable{w w0 w':World}{r n room:Nat}{l:List Pg}{lv v:Value}
theorem RG.cut(h:RG w r n room l lv){k:Nat}(hk:k<l.length){v6:Value}{w6:World}(ho:w6.ownsRow w.heap.size 56 3 v6 (k+(l.length-(k+1))) (gC (l.take k)++gC (l.drop (k+1))))(f:Fr NoF w w6):
  RG (w6.setCell ⟨r,2,none⟩ v6) r n room (l.take k++l.drop (k+1)) v6/\Fr (λi=>i=r) w (w6.setCell ⟨r,2,none⟩ v6):=by
 have hlen:(l.take k++l.drop (k+1)).length=k+(l.length-(k+1)):=by rw[List.length_append,List.length_take,List.length_drop];omega
 rw[<-kF]at ho;have hb:=h.b1.1
 exact h.setL hlen.symm ho f (by rw[hlen];omega) (λp hp=>by
  rcases List.mem_append.1 hp with q|q
  .exact h.ok p (List.mem_of_mem_take q)
  .exact h.ok p (List.mem_of_mem_drop q))
theorem wi(h:RG w r n room l lv){id k:Nat}{x:Int}(hat:atG l id=some k)(hk:k<l.length)(hp:l[k].pins=0):Calls prog 11 #[.pointer (some ⟨r,0,none⟩),.agg #[.int .i64 7,.int .u32 id,.int .u64 x]] w λe w'=>e=.returned (.agg #[.int .i64 0,.int .u32 0,.int .u64 0])/\(∃lv',RG w' r n room (l.take k++l.drop (k+1)) lv'/\∀i,GFr r lv' i->GFr r lv i\/w.heap.size<=i)/\Fr (λk=>k=r) w w':=by
 have fA:Fr NoF w ((w.alloc (.cells #[.int .i64 7,.int .u32 id,.int .u64 x] 50)).alloc (.cells #[.int .i64 0,.int .u32 0,.int .u64 0] 45)):=((Fr.refl NoF w).alloc _).alloc _;have HAT:=aC (h.fr0 fA) id;rw[hat]at HAT;unfold eF at HAT;have HA2:=Hd HAT;have hll:=h.b1.1;have hbo:Blk ((w.alloc (.cells #[.int .i64 7,.int .u32 id,.int .u64 x] 50)).alloc (.cells #[.int .i64 0,.int .u32 0,.int .u64 0] 45)) w.heap.size 3 (λi=>if i=0 then .int .i64 7 else if i=1 then .int .u32 id else .int .u64 x):=(dN w _ _ _).alloc _;have hba:=dZ w (.int .i64 7) (.int .u32 id) (.int .u64 x) (.int .i64 0) (.int .u32 0) (.int .u64 0) (t:=45) (t':=50);have hsa:w.heap.size+1<((w.alloc (.cells #[.int .i64 7,.int .u32 id,.int .u64 x] 50)).alloc (.cells #[.int .i64 0,.int .u32 0,.int .u64 0] 45)).heap.size:=by simp
 have HFA:=Hd fA;have lbw:=h.hd.lt;have ha:=h.fr0 fA;clear h HAT hat fA;go_enter func11,ntmps11
 go_wp2_with fail
 refine HA2.out.mono ?_;rintro e w1⟨rfl,rfl⟩;have hsb:w.heap.size<w.heap.size+1:=by omega
 generalize((w.alloc (.cells #[.int .i64 7,.int .u32 id,.int .u64 x] 50)).alloc (.cells #[.int .i64 0,.int .u32 0,.int .u64 0] 45))=wa at*;generalize hrb1:w.heap.size+1=rb at*;generalize hob:w.heap.size=ob at*;have HOB:=Hd (And.intro hob hrb1);clear hob hrb1 HA2;have o0:wa.cell? ⟨ob,0,none⟩=some (.int .i64 7):=hbo.cell (i:=0) (by omega);have lo:=hbo.lt;have HRB:=Hd hba;have c2:=ha.c2;have lb:=ha.hd.lt;have f2:=ha.hd.frozen 2;obtain⟨g,cc,rfl,p1,p2,lg,y0,y1,y2,yf⟩:=ha.at hk;rw[hp]at y2;have hgr:¬g=r:=ha.nb g rfl;have HFI:Hid (∀W,Fr NoF wa W->SlC W 3 (.slice (some ⟨g,0,none⟩) k cc) k (gC (l.take k))):=λW f=>mT (ha.slc.keep f) (by omega) (by omega)
 have HLA:Hid (k+1<cc->∀W,Fr NoF wa W->SlC W 3 (.slice (some ⟨g,0+(k+1)*3,none⟩) (l.length-(k+1)) (cc-(k+1))) (l.length-(k+1)) (gC (l.drop (k+1)))):=λq W f=>qI (ha.slc.keep f) (by omega) q
 have HH:=Hd ha
 obtain⟨AD,hAD,hLA2⟩:∃AD,(if cc=k+1 then some ⟨g,0,none⟩else some ⟨g,(k+1)*3,none⟩)=AD/\Hid (∀W,Fr NoF wa W->SlC W 3 (.slice AD (l.length-(k+1)) (cc-(k+1))) (l.length-(k+1)) (gC (l.drop (k+1)))):=by
  by_cases q:cc=k+1
  .refine⟨_,rfl,λW f=>?_⟩
   rw[if_pos q];have e1:l.length-(k+1)=0:=by omega
   have e2:l.drop (k+1)=[]:=List.drop_of_length_le (by omega);have e3:cc-(k+1)=0:=by omega
   rw[e1,e2,e3];exact⟨_,_,rfl,rfl,λu hu=>(by cases hu),Nat.le_refl _,by unfold maxLen;omega,.inr ⟨g,0,rfl,Nat.lt_of_lt_of_le lg f.size,λj u hj=>(by simp[gC]at hj)⟩⟩
  .refine⟨_,rfl,λW f=>?_⟩
   rw[if_neg q];have:=HLA.out (by omega) W f;rw[Nat.zero_add]at this;exact this
 have HOW:Hid (∀W,Fr NoF (wa.alloc (.cells #[] 56)) W->W.ownsRow wa.heap.size 56 3 (.slice (some ⟨wa.heap.size,0,none⟩) 0 0) 0 []):=λW f=>ak (aQ (w0:=wa) (Nat.le_refl _) #[] 56 3 0 _ rfl rfl (by unfold maxLen;omega)) f (λ_ _ q=>q)
 have KC:Hid (∀W,Fr NoF wa W->W.cell? ⟨r,2,none⟩=some (.slice (some ⟨g,0,none⟩) l.length cc)/\W.frozen? ⟨r,2,none⟩=false/\r<W.heap.size):=λW f=>⟨(ha.fr0 f).c2,(ha.fr0 f).hd.frozen 2,(ha.fr0 f).hd.lt⟩
 have hkc:k<=cc:=by omega
 have hk1:k+1<=l.length:=hk;have hk2:k+1<=cc:=by omega
 have hki1:0<=(k:Int)+1:=by omega
 have hki2:(k:Int)+1<=(l.length:Int):=by omega
 have hkw:IntKind.i64.wrap ((k:Int)+1)=((k+1:Nat):Int):=IntWalk.i64_in _ (by omega);clear ha hbo hba HLA hp yf;go_wp2
 go_region_law(first
  |(refine eU (base:=wa.heap.size) EIG rfl (.tmp 112) (.tmp 118) rfl (by rfl) (by rfl) (by simp;try omega) (HOW.out _ (by repeat(first|exact Fr.refl NoF _|apply Fr.drew|apply Fr.alloc))) (HFI.out _ (by repeat(first|exact Fr.refl NoF _|apply Fr.drew|apply Fr.alloc))) (by unfold maxLen;omega) (by omega) ?_;intro v5 w5 hown5 hf5 hob5;rw[Nat.zero_add,List.nil_append]at hown5;obtain⟨a5,c5,rfl,_,_⟩:=(SlC.ofOwn hown5 (df _)).shape;have HO5:=Hd hown5;have HF5:Hid (Fr NoF wa w5):=Fr.trans (F:=NoF) (a:=wa) (by repeat(first|exact Fr.refl NoF _|apply Fr.drew|apply Fr.alloc)) hf5 (λi q=>.inr (by cases q;exact Nat.le_refl _));obtain⟨x1,x2,x3⟩:=KC.out w5 HF5.out;have hs5:=HF5.out.size;clear hown5 hf5 hob5)
  |(refine eU (base:=wa.heap.size) EIG rfl (.tmp 119) (.tmp 126) rfl (by rfl) (by rfl) hs5 HO5.out (hLA2.out _ HF5.out) (by unfold maxLen;omega) (by omega) ?_;intro v7 w7 hown6 hf6 hob6;obtain⟨a7,c7,rfl,_,_⟩:=(SlC.ofOwn hown6 (λu hu=>by rcases List.mem_append.1 hu with q|q<;>exact df _ u q)).shape;have HO7:=Hd hown6;have HF7:=Hd (HF5.out.trans hf6 (λi q=>.inr (aj HO5.out i q)));obtain⟨z1,z2,z3⟩:=KC.out w7 HF7.out;clear hown6 hf6 hob6))
 all_goals
  have RB7:=HRB.out.fr HF7.out (λq=>q);have t0:w7.cell? ⟨rb,0,none⟩=some (.int .i64 0):=RB7.cell (i:=0) (by omega);have t1:w7.cell? ⟨rb,1,none⟩=some (.int .u32 0):=RB7.cell (i:=1) (by omega);have t2:w7.cell? ⟨rb,2,none⟩=some (.int .u64 0):=RB7.cell (i:=2) (by omega);have g0:=RB7.frozen 0;have g1:=RB7.frozen 1;have g2:=RB7.frozen 2;have lr:=RB7.lt;have HRB7:=Hd RB7;have hne:¬rb=r:=by omega
  have hne2:¬r=rb:=by omega
  clear RB7;go_wp2;obtain⟨r1,r2⟩:=HH.out.cut hk HO7.out HF7.out;have RB:=HRB7.out.other (a:=⟨r,2,none⟩) hne (.slice a7 (k+(l.length-(k+1))) c7);have RS:=((RB.set 0 (.int .i64 0)).set 1 (.int .u32 0)).set 2 (.int .u64 0);have FS:=(((Fr.refl (λi=>i=rb) (w7.setCell ⟨r,2,none⟩ (.slice a7 (k+(l.length-(k+1))) c7))).setCell (p:=⟨rb,0,none⟩) (.inl rfl) (.int .i64 0)).setCell (p:=⟨rb,1,none⟩) (.inl rfl) (.int .u32 0)).setCell (p:=⟨rb,2,none⟩) (.inl rfl) (.int .u64 0);have hov:=aj HO7.out;have hw0:=HOB.out
  (try simp only[Exit.inBlock,Exit.then])
  refine bodyPost_ret (af Tryz.results11 _ _ RS rfl underlying45 rfl (by kernel_rfl)) rfl ?_;refine⟨rfl,⟨_,r1.fr FS (λi q e=>?_),λi q=>?_⟩,((HFA.out.mono (λ_ q=>q.elim)).trans r2 (λi q=>.inl q)).trans FS (λi q=>.inr (by omega))⟩
  .rcases q with q|q
   .omega
   .have:=hov i q;omega
  .rcases q with q|q
   .exact .inl (.inl q)
   .right;have:=hov i q;omega
end
end
section
open Go.RowKit
def cw(l:List Pg):Prop:=l.Pairwise (λp q=>p.id<q.id)
theorem cw.at{l:List Pg}(h:cw l){i j:Nat}(hj:j<l.length)(hij:i<j):(l[i]'(by omega)).id<l[j].id:=List.pairwise_iff_getElem.1 h i j (by omega) hj hij
theorem cw.inj{l:List Pg}(h:cw l){i j:Nat}(hi:i<l.length)(hj:j<l.length)(e:l[i].id=l[j].id):i=j:=by
 rcases Nat.lt_trichotomy i j with q|q|q
 .have:=h.at hj q;omega
 .exact q
 .have:=h.at hi q;omega
theorem sA{l:List Pg}(h:cw l){j:Nat}(hj:j<l.length){p q:Pg}(hq:q∈l.set j p):q=p\/(q∈l/\¬q.id=l[j].id):=by
 obtain⟨i,hi,rfl⟩:=List.mem_iff_getElem.1 hq;rw[List.length_set]at hi;by_cases e:j=i
 .subst e;left;simp
 .right
  rw[List.getElem_set_ne e];exact⟨List.getElem_mem hi,λq=>e (h.inj hj hi q.symm)⟩
theorem cw.set{l:List Pg}(h:cw l){j:Nat}(hj:j<l.length)(p:Pg)(hid:p.id=l[j].id):cw (l.set j p):=by
 refine List.pairwise_iff_getElem.2 (λa c ha hc hac=>?_);rw[List.length_set]at ha hc;have:=h.at hc hac;by_cases e1:j=a
 .subst e1
  rw[List.getElem_set_self,List.getElem_set_ne (by omega),hid];exact this
 .rw[List.getElem_set_ne e1]
  by_cases e2:j=c
  .subst e2;rw[List.getElem_set_self,hid];exact this
  .rw[List.getElem_set_ne e2];exact this
theorem nL{l:List Pg}{j:Nat}(hj:j<l.length):l=l.take j++l[j]::l.drop (j+1):=by
 rw[<-List.drop_eq_getElem_cons hj,List.take_append_drop]
theorem dj{l:List Pg}{j:Nat}(hj:j<l.length):pinL l=pinL (l.take j)+(if 0<l[j].pins then 1 else 0)+pinL (l.drop (j+1)):=by
 conv=>lhs;rw[nL hj]
 unfold pinL;rw[List.countP_append,List.countP_cons];by_cases q:0<l[j].pins<;>simp[q]<;>omega
theorem i6{l:List Pg}{j:Nat}(hj:j<l.length)(p:Pg):pinL (l.set j p)+(if 0<l[j].pins then 1 else 0)=pinL l+(if 0<p.pins then 1 else 0):=by
 have h1:=dj hj;have h2:=dj (l:=l.set j p) (j:=j) (by rw[List.length_set];exact hj);rw[List.getElem_set_self,List.take_set_of_le (by omega),List.drop_set_of_lt (by omega)]at h2;omega
theorem yG{l:List Pg}{j:Nat}(hj:j<l.length):pinL (l.take j++l.drop (j+1))+(if 0<l[j].pins then 1 else 0)=pinL l:=by
 have h1:=dj hj;have:pinL (l.take j++l.drop (j+1))=pinL (l.take j)+pinL (l.drop (j+1)):=by unfold pinL;rw[List.countP_append]
 omega
theorem BY{l:List Pg}{j:Nat}(hj:j<l.length):(l.take j++l.drop (j+1)).length=l.length-1:=by
 rw[List.length_append,List.length_take,List.length_drop];omega
theorem ow{l:List Pg}(h:cw l){j:Nat}(hj:j<l.length){q:Pg}:q∈l.take j++l.drop (j+1)↔q∈l/\¬q.id=l[j].id:=by
 have hs:=nL hj;constructor
 .intro hq
  have hm:q∈l:=by
   rcases List.mem_append.1 hq with q1|q1
   .exact List.mem_of_mem_take q1
   .exact List.mem_of_mem_drop q1
  refine⟨hm,λe=>?_⟩;have hP:cw (l.take j++l[j]::l.drop (j+1)):=by rw[<-hs];exact h
  obtain⟨p1,p2,p3⟩:=List.pairwise_append.1 hP;rcases List.mem_append.1 hq with q1|q1
  .have:=p3 q q1 l[j] (.head _);omega
  .have:=(List.pairwise_cons.1 p2).1 q q1;omega
 .rintro⟨hm,hne⟩
  rw[hs]at hm;rcases List.mem_append.1 hm with q1|q1
  .exact List.mem_append.2 (.inl q1)
  .rcases List.mem_cons.1 q1 with rfl|q1
   .exact absurd rfl hne
   .exact List.mem_append.2 (.inr q1)
theorem cw.cut{l:List Pg}(h:cw l)(j:Nat):cw (l.take j++l.drop (j+1)):=by
 refine List.Pairwise.sublist ?_ h
 conv=>rhs;rw[<-List.take_append_drop j l]
 refine List.Sublist.append (List.Sublist.refl _) ?_;rw[<-List.drop_drop];exact List.drop_sublist _ _
theorem gU.unique{l:List Pg}{k k':Nat}(h:gU l k)(h':gU l k'):k=k':=by
 rcases Nat.lt_trichotomy k k' with q|q|q
 .have hk:k<l.length:=Nat.lt_of_lt_of_le q h'.le
  exact absurd (h'.all k hk q) (h.not hk)
 .exact q
 .have hk:k'<l.length:=Nat.lt_of_lt_of_le q h.le
  exact absurd (h.all k' hk q) (h'.not hk)
theorem vR{l:List Pg}(h:cw l)(h1:∀p∈l,1<=p.id):∀j (hj:j<l.length),j+1<=l[j].id
 |0,hj=>h1 _ (List.getElem_mem hj)
 |j+1,hj=>by have:=vR h h1 j (by omega);have:=h.at hj (Nat.lt_succ_self j);omega
theorem nA{l:List Pg}(h:cw l)(h1:∀p∈l,1<=p.id){k:Nat}(hg:gU l k):∀j (hj:j<l.length),k<=j->k+1<l[j].id:=by
 intro j hj hkj;have hk:k<l.length:=by omega
 have a:=vR h h1 k hk;have b:=hg.not hk;by_cases e:k=j
 .subst e;omega
 .have:=h.at hj (show k<j by omega);omega
theorem Dv{l:List Pg}(h:cw l)(h1:∀p∈l,1<=p.id){k:Nat}(hg:gU l k):∀q∈l,¬q.id=k+1:=by
 intro q hq e;obtain⟨j,hj,rfl⟩:=List.mem_iff_getElem.1 hq;by_cases q:j<k
 .have:=hg.all j hj q;omega
 .have:=nA h h1 hg j hj (by omega);omega
theorem j7{l:List Pg}{k:Nat}{q:Pg}:q∈insG l k↔q=⟨k+1,0,1⟩\/q∈l:=by
 unfold insG;constructor
 .intro h
  rcases List.mem_append.1 h with h|h
  .rcases List.mem_append.1 h with h|h
   .exact .inr (List.mem_of_mem_take h)
   .exact .inl (by simpa using h)
  .exact .inr (List.mem_of_mem_drop h)
 .rintro(rfl|h)
  .simp
  .rw[<-List.take_append_drop k l]at h
   rcases List.mem_append.1 h with h|h
   .exact List.mem_append.2 (.inl (List.mem_append.2 (.inl h)))
   .exact List.mem_append.2 (.inr h)
theorem Bx(l:List Pg)(k:Nat):pinL (insG l k)=pinL l+1:=by
 have e:pinL l=pinL (l.take k)+pinL (l.drop k):=by
  conv=>lhs;rw[<-List.take_append_drop k l]
  unfold pinL;rw[List.countP_append]
 unfold insG pinL at*;rw[List.countP_append,List.countP_append];simp;omega
theorem cw.ins{l:List Pg}(h:cw l)(h1:∀p∈l,1<=p.id){k:Nat}(hg:gU l k):cw (insG l k):=by
 have hle:=hg.le
 have ht:∀p∈l.take k,p.id<k+1:=by
  intro p hp;obtain⟨j,hj,rfl⟩:=List.mem_iff_getElem.1 hp;rw[List.length_take]at hj;rw[List.getElem_take];have:=hg.all j (by omega) (by omega);omega
 have hd:∀p∈l.drop k,k+1<p.id:=by
  intro p hp;obtain⟨j,hj,rfl⟩:=List.mem_iff_getElem.1 hp;rw[List.length_drop]at hj;rw[List.getElem_drop];exact nA h h1 hg (k+j) (by omega) (by omega)
 have hP:cw (l.take k++l.drop k):=by rw[List.take_append_drop];exact h
 obtain⟨p1,p2,p3⟩:=List.pairwise_append.1 hP;unfold insG cw;refine List.pairwise_append.2 ⟨List.pairwise_append.2 ⟨p1,List.pairwise_singleton _ _,λa ha c hc=>?_⟩,p2,λa ha c hc=>?_⟩
 .simp at hc;subst hc;exact ht a ha
 .rcases List.mem_append.1 ha with ha|ha
  .exact p3 a ha c hc
  .simp at ha;subst ha;exact hd c hc
end
end Go.Proofs.YtoenclhimbpfeaaGreatDoor
