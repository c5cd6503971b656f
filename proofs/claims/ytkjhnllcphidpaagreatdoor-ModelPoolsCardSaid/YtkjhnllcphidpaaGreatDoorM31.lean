/- Part 31. -/
import Derived.Test.YtkjhnllcphidpaaGreatDoorM30
namespace Go.Proofs.YtkjhnllcphidpaaGreatDoor
set_option linter.all false
set_option maxHeartbeats 16000000
set_option maxRecDepth 100000
section
open Go.Proofs.Tryz Go.RowKit
section
variable{w w0 w':World}{r n room:Nat}{l:List Pg}{lv v:Value}
theorem am{w:World}{m:Nat}(y1 y2 y3 u1 u2 u3:Value){t t':TypeId}(hm:m=w.heap.size+1):Blk ((w.alloc (.cells #[y1,y2,y3] t')).alloc (.cells #[u1,u2,u3] t)) m 3 (λi=>if i=0 then u1 else if i=1 then u2 else u3):=by
 subst hm;exact bb w y1 y2 y3 u1 u2 u3
theorem RG.setP{g cap:Nat}(h:RG w r n room l (.slice (some ⟨g,0,none⟩) l.length cap)){k:Nat}(hk:k<l.length)(p:Pg)(hid:p.id=l[k].id){c:Nat}(hc:c=1/\p.pins=l[k].pins\/c=2/\p.v=l[k].v)(hp:okV p.v/\p.pins<1000000){z:Value}(hz:z=if c=1 then .int .u64 (p.v:Nat)else .int .i64 (p.pins:Nat)):
  RG (w.setCell ⟨g,k*3+c,none⟩ z) r n room (l.set k p) (.slice (some ⟨g,0,none⟩) l.length cap)/\Fr (λi=>i=g) w (w.setCell ⟨g,k*3+c,none⟩ z):=by
 subst hz;have hgr:¬g=r:=h.nb g rfl;have f:Fr (λi=>i=g) w (w.setCell ⟨g,k*3+c,none⟩ (if c=1 then .int .u64 (p.v:Nat)else .int .i64 (p.pins:Nat))):=(Fr.refl (λi=>i=g) w).setCell (p:=⟨g,k*3+c,none⟩) (.inl rfl) _;refine⟨⟨h.hd.fr f (λe=>hgr e.symm),?_,h.nb,by rw[List.length_set];exact h.b1,λq hq=>?_⟩,f⟩
 .have hs:=(h.hl.set (i:=k*3+c) (by omega) (if c=1 then .int .u64 (p.v:Nat)else .int .i64 (p.pins:Nat))).congr (Ed l hk p hid hc)
  rw[List.length_set];exact hs
 .rcases List.mem_or_eq_of_mem_set hq with q|q
  .exact h.ok _ q
  .subst q;exact⟨by rw[hid];exact(h.ok _ (List.getElem_mem hk)).1,hp⟩
theorem wt(h:RG w r n room l lv){k id x:Int}(hk:k<0\/7<k):Calls prog 14 #[.pointer (some ⟨r,0,none⟩),.agg #[.int .i64 k,.int .u32 id,.int .u64 x]] w λe w'=>e=.returned (.agg #[.int .i64 1,.int .u32 0,.int .u64 0])/\Fr NoF w w':=by
 by_cases h0:k<0
 .have g0:decide (k<0)=true:=by simpa using h0
  clear h hk h0;go_enter func14,ntmps14;go_wp2
  (try simp only[Exit.inBlock,Exit.then])
  refine bodyPost_ret (af Tryz.results14 _ _ (am (w:=w) _ _ _ _ _ _ (by simp)) rfl underlying44 rfl (by kernel_rfl)) rfl ?_;exact⟨rfl,((Fr.refl NoF w).alloc _).alloc _⟩
 .have g0:decide (k<0)=false:=by simpa using h0
  have g1:decide (7<k)=true:=by simp;omega
  clear h hk h0;go_enter func14,ntmps14;go_wp2
  (try simp only[Exit.inBlock,Exit.then])
  refine bodyPost_ret (af Tryz.results14 _ _ (am (w:=w) _ _ _ _ _ _ (by simp)) rfl underlying44 rfl (by kernel_rfl)) rfl ?_;exact⟨rfl,((Fr.refl NoF w).alloc _).alloc _⟩
theorem ET(h:RG w r n room l lv){id x:Int}:Calls prog 14 #[.pointer (some ⟨r,0,none⟩),.agg #[.int .i64 6,.int .u32 id,.int .u64 x]] w λe w'=>e=.returned (.agg #[.int .i64 0,.int .u32 0,.int .u64 0])/\Fr NoF w w':=by
 clear h;go_enter func14,ntmps14;go_wp2
 (try simp only[Exit.inBlock,Exit.then])
 refine bodyPost_ret (af Tryz.results14 _ _ (am (w:=w) _ _ _ _ _ _ (by simp)) rfl underlying44 rfl (by kernel_rfl)) rfl ?_;exact⟨rfl,((Fr.refl NoF w).alloc _).alloc _⟩
theorem mB(h:RG w r n room l lv){id:Nat}{x:Int}(hat:atG l id=none):Calls prog 14 #[.pointer (some ⟨r,0,none⟩),.agg #[.int .i64 1,.int .u32 id,.int .u64 x]] w λe w'=>e=.returned (.agg #[.int .i64 3,.int .u32 0,.int .u64 0])/\Fr NoF w w':=by
 have HAT:=az (h.fr0 (((Fr.refl NoF w).alloc (.cells #[.int .i64 1,.int .u32 id,.int .u64 x] 52)).alloc (.cells #[.int .i64 0,.int .u32 0,.int .u64 0] 44))) id;rw[hat]at HAT;unfold eF at HAT;have HA2:=Hd HAT;clear h hat HAT;go_enter func14,ntmps14
 go_wp2_with fail
 refine HA2.out.mono ?_;rintro e w1⟨rfl,rfl⟩;go_wp2
 (try simp only[Exit.inBlock,Exit.then])
 refine bodyPost_ret (af Tryz.results14 _ _ (am (w:=w) _ _ _ _ _ _ (by simp)) rfl underlying44 rfl (by kernel_rfl)) rfl ?_;exact⟨rfl,((Fr.refl NoF w).alloc _).alloc _⟩
theorem mx(h:RG w r n room l lv){id:Nat}{x:Int}(hat:atG l id=none):Calls prog 14 #[.pointer (some ⟨r,0,none⟩),.agg #[.int .i64 2,.int .u32 id,.int .u64 x]] w λe w'=>e=.returned (.agg #[.int .i64 3,.int .u32 0,.int .u64 0])/\Fr NoF w w':=by
 have HAT:=az (h.fr0 (((Fr.refl NoF w).alloc (.cells #[.int .i64 2,.int .u32 id,.int .u64 x] 52)).alloc (.cells #[.int .i64 0,.int .u32 0,.int .u64 0] 44))) id;rw[hat]at HAT;unfold eF at HAT;have HA2:=Hd HAT;clear h hat HAT;go_enter func14,ntmps14
 go_wp2_with fail
 refine HA2.out.mono ?_;rintro e w1⟨rfl,rfl⟩;go_wp2
 (try simp only[Exit.inBlock,Exit.then])
 refine bodyPost_ret (af Tryz.results14 _ _ (am (w:=w) _ _ _ _ _ _ (by simp)) rfl underlying44 rfl (by kernel_rfl)) rfl ?_;exact⟨rfl,((Fr.refl NoF w).alloc _).alloc _⟩
theorem mu(h:RG w r n room l lv){id:Nat}{x:Int}(hat:atG l id=none):Calls prog 14 #[.pointer (some ⟨r,0,none⟩),.agg #[.int .i64 3,.int .u32 id,.int .u64 x]] w λe w'=>e=.returned (.agg #[.int .i64 3,.int .u32 0,.int .u64 0])/\Fr NoF w w':=by
 have HAT:=az (h.fr0 (((Fr.refl NoF w).alloc (.cells #[.int .i64 3,.int .u32 id,.int .u64 x] 52)).alloc (.cells #[.int .i64 0,.int .u32 0,.int .u64 0] 44))) id;rw[hat]at HAT;unfold eF at HAT;have HA2:=Hd HAT;clear h hat HAT;go_enter func14,ntmps14
 go_wp2_with fail
 refine HA2.out.mono ?_;rintro e w1⟨rfl,rfl⟩;go_wp2
 (try simp only[Exit.inBlock,Exit.then])
 refine bodyPost_ret (af Tryz.results14 _ _ (am (w:=w) _ _ _ _ _ _ (by simp)) rfl underlying44 rfl (by kernel_rfl)) rfl ?_;exact⟨rfl,((Fr.refl NoF w).alloc _).alloc _⟩
theorem l9(h:RG w r n room l lv){id:Nat}{x:Int}(hat:atG l id=none):Calls prog 14 #[.pointer (some ⟨r,0,none⟩),.agg #[.int .i64 4,.int .u32 id,.int .u64 x]] w λe w'=>e=.returned (.agg #[.int .i64 3,.int .u32 0,.int .u64 0])/\Fr NoF w w':=by
 have HAT:=az (h.fr0 (((Fr.refl NoF w).alloc (.cells #[.int .i64 4,.int .u32 id,.int .u64 x] 52)).alloc (.cells #[.int .i64 0,.int .u32 0,.int .u64 0] 44))) id;rw[hat]at HAT;unfold eF at HAT;have HA2:=Hd HAT;clear h hat HAT;go_enter func14,ntmps14
 go_wp2_with fail
 refine HA2.out.mono ?_;rintro e w1⟨rfl,rfl⟩;go_wp2
 (try simp only[Exit.inBlock,Exit.then])
 refine bodyPost_ret (af Tryz.results14 _ _ (am (w:=w) _ _ _ _ _ _ (by simp)) rfl underlying44 rfl (by kernel_rfl)) rfl ?_;exact⟨rfl,((Fr.refl NoF w).alloc _).alloc _⟩
theorem mh(h:RG w r n room l lv){id:Nat}{x:Int}(hat:atG l id=none):Calls prog 14 #[.pointer (some ⟨r,0,none⟩),.agg #[.int .i64 5,.int .u32 id,.int .u64 x]] w λe w'=>e=.returned (.agg #[.int .i64 3,.int .u32 0,.int .u64 0])/\Fr NoF w w':=by
 have HAT:=az (h.fr0 (((Fr.refl NoF w).alloc (.cells #[.int .i64 5,.int .u32 id,.int .u64 x] 52)).alloc (.cells #[.int .i64 0,.int .u32 0,.int .u64 0] 44))) id;rw[hat]at HAT;unfold eF at HAT;have HA2:=Hd HAT;clear h hat HAT;go_enter func14,ntmps14
 go_wp2_with fail
 refine HA2.out.mono ?_;rintro e w1⟨rfl,rfl⟩;go_wp2
 (try simp only[Exit.inBlock,Exit.then])
 refine bodyPost_ret (af Tryz.results14 _ _ (am (w:=w) _ _ _ _ _ _ (by simp)) rfl underlying44 rfl (by kernel_rfl)) rfl ?_;exact⟨rfl,((Fr.refl NoF w).alloc _).alloc _⟩
theorem md(h:RG w r n room l lv){id:Nat}{x:Int}(hat:atG l id=none):Calls prog 14 #[.pointer (some ⟨r,0,none⟩),.agg #[.int .i64 7,.int .u32 id,.int .u64 x]] w λe w'=>e=.returned (.agg #[.int .i64 3,.int .u32 0,.int .u64 0])/\Fr NoF w w':=by
 have HAT:=az (h.fr0 (((Fr.refl NoF w).alloc (.cells #[.int .i64 7,.int .u32 id,.int .u64 x] 52)).alloc (.cells #[.int .i64 0,.int .u32 0,.int .u64 0] 44))) id;rw[hat]at HAT;unfold eF at HAT;have HA2:=Hd HAT;clear h hat HAT;go_enter func14,ntmps14
 go_wp2_with fail
 refine HA2.out.mono ?_;rintro e w1⟨rfl,rfl⟩;go_wp2
 (try simp only[Exit.inBlock,Exit.then])
 refine bodyPost_ret (af Tryz.results14 _ _ (am (w:=w) _ _ _ _ _ _ (by simp)) rfl underlying44 rfl (by kernel_rfl)) rfl ?_;exact⟨rfl,((Fr.refl NoF w).alloc _).alloc _⟩
theorem xz(h:RG w r n room l lv){id j:Nat}{x:Int}(hat:atG l id=some j)(hj:j<l.length)(hp:l[j].pins=0):Calls prog 14 #[.pointer (some ⟨r,0,none⟩),.agg #[.int .i64 2,.int .u32 id,.int .u64 x]] w λe w'=>e=.returned (.agg #[.int .i64 5,.int .u32 0,.int .u64 0])/\Fr NoF w w':=by
 have HAT:=az (h.fr0 (((Fr.refl NoF w).alloc (.cells #[.int .i64 2,.int .u32 id,.int .u64 x] 52)).alloc (.cells #[.int .i64 0,.int .u32 0,.int .u64 0] 44))) id;rw[hat]at HAT;unfold eF at HAT;have HA2:=Hd HAT;have hll:=h.b1.1;have c2:=h.c2;have lr:=h.hd.lt;obtain⟨g,cap,rfl,q1,q2,lg,y0,y1,y2,yf⟩:=h.at hj;have HYF:=Hd yf;have fz1:=yf (j*3+1);have fz2:=yf (j*3+2);have hgr:¬g=r:=h.nb g rfl;have hpk:l[j].pins<1000000:=(h.ok _ (List.getElem_mem hj)).2.2;have HH:=Hd h;rw[hp]at y2;clear h hat HAT yf;go_enter func14,ntmps14
 go_wp2_with fail
 refine HA2.out.mono ?_;rintro e w1⟨rfl,rfl⟩;go_wp2
 (try simp only[Exit.inBlock,Exit.then])
 refine bodyPost_ret (af Tryz.results14 _ _ (am (w:=w) _ _ _ _ _ _ (by simp)) rfl underlying44 rfl (by kernel_rfl)) rfl ?_;exact⟨rfl,((Fr.refl NoF w).alloc _).alloc _⟩
theorem wm(h:RG w r n room l lv){id j:Nat}{x:Int}(hat:atG l id=some j)(hj:j<l.length)(hp:l[j].pins=0):Calls prog 14 #[.pointer (some ⟨r,0,none⟩),.agg #[.int .i64 3,.int .u32 id,.int .u64 x]] w λe w'=>e=.returned (.agg #[.int .i64 5,.int .u32 0,.int .u64 0])/\Fr NoF w w':=by
 have HAT:=az (h.fr0 (((Fr.refl NoF w).alloc (.cells #[.int .i64 3,.int .u32 id,.int .u64 x] 52)).alloc (.cells #[.int .i64 0,.int .u32 0,.int .u64 0] 44))) id;rw[hat]at HAT;unfold eF at HAT;have HA2:=Hd HAT;have hll:=h.b1.1;have c2:=h.c2;have lr:=h.hd.lt;obtain⟨g,cap,rfl,q1,q2,lg,y0,y1,y2,yf⟩:=h.at hj;have HYF:=Hd yf;have fz1:=yf (j*3+1);have fz2:=yf (j*3+2);have hgr:¬g=r:=h.nb g rfl;have hpk:l[j].pins<1000000:=(h.ok _ (List.getElem_mem hj)).2.2;have HH:=Hd h;rw[hp]at y2;clear h hat HAT yf;go_enter func14,ntmps14
 go_wp2_with fail
 refine HA2.out.mono ?_;rintro e w1⟨rfl,rfl⟩;go_wp2
 (try simp only[Exit.inBlock,Exit.then])
 refine bodyPost_ret (af Tryz.results14 _ _ (am (w:=w) _ _ _ _ _ _ (by simp)) rfl underlying44 rfl (by kernel_rfl)) rfl ?_;exact⟨rfl,((Fr.refl NoF w).alloc _).alloc _⟩
theorem wc(h:RG w r n room l lv){id j:Nat}{x:Nat}(hat:atG l id=some j)(hj:j<l.length)(hp:l[j].pins=0):Calls prog 14 #[.pointer (some ⟨r,0,none⟩),.agg #[.int .i64 4,.int .u32 id,.int .u64 x]] w λe w'=>e=.returned (.agg #[.int .i64 5,.int .u32 0,.int .u64 0])/\Fr NoF w w':=by
 have HAT:=az (h.fr0 (((Fr.refl NoF w).alloc (.cells #[.int .i64 4,.int .u32 id,.int .u64 x] 52)).alloc (.cells #[.int .i64 0,.int .u32 0,.int .u64 0] 44))) id;rw[hat]at HAT;unfold eF at HAT;have HA2:=Hd HAT;have hll:=h.b1.1;have c2:=h.c2;have lr:=h.hd.lt;obtain⟨g,cap,rfl,q1,q2,lg,y0,y1,y2,yf⟩:=h.at hj;have HYF:=Hd yf;have fz1:=yf (j*3+1);have fz2:=yf (j*3+2);have hgr:¬g=r:=h.nb g rfl;have hpk:l[j].pins<1000000:=(h.ok _ (List.getElem_mem hj)).2.2;have HH:=Hd h;rw[hp]at y2;clear h hat HAT yf;go_enter func14,ntmps14
 go_wp2_with fail
 refine HA2.out.mono ?_;rintro e w1⟨rfl,rfl⟩;go_wp2
 (try simp only[Exit.inBlock,Exit.then])
 refine bodyPost_ret (af Tryz.results14 _ _ (am (w:=w) _ _ _ _ _ _ (by simp)) rfl underlying44 rfl (by kernel_rfl)) rfl ?_;exact⟨rfl,((Fr.refl NoF w).alloc _).alloc _⟩
theorem sR(h:RG w r n room l lv){id j:Nat}{x:Int}(hat:atG l id=some j)(hj:j<l.length)(hp:l[j].pins=0)(hf:n<=pinL l):Calls prog 14 #[.pointer (some ⟨r,0,none⟩),.agg #[.int .i64 1,.int .u32 id,.int .u64 x]] w λe w'=>e=.returned (.agg #[.int .i64 6,.int .u32 0,.int .u64 0])/\Fr NoF w w':=by
 have HAT:=az (h.fr0 (((Fr.refl NoF w).alloc (.cells #[.int .i64 1,.int .u32 id,.int .u64 x] 52)).alloc (.cells #[.int .i64 0,.int .u32 0,.int .u64 0] 44))) id;rw[hat]at HAT;unfold eF at HAT;have HA2:=Hd HAT;have hll:=h.b1.1;have c2:=h.c2;have lr:=h.hd.lt;obtain⟨g,cap,rfl,q1,q2,lg,y0,y1,y2,yf⟩:=h.at hj;have HYF:=Hd yf;have fz1:=yf (j*3+1);have fz2:=yf (j*3+2);have hgr:¬g=r:=h.nb g rfl;have hpk:l[j].pins<1000000:=(h.ok _ (List.getElem_mem hj)).2.2;have HH:=Hd h;have HFU:=Hd (bN (h.fr0 (((Fr.refl NoF w).alloc (.cells #[.int .i64 1,.int .u32 id,.int .u64 x] 52)).alloc (.cells #[.int .i64 0,.int .u32 0,.int .u64 0] 44))));rw[hp]at y2;rw[show decide (n<=pinL l)=true from by simpa using hf]at HFU;clear hf;clear h hat HAT yf;go_enter func14,ntmps14
 go_wp2_with fail
 refine HA2.out.mono ?_;rintro e w1⟨rfl,rfl⟩
 go_wp2_with fail
 refine HFU.out.mono ?_;rintro e w1⟨rfl,rfl⟩;go_wp2
 (try simp only[Exit.inBlock,Exit.then])
 refine bodyPost_ret (af Tryz.results14 _ _ (am (w:=w) _ _ _ _ _ _ (by simp)) rfl underlying44 rfl (by kernel_rfl)) rfl ?_;exact⟨rfl,((Fr.refl NoF w).alloc _).alloc _⟩
theorem qi(h:RG w r n room l lv){id j:Nat}{x:Int}(hat:atG l id=some j)(hj:j<l.length)(hp:l[j].pins=0)(hf:¬n<=pinL l):Calls prog 14 #[.pointer (some ⟨r,0,none⟩),.agg #[.int .i64 1,.int .u32 id,.int .u64 x]] w λe w'=>e=.returned (.agg #[.int .i64 0,.int .u32 0,.int .u64 0])/\RG w' r n room (l.set j {l[j]with pins:=1}) lv/\Fr (GFr r lv) w w':=by
 have HAT:=az (h.fr0 (((Fr.refl NoF w).alloc (.cells #[.int .i64 1,.int .u32 id,.int .u64 x] 52)).alloc (.cells #[.int .i64 0,.int .u32 0,.int .u64 0] 44))) id;rw[hat]at HAT;unfold eF at HAT;have HA2:=Hd HAT;have hll:=h.b1.1;have c2:=h.c2;have lr:=h.hd.lt;obtain⟨g,cap,rfl,q1,q2,lg,y0,y1,y2,yf⟩:=h.at hj;have HYF:=Hd yf;have fz1:=yf (j*3+1);have fz2:=yf (j*3+2);have hgr:¬g=r:=h.nb g rfl;have hpk:l[j].pins<1000000:=(h.ok _ (List.getElem_mem hj)).2.2;have HH:=Hd h;have HFU:=Hd (bN (h.fr0 (((Fr.refl NoF w).alloc (.cells #[.int .i64 1,.int .u32 id,.int .u64 x] 52)).alloc (.cells #[.int .i64 0,.int .u32 0,.int .u64 0] 44))));have hV:=(h.ok _ (List.getElem_mem hj)).2.1;have HV:=Hd hV;clear hV;rw[hp]at y2;rw[show decide (n<=pinL l)=false from by simpa using hf]at HFU;clear hf;clear h hat HAT yf;go_enter func14,ntmps14
 go_wp2_with fail
 refine HA2.out.mono ?_;rintro e w1⟨rfl,rfl⟩
 go_wp2_with fail
 refine HFU.out.mono ?_;rintro e w1⟨rfl,rfl⟩;go_wp2;have KS:=HH.out.setP hj {l[j]with pins:=1} rfl (c:=2) (.inr ⟨rfl,rfl⟩) (⟨HV.out,by show 1<1000000;omega⟩) (z:=(.int .i64 1)) (by rfl)
 (try simp only[Exit.inBlock,Exit.then])
 refine bodyPost_ret (af Tryz.results14 _ _ (am (w:=(w.setCell ⟨g,j*3+2,none⟩ (.int .i64 1))) _ _ _ _ _ _ (by simp)) rfl underlying44 rfl (by kernel_rfl)) rfl ?_;have f2:Fr NoF (w.setCell ⟨g,j*3+2,none⟩ (.int .i64 1)) (((w.setCell ⟨g,j*3+2,none⟩ (.int .i64 1)).alloc (.cells #[.int .i64 1,.int .u32 id,.int .u64 x] 52)).alloc (.cells #[.int .i64 0,.int .u32 0,.int .u64 0] 44)):=((Fr.refl NoF _).alloc _).alloc _;exact⟨rfl,KS.1.fr0 f2,(KS.2.mono (λi q=>.inr (by rw[q];rfl))).trans f2 (λ_ q=>q.elim)⟩
theorem tE(h:RG w r n room l lv){id j:Nat}{x:Int}(hat:atG l id=some j)(hj:j<l.length){q:Nat}(hp:l[j].pins=q+1)(hq:q+2<1000000):Calls prog 14 #[.pointer (some ⟨r,0,none⟩),.agg #[.int .i64 1,.int .u32 id,.int .u64 x]] w λe w'=>e=.returned (.agg #[.int .i64 0,.int .u32 0,.int .u64 0])/\RG w' r n room (l.set j {l[j]with pins:=q+2}) lv/\Fr (GFr r lv) w w':=by
 have HAT:=az (h.fr0 (((Fr.refl NoF w).alloc (.cells #[.int .i64 1,.int .u32 id,.int .u64 x] 52)).alloc (.cells #[.int .i64 0,.int .u32 0,.int .u64 0] 44))) id;rw[hat]at HAT;unfold eF at HAT;have HA2:=Hd HAT;have hll:=h.b1.1;have c2:=h.c2;have lr:=h.hd.lt;obtain⟨g,cap,rfl,q1,q2,lg,y0,y1,y2,yf⟩:=h.at hj;have HYF:=Hd yf;have fz1:=yf (j*3+1);have fz2:=yf (j*3+2);have hgr:¬g=r:=h.nb g rfl;have hpk:l[j].pins<1000000:=(h.ok _ (List.getElem_mem hj)).2.2;have HH:=Hd h;have hV:=(h.ok _ (List.getElem_mem hj)).2.1;have HV:=Hd hV;clear hV;rw[hp]at y2;have gq:((q:Int)+1==0)=false:=by simp;omega
 have hcw:IntKind.i64.wrap ((q:Int)+1+1)=(q:Int)+2:=by rw[IntWalk.i64_in _ (by omega)];omega
 clear h hat HAT yf;go_enter func14,ntmps14
 go_wp2_with fail
 refine HA2.out.mono ?_;rintro e w1⟨rfl,rfl⟩;go_wp2;have KS:=HH.out.setP hj {l[j]with pins:=q+2} rfl (c:=2) (.inr ⟨rfl,rfl⟩) (⟨HV.out,hq⟩) (z:=(.int .i64 ((q:Int)+2))) (by rfl)
 (try simp only[Exit.inBlock,Exit.then])
 refine bodyPost_ret (af Tryz.results14 _ _ (am (w:=(w.setCell ⟨g,j*3+2,none⟩ (.int .i64 ((q:Int)+2)))) _ _ _ _ _ _ (by simp)) rfl underlying44 rfl (by kernel_rfl)) rfl ?_;have f2:Fr NoF (w.setCell ⟨g,j*3+2,none⟩ (.int .i64 ((q:Int)+2))) (((w.setCell ⟨g,j*3+2,none⟩ (.int .i64 ((q:Int)+2))).alloc (.cells #[.int .i64 1,.int .u32 id,.int .u64 x] 52)).alloc (.cells #[.int .i64 0,.int .u32 0,.int .u64 0] 44)):=((Fr.refl NoF _).alloc _).alloc _;exact⟨rfl,KS.1.fr0 f2,(KS.2.mono (λi q=>.inr (by rw[q];rfl))).trans f2 (λ_ q=>q.elim)⟩
theorem Ev(h:RG w r n room l lv){id j:Nat}{x:Int}(hat:atG l id=some j)(hj:j<l.length){q:Nat}(hp:l[j].pins=q+1):Calls prog 14 #[.pointer (some ⟨r,0,none⟩),.agg #[.int .i64 2,.int .u32 id,.int .u64 x]] w λe w'=>e=.returned (.agg #[.int .i64 0,.int .u32 0,.int .u64 0])/\RG w' r n room (l.set j {l[j]with pins:=q}) lv/\Fr (GFr r lv) w w':=by
 have HAT:=az (h.fr0 (((Fr.refl NoF w).alloc (.cells #[.int .i64 2,.int .u32 id,.int .u64 x] 52)).alloc (.cells #[.int .i64 0,.int .u32 0,.int .u64 0] 44))) id;rw[hat]at HAT;unfold eF at HAT;have HA2:=Hd HAT;have hll:=h.b1.1;have c2:=h.c2;have lr:=h.hd.lt;obtain⟨g,cap,rfl,q1,q2,lg,y0,y1,y2,yf⟩:=h.at hj;have HYF:=Hd yf;have fz1:=yf (j*3+1);have fz2:=yf (j*3+2);have hgr:¬g=r:=h.nb g rfl;have hpk:l[j].pins<1000000:=(h.ok _ (List.getElem_mem hj)).2.2;have HH:=Hd h;have hV:=(h.ok _ (List.getElem_mem hj)).2.1;have HV:=Hd hV;clear hV;rw[hp]at y2 hpk;have gq:((q:Int)+1==0)=false:=by simp;omega
 have hcw:IntKind.i64.wrap ((q:Int)+1-1)=(q:Int):=by rw[IntWalk.i64_in _ (by omega)];omega
 clear h hat HAT yf;go_enter func14,ntmps14
 go_wp2_with fail
 refine HA2.out.mono ?_;rintro e w1⟨rfl,rfl⟩;go_wp2;have KS:=HH.out.setP hj {l[j]with pins:=q} rfl (c:=2) (.inr ⟨rfl,rfl⟩) (⟨HV.out,by show q<1000000;omega⟩) (z:=(.int .i64 q)) (by rfl)
 (try simp only[Exit.inBlock,Exit.then])
 refine bodyPost_ret (af Tryz.results14 _ _ (am (w:=(w.setCell ⟨g,j*3+2,none⟩ (.int .i64 q))) _ _ _ _ _ _ (by simp)) rfl underlying44 rfl (by kernel_rfl)) rfl ?_;have f2:Fr NoF (w.setCell ⟨g,j*3+2,none⟩ (.int .i64 q)) (((w.setCell ⟨g,j*3+2,none⟩ (.int .i64 q)).alloc (.cells #[.int .i64 2,.int .u32 id,.int .u64 x] 52)).alloc (.cells #[.int .i64 0,.int .u32 0,.int .u64 0] 44)):=((Fr.refl NoF _).alloc _).alloc _;exact⟨rfl,KS.1.fr0 f2,(KS.2.mono (λi q=>.inr (by rw[q];rfl))).trans f2 (λ_ q=>q.elim)⟩
theorem EL(h:RG w r n room l lv){id j:Nat}{x:Int}(hat:atG l id=some j)(hj:j<l.length){q:Nat}(hp:l[j].pins=q+1):Calls prog 14 #[.pointer (some ⟨r,0,none⟩),.agg #[.int .i64 3,.int .u32 id,.int .u64 x]] w λe w'=>e=.returned (.agg #[.int .i64 0,.int .u32 0,.int .u64 (l[j].v:Nat)])/\Fr NoF w w':=by
 have HAT:=az (h.fr0 (((Fr.refl NoF w).alloc (.cells #[.int .i64 3,.int .u32 id,.int .u64 x] 52)).alloc (.cells #[.int .i64 0,.int .u32 0,.int .u64 0] 44))) id;rw[hat]at HAT;unfold eF at HAT;have HA2:=Hd HAT;have hll:=h.b1.1;have c2:=h.c2;have lr:=h.hd.lt;obtain⟨g,cap,rfl,q1,q2,lg,y0,y1,y2,yf⟩:=h.at hj;have HYF:=Hd yf;have fz1:=yf (j*3+1);have fz2:=yf (j*3+2);have hgr:¬g=r:=h.nb g rfl;have hpk:l[j].pins<1000000:=(h.ok _ (List.getElem_mem hj)).2.2;have HH:=Hd h;rw[hp]at y2;have gq:((q:Int)+1==0)=false:=by simp;omega
 clear h hat HAT yf;go_enter func14,ntmps14
 go_wp2_with fail
 refine HA2.out.mono ?_;rintro e w1⟨rfl,rfl⟩;go_wp2
 (try simp only[Exit.inBlock,Exit.then])
 refine bodyPost_ret (af Tryz.results14 _ _ (am (w:=w) _ _ _ _ _ _ (by simp)) rfl underlying44 rfl (by kernel_rfl)) rfl ?_;exact⟨rfl,((Fr.refl NoF w).alloc _).alloc _⟩
theorem Fk(h:RG w r n room l lv){id j:Nat}{x:Nat}(hat:atG l id=some j)(hj:j<l.length){q:Nat}(hp:l[j].pins=q+1)(hx:okV x):Calls prog 14 #[.pointer (some ⟨r,0,none⟩),.agg #[.int .i64 4,.int .u32 id,.int .u64 x]] w λe w'=>e=.returned (.agg #[.int .i64 0,.int .u32 0,.int .u64 0])/\RG w' r n room (l.set j {l[j]with v:=x}) lv/\Fr (GFr r lv) w w':=by
 have HAT:=az (h.fr0 (((Fr.refl NoF w).alloc (.cells #[.int .i64 4,.int .u32 id,.int .u64 x] 52)).alloc (.cells #[.int .i64 0,.int .u32 0,.int .u64 0] 44))) id;rw[hat]at HAT;unfold eF at HAT;have HA2:=Hd HAT;have hll:=h.b1.1;have c2:=h.c2;have lr:=h.hd.lt;obtain⟨g,cap,rfl,q1,q2,lg,y0,y1,y2,yf⟩:=h.at hj;have HYF:=Hd yf;have fz1:=yf (j*3+1);have fz2:=yf (j*3+2);have hgr:¬g=r:=h.nb g rfl;have hpk:l[j].pins<1000000:=(h.ok _ (List.getElem_mem hj)).2.2;have HH:=Hd h;have HX:=Hd hx;clear hx;rw[hp]at y2;have gq:((q:Int)+1==0)=false:=by simp;omega
 clear h hat HAT yf;go_enter func14,ntmps14
 go_wp2_with fail
 refine HA2.out.mono ?_;rintro e w1⟨rfl,rfl⟩;go_wp2
 go_region
 all_goals
  go_wp2;have KS:=HH.out.setP hj {l[j]with v:=x} rfl (c:=1) (.inl ⟨rfl,rfl⟩) (⟨HX.out,hpk⟩) (z:=(.int .u64 x)) (by rfl)
  (try simp only[Exit.inBlock,Exit.then])
  refine bodyPost_ret (af Tryz.results14 _ _ (am (w:=(w.setCell ⟨g,j*3+1,none⟩ (.int .u64 x))) _ _ _ _ _ _ (by simp)).drew rfl underlying44 rfl (by kernel_rfl)) rfl ?_;have f2:Fr NoF (w.setCell ⟨g,j*3+1,none⟩ (.int .u64 x)) (((w.setCell ⟨g,j*3+1,none⟩ (.int .u64 x)).alloc (.cells #[.int .i64 4,.int .u32 id,.int .u64 x] 52)).alloc (.cells #[.int .i64 0,.int .u32 0,.int .u64 0] 44)).drew:=(((Fr.refl NoF _).alloc _).alloc _).drew;exact⟨rfl,KS.1.fr0 f2,(KS.2.mono (λi q=>.inr (by rw[q];rfl))).trans f2 (λ_ q=>q.elim)⟩
theorem C1(h:RG w r n room l lv){id j:Nat}{x:Int}(hat:atG l id=some j)(hj:j<l.length):Calls prog 14 #[.pointer (some ⟨r,0,none⟩),.agg #[.int .i64 5,.int .u32 id,.int .u64 x]] w λe w'=>e=.returned (.agg #[.int .i64 0,.int .u32 0,.int .u64 0])/\Fr NoF w w':=by
 have HAT:=az (h.fr0 (((Fr.refl NoF w).alloc (.cells #[.int .i64 5,.int .u32 id,.int .u64 x] 52)).alloc (.cells #[.int .i64 0,.int .u32 0,.int .u64 0] 44))) id;rw[hat]at HAT;unfold eF at HAT;have HA2:=Hd HAT;have hll:=h.b1.1;have c2:=h.c2;have lr:=h.hd.lt;obtain⟨g,cap,rfl,q1,q2,lg,y0,y1,y2,yf⟩:=h.at hj;have HYF:=Hd yf;have fz1:=yf (j*3+1);have fz2:=yf (j*3+2);have hgr:¬g=r:=h.nb g rfl;have hpk:l[j].pins<1000000:=(h.ok _ (List.getElem_mem hj)).2.2;have HH:=Hd h;clear h hat HAT yf;go_enter func14,ntmps14
 go_wp2_with fail
 refine HA2.out.mono ?_;rintro e w1⟨rfl,rfl⟩;go_wp2
 (try simp only[Exit.inBlock,Exit.then])
 refine bodyPost_ret (af Tryz.results14 _ _ (am (w:=w) _ _ _ _ _ _ (by simp)) rfl underlying44 rfl (by kernel_rfl)) rfl ?_;exact⟨rfl,((Fr.refl NoF w).alloc _).alloc _⟩
theorem oX(h:RG w r n room l lv){id j:Nat}{x:Int}(hat:atG l id=some j)(hj:j<l.length){q:Nat}(hp:l[j].pins=q+1):Calls prog 14 #[.pointer (some ⟨r,0,none⟩),.agg #[.int .i64 7,.int .u32 id,.int .u64 x]] w λe w'=>e=.returned (.agg #[.int .i64 4,.int .u32 0,.int .u64 0])/\Fr NoF w w':=by
 have HAT:=az (h.fr0 (((Fr.refl NoF w).alloc (.cells #[.int .i64 7,.int .u32 id,.int .u64 x] 52)).alloc (.cells #[.int .i64 0,.int .u32 0,.int .u64 0] 44))) id;rw[hat]at HAT;unfold eF at HAT;have HA2:=Hd HAT;have hll:=h.b1.1;have c2:=h.c2;have lr:=h.hd.lt;obtain⟨g,cap,rfl,q1,q2,lg,y0,y1,y2,yf⟩:=h.at hj;have HYF:=Hd yf;have fz1:=yf (j*3+1);have fz2:=yf (j*3+2);have hgr:¬g=r:=h.nb g rfl;have hpk:l[j].pins<1000000:=(h.ok _ (List.getElem_mem hj)).2.2;have HH:=Hd h;rw[hp]at y2;have gq:decide (0<(q:Int)+1)=true:=by simp<;>omega
 clear h hat HAT yf;go_enter func14,ntmps14
 go_wp2_with fail
 refine HA2.out.mono ?_;rintro e w1⟨rfl,rfl⟩;go_wp2
 (try simp only[Exit.inBlock,Exit.then])
 refine bodyPost_ret (af Tryz.results14 _ _ (am (w:=w) _ _ _ _ _ _ (by simp)) rfl underlying44 rfl (by kernel_rfl)) rfl ?_;exact⟨rfl,((Fr.refl NoF w).alloc _).alloc _⟩
end
section
variable{w w0 w':World}{r n room:Nat}{l:List Pg}{lv v:Value}
theorem RG.cut(h:RG w r n room l lv){k:Nat}(hk:k<l.length){v6:Value}{w6:World}(ho:w6.ownsRow w.heap.size 56 3 v6 (k+(l.length-(k+1))) (gC (l.take k)++gC (l.drop (k+1))))(f:Fr NoF w w6):
  RG (w6.setCell ⟨r,2,none⟩ v6) r n room (l.take k++l.drop (k+1)) v6/\Fr (λi=>i=r) w (w6.setCell ⟨r,2,none⟩ v6):=by
 have hlen:(l.take k++l.drop (k+1)).length=k+(l.length-(k+1)):=by rw[List.length_append,List.length_take,List.length_drop];omega
 rw[<-lH]at ho;have hb:=h.b1.1
 exact h.setL hlen.symm ho f (by rw[hlen];omega) (λp hp=>by
  rcases List.mem_append.1 hp with q|q
  .exact h.ok p (List.mem_of_mem_take q)
  .exact h.ok p (List.mem_of_mem_drop q))
theorem vT(h:RG w r n room l lv){id k:Nat}{x:Int}(hat:atG l id=some k)(hk:k<l.length)(hp:l[k].pins=0):Calls prog 14 #[.pointer (some ⟨r,0,none⟩),.agg #[.int .i64 7,.int .u32 id,.int .u64 x]] w λe w'=>e=.returned (.agg #[.int .i64 0,.int .u32 0,.int .u64 0])/\(∃lv',RG w' r n room (l.take k++l.drop (k+1)) lv'/\∀i,GFr r lv' i->GFr r lv i\/w.heap.size<=i)/\Fr (λk=>k=r) w w':=by
 have fA:Fr NoF w ((w.alloc (.cells #[.int .i64 7,.int .u32 id,.int .u64 x] 52)).alloc (.cells #[.int .i64 0,.int .u32 0,.int .u64 0] 44)):=((Fr.refl NoF w).alloc _).alloc _;have HAT:=az (h.fr0 fA) id;rw[hat]at HAT;unfold eF at HAT;have HA2:=Hd HAT;have hll:=h.b1.1;have hbo:Blk ((w.alloc (.cells #[.int .i64 7,.int .u32 id,.int .u64 x] 52)).alloc (.cells #[.int .i64 0,.int .u32 0,.int .u64 0] 44)) w.heap.size 3 (λi=>if i=0 then .int .i64 7 else if i=1 then .int .u32 id else .int .u64 x):=(bt w _ _ _).alloc _;have hba:=bb w (.int .i64 7) (.int .u32 id) (.int .u64 x) (.int .i64 0) (.int .u32 0) (.int .u64 0) (t:=44) (t':=52);have hsa:w.heap.size+1<((w.alloc (.cells #[.int .i64 7,.int .u32 id,.int .u64 x] 52)).alloc (.cells #[.int .i64 0,.int .u32 0,.int .u64 0] 44)).heap.size:=by simp
 have HFA:=Hd fA;have lbw:=h.hd.lt;have ha:=h.fr0 fA;clear h HAT hat fA;go_enter func14,ntmps14
 go_wp2_with fail
 refine HA2.out.mono ?_;rintro e w1⟨rfl,rfl⟩;have hsb:w.heap.size<w.heap.size+1:=by omega
 generalize((w.alloc (.cells #[.int .i64 7,.int .u32 id,.int .u64 x] 52)).alloc (.cells #[.int .i64 0,.int .u32 0,.int .u64 0] 44))=wa at*;generalize hrb1:w.heap.size+1=rb at*;generalize hob:w.heap.size=ob at*;have HOB:=Hd (And.intro hob hrb1);clear hob hrb1 HA2;have o0:wa.cell? ⟨ob,0,none⟩=some (.int .i64 7):=hbo.cell (i:=0) (by omega);have lo:=hbo.lt;have HRB:=Hd hba;have c2:=ha.c2;have lb:=ha.hd.lt;have f2:=ha.hd.frozen 2;obtain⟨g,cc,rfl,p1,p2,lg,y0,y1,y2,yf⟩:=ha.at hk;rw[hp]at y2;have hgr:¬g=r:=ha.nb g rfl;have HFI:Hid (∀W,Fr NoF wa W->SlC W 3 (.slice (some ⟨g,0,none⟩) k cc) k (gC (l.take k))):=λW f=>m9 (ha.slc.keep f) (by omega) (by omega)
 have HLA:Hid (k+1<cc->∀W,Fr NoF wa W->SlC W 3 (.slice (some ⟨g,0+(k+1)*3,none⟩) (l.length-(k+1)) (cc-(k+1))) (l.length-(k+1)) (gC (l.drop (k+1)))):=λq W f=>pN (ha.slc.keep f) (by omega) q
 have HH:=Hd ha
 obtain⟨AD,hAD,hLA2⟩:∃AD,(if cc=k+1 then some ⟨g,0,none⟩else some ⟨g,(k+1)*3,none⟩)=AD/\Hid (∀W,Fr NoF wa W->SlC W 3 (.slice AD (l.length-(k+1)) (cc-(k+1))) (l.length-(k+1)) (gC (l.drop (k+1)))):=by
  by_cases q:cc=k+1
  .refine⟨_,rfl,λW f=>?_⟩
   rw[if_pos q];have e1:l.length-(k+1)=0:=by omega
   have e2:l.drop (k+1)=[]:=List.drop_of_length_le (by omega);have e3:cc-(k+1)=0:=by omega
   rw[e1,e2,e3];exact⟨_,_,rfl,rfl,λu hu=>(by cases hu),Nat.le_refl _,by unfold maxLen;omega,.inr ⟨g,0,rfl,Nat.lt_of_lt_of_le lg f.size,λj u hj=>(by simp[gC]at hj)⟩⟩
  .refine⟨_,rfl,λW f=>?_⟩
   rw[if_neg q];have:=HLA.out (by omega) W f;rw[Nat.zero_add]at this;exact this
 have HOW:Hid (∀W,Fr NoF (wa.alloc (.cells #[] 56)) W->W.ownsRow wa.heap.size 56 3 (.slice (some ⟨wa.heap.size,0,none⟩) 0 0) 0 []):=λW f=>aW (cB (w0:=wa) (Nat.le_refl _) #[] 56 3 0 _ rfl rfl (by unfold maxLen;omega)) f (λ_ _ q=>q)
 have KC:Hid (∀W,Fr NoF wa W->W.cell? ⟨r,2,none⟩=some (.slice (some ⟨g,0,none⟩) l.length cc)/\W.frozen? ⟨r,2,none⟩=false/\r<W.heap.size):=λW f=>⟨(ha.fr0 f).c2,(ha.fr0 f).hd.frozen 2,(ha.fr0 f).hd.lt⟩
 have hkc:k<=cc:=by omega
 have hk1:k+1<=l.length:=hk;have hk2:k+1<=cc:=by omega
 have hki1:0<=(k:Int)+1:=by omega
 have hki2:(k:Int)+1<=(l.length:Int):=by omega
 have hkw:IntKind.i64.wrap ((k:Int)+1)=((k+1:Nat):Int):=IntWalk.i64_in _ (by omega);clear ha hbo hba HLA hp yf;go_wp2
 go_region_law(first
  |(refine fY (base:=wa.heap.size) EIG rfl (.tmp 112) (.tmp 118) rfl (by rfl) (by rfl) (by simp;try omega) (HOW.out _ (by repeat(first|exact Fr.refl NoF _|apply Fr.drew|apply Fr.alloc))) (HFI.out _ (by repeat(first|exact Fr.refl NoF _|apply Fr.drew|apply Fr.alloc))) (by unfold maxLen;omega) (by omega) ?_;intro v5 w5 hown5 hf5 hob5;rw[Nat.zero_add,List.nil_append]at hown5;obtain⟨a5,c5,rfl,_,_⟩:=(SlC.ofOwn hown5 (dn _)).shape;have HO5:=Hd hown5;have HF5:Hid (Fr NoF wa w5):=Fr.trans (F:=NoF) (a:=wa) (by repeat(first|exact Fr.refl NoF _|apply Fr.drew|apply Fr.alloc)) hf5 (λi q=>.inr (by cases q;exact Nat.le_refl _));obtain⟨x1,x2,x3⟩:=KC.out w5 HF5.out;have hs5:=HF5.out.size;clear hown5 hf5 hob5)
  |(refine fY (base:=wa.heap.size) EIG rfl (.tmp 119) (.tmp 126) rfl (by rfl) (by rfl) hs5 HO5.out (hLA2.out _ HF5.out) (by unfold maxLen;omega) (by omega) ?_;intro v7 w7 hown6 hf6 hob6;obtain⟨a7,c7,rfl,_,_⟩:=(SlC.ofOwn hown6 (λu hu=>by rcases List.mem_append.1 hu with q|q<;>exact dn _ u q)).shape;have HO7:=Hd hown6;have HF7:=Hd (HF5.out.trans hf6 (λi q=>.inr (ap HO5.out i q)));obtain⟨z1,z2,z3⟩:=KC.out w7 HF7.out;clear hown6 hf6 hob6))
 all_goals
  have RB7:=HRB.out.fr HF7.out (λq=>q);have t0:w7.cell? ⟨rb,0,none⟩=some (.int .i64 0):=RB7.cell (i:=0) (by omega);have t1:w7.cell? ⟨rb,1,none⟩=some (.int .u32 0):=RB7.cell (i:=1) (by omega);have t2:w7.cell? ⟨rb,2,none⟩=some (.int .u64 0):=RB7.cell (i:=2) (by omega);have g0:=RB7.frozen 0;have g1:=RB7.frozen 1;have g2:=RB7.frozen 2;have lr:=RB7.lt;have HRB7:=Hd RB7;have hne:¬rb=r:=by omega
  have hne2:¬r=rb:=by omega
  clear RB7;go_wp2;obtain⟨r1,r2⟩:=HH.out.cut hk HO7.out HF7.out;have RB:=HRB7.out.other (a:=⟨r,2,none⟩) hne (.slice a7 (k+(l.length-(k+1))) c7);have RS:=((RB.set 0 (.int .i64 0)).set 1 (.int .u32 0)).set 2 (.int .u64 0);have FS:=(((Fr.refl (λi=>i=rb) (w7.setCell ⟨r,2,none⟩ (.slice a7 (k+(l.length-(k+1))) c7))).setCell (p:=⟨rb,0,none⟩) (.inl rfl) (.int .i64 0)).setCell (p:=⟨rb,1,none⟩) (.inl rfl) (.int .u32 0)).setCell (p:=⟨rb,2,none⟩) (.inl rfl) (.int .u64 0);have hov:=ap HO7.out;have hw0:=HOB.out
  (try simp only[Exit.inBlock,Exit.then])
  refine bodyPost_ret (af Tryz.results14 _ _ RS rfl underlying44 rfl (by kernel_rfl)) rfl ?_;refine⟨rfl,⟨_,r1.fr FS (λi q e=>?_),λi q=>?_⟩,((HFA.out.mono (λ_ q=>q.elim)).trans r2 (λi q=>.inl q)).trans FS (λi q=>.inr (by omega))⟩
  .rcases q with q|q
   .omega
   .have:=hov i q;omega
  .rcases q with q|q
   .exact .inl (.inl q)
   .right;have:=hov i q;omega
end
end
section
open Go.Maps Go.Proofs.Tryz Go.RowKit
def nY:Nat->Option (Nat×Nat):=λ_=>none
theorem dj(room:Nat):bn room nY=belowB room:=by funext x;simp[bn,nY,belowB]
theorem Aq:pgM nY=λ_=>none:=by funext x;simp[pgM,nY]
theorem wJ(n room:Nat)(w:World)(h1:1<=n)(h2:n<=65535)(h3:1<=room)(h4:room<=65535):Calls prog 30 #[.int .i64 n,.int .i64 room] w λe w'=>∃b mb v h L,e=.returned (.tuple #[.pointer (some ⟨b,0,none⟩),.int .i64 0])/\
  MM w' b n room nY 0 0 mb v h L/\(∀k,MF b mb v h L k->w.heap.size<=k)/\Fr NoF w w':=by
 have g1:decide ((n:Int)<1)=false:=by simp;omega
 have g2:decide (65535<(n:Int))=false:=by simp;omega
 have g3:decide ((room:Int)<1)=false:=by simp;omega
 have g4:decide (65535<(room:Int))=false:=by simp;omega
 have HFU:Hid (∀W,Calls prog 38 #[.int .i64 room] W _):=λW=>lV room W h3 h4
 have hmm:=@run_makeMap prog;go_enter func30,ntmps30
 go_wp2_with fail
 refine(HFU.out _).mono ?_;clear HFU;rintro e w1⟨v,h,L,rfl,q1,q2,q3⟩;have Q1:=Hd q1;have Q2:=Hd q2;have Q3:=Hd q3;have hs:=q3.size;clear q1 q2 q3;go_wp2;go_returns;have hs':w.heap.size<w1.heap.size:=by simp at hs;omega
 have hmp:=MpV.made prog 42 .u32 fj w;refine⟨w1.heap.size,w.heap.size,v,h,L,rfl,⟨⟨Blk.new _ _ _ _ _ _ rfl rfl (λi hi=>?_),by omega,rfl,rfl,rfl,⟨by rw[dj];exact Q1.out.r.fr ((Fr.refl NoF _).alloc _) (λ_ _ q=>q),by rw[dj];exact Q1.out.dom⟩,λq=>by have:=Q1.out.r.lt _ q;omega⟩,?_,λid p q=>(by cases q),?_,⟨by omega,λq=>by have:=Q2.out _ q;simp at this;omega⟩,λid p q=>(by cases q),h2,Nat.le_refl _⟩,λk q=>?_,(((Fr.refl NoF w).alloc _).trans Q3.out (λ_ q=>.inl q)).alloc _⟩
 .match i,hi with
  |0,_=>rfl
  |1,_=>rfl
  |2,_=>rfl
  |3,_=>rw[dj];show some (Value.int .i64 (room:Int))=some (.int .i64 (cntB (belowB room) room:Nat));rw[bE room room (Nat.le_refl _)]
  |4,_=>rfl
  |5,_=>rfl
 .rw[Aq]
  exact(hmp.fr Q3.out (λq=>q)).alloc _
 .rw[dj,bE room room (Nat.le_refl _)];omega
 .rcases q with rfl|rfl|q
  .omega
  .exact Nat.le_refl _
  .have:=Q2.out _ q;simp at this;omega
section
variable{w w':World}{b n room pin len mb L:Nat}{pg:Nat->Option (Nat×Nat)}{v:Value}{h:Nat->Nat}
theorem MM.stable(H:MM w b n room pg pin len mb v h L){pg':Nat->Option (Nat×Nat)}{pin' len':Nat}:∀a c,MM a b n room pg' pin' len' mb v h L->Fr (λi=>w.heap.size<=i) a c->MM c b n room pg' pin' len' mb v h L:=
 λa c q f=>q.fr f (λk hk e=>by have:=H.lt k hk;omega)
theorem kE(hT:cJ w)(H:MM w b n room pg pin len mb v h L)(hf:pin=n)(id x:Int):Calls prog 31 #[.pointer (some ⟨b,0,none⟩),.agg #[.int .i64 0,.int .u32 id,.int .u64 x]] w λe w'=>e=.returned (.agg #[.int .i64 6,.int .u32 0,.int .u64 0])/\MM w' b n room pg pin len mb v h L/\Fr (MF b mb v h L) w w':=
 Fw (E:=6) (I:=0) (V:=0) H.lt H.stable (λW f=>(o5 (hT.fr0 f) (H.fr0 f) hf).mono λe w' q=>⟨q.1,(H.fr0 f).fr0 q.2,q.2.mono (λ_ q=>q.elim)⟩)
theorem s4(hT:cJ w)(H:MM w b n room pg pin len mb v h L)(hg:¬MF b mb v h L 0)(hf:¬pin=n){y:Nat}(hy:aJ (bn room pg) y)(id x:Int):Calls prog 31 #[.pointer (some ⟨b,0,none⟩),.agg #[.int .i64 0,.int .u32 id,.int .u64 x]] w λe w'=>e=.returned (.agg #[.int .i64 0,.int .u32 (y+1:Nat),.int .u64 0])/\MM w' b n room (aT pg (y+1) (some (0,1))) (pin+1) (len+1) mb v h L/\Fr (MF b mb v h L) w w':=
 Fw (E:=0) (I:=((y+1:Nat):Int)) (V:=0) H.lt H.stable (λW f=>wS (hT.fr0 f) (H.fr0 f) hg hf hy)
theorem zH(H:MM w b n room pg pin len mb v h L){id:Nat}(hid:hO id){x:Nat}(hx:okV x):Calls prog 31 #[.pointer (some ⟨b,0,none⟩),.agg #[.int .i64 4,.int .u32 id,.int .u64 x]] w λe w'=>e=.returned (.agg #[.int .i64 (heldE (pg id)),.int .u32 0,.int .u64 0])/\MM w' b n room (if heldE (pg id)=0 then aT pg id (some (x,heldY (pg id)))else pg) pin len mb v h L/\Fr (MF b mb v h L) w w':=
 Gg H.lt H.stable (λW f=>q9 (H.fr0 f) hid hx)
end
theorem xJ(k id x:Int)(w:World):Calls prog 13 #[.agg #[.int .i64 k,.int .u32 id,.int .u64 x]] w λe w'=>e=.returned (.agg #[.int .i64 k,.int .u32 id,.int .u64 x])/\Fr NoF w w':=by
 go_enter func13,ntmps13;go_wp2
 (try simp only[Exit.inBlock,Exit.then])
 refine bodyPost_ret (af Tryz.results13 _ _ (bb w _ _ _ _ _ _) rfl underlying50 rfl (by kernel_rfl)) rfl ?_;exact⟨rfl,((Fr.refl NoF w).alloc _).alloc _⟩
theorem rD(k id x:Int)(w:World):Calls prog 11 #[.agg #[.int .i64 k,.int .u32 id,.int .u64 x]] w λe w'=>e=.returned (.agg #[.int .i64 k,.int .u32 id,.int .u64 x])/\Fr NoF w w':=by
 go_enter func11,ntmps11;go_wp2
 (try simp only[Exit.inBlock,Exit.then])
 refine bodyPost_ret (af Tryz.results11 _ _ (bb w _ _ _ _ _ _) rfl underlying44 rfl (by kernel_rfl)) rfl ?_;exact⟨rfl,((Fr.refl NoF w).alloc _).alloc _⟩
theorem pC{w:World}(hT:cJ w):Calls prog 7 #[] w λe w'=>e=.returned (.bool true)/\Fr NoF w w':=by
 have HT:=Hd hT;have HBG:Hid (Calls prog 30 #[.int .i64 (1:Nat),.int .i64 (9:Nat)] w _):=wJ 1 9 w (by omega) (by omega) (by omega) (by omega);clear hT;go_enter func7,ntmps7
 go_wp2_with fail
 refine HBG.out.mono ?_;clear HBG;rintro e w1⟨b,mb,v,h,L,rfl,q1,q2,q3⟩;have HNEW:=Hd q2;have HNG:Hid (¬MF b mb v h L 0):=λq=>absurd (q2 _ q) (by have:=HT.out.lt;omega)
 have HT1:=Hd (HT.out.fr0 q3);have HF1:=Hd q3;have H1:=Hd (s4 (y:=0) HT1.out q1 HNG.out (by omega) ⟨by rw[dj];rfl,λy hy=>by omega⟩ 0 0);clear q1 q2 q3
 go_wp2_with fail
 refine H1.out.mono ?_;clear H1;rintro e w2⟨rfl,q1,q2⟩;have HF2:Hid (Fr NoF w w2):=HF1.out.trans q2 (λi q=>.inr (HNEW.out i q));have H2:=Hd (kE (HT1.out.fr q2 HNG.out) q1 rfl 0 0);clear q1 q2
 go_wp2_with fail
 refine H2.out.mono ?_;clear H2;rintro e w3⟨rfl,q1,q2⟩;have HF3:Hid (Fr NoF w w3):=HF2.out.trans q2 (λi q=>.inr (HNEW.out i q));have hlt3:=q1.lt;have HLT3:=Hd hlt3;have fA:Fr NoF w3 ((w3.alloc (.cells #[.int .i64 0,.int .u32 1,.int .u64 0] 47)).alloc (.cells #[.int .i64 6,.int .u32 0,.int .u64 0] 47)):=((Fr.refl NoF w3).alloc _).alloc _;have HW:=zH (q1.fr0 fA) (id:=1) (by unfold hO;decide) (x:=7) (by unfold okV;decide);have e1:heldE (aT nY (0+1) (some (0,1)) 1)=0:=rfl;have e2:heldY (aT nY (0+1) (some (0,1)) 1)=1:=rfl;rw[e1,if_pos rfl,e2]at HW;have HW:=Hd HW;have HFA:Hid (Fr NoF w ((w3.alloc (.cells #[.int .i64 0,.int .u32 1,.int .u64 0] 47)).alloc (.cells #[.int .i64 6,.int .u32 0,.int .u64 0] 47))):=HF3.out.trans fA (λ_ q=>.inl q);have HB1:=Hd ((bt w3 (.int .i64 0) (.int .u32 1) (.int .u64 0) (t:=47)).alloc (.cells #[.int .i64 6,.int .u32 0,.int .u64 0] 47));have HB2:=Hd (bb w3 (.int .i64 0) (.int .u32 1) (.int .u64 0) (.int .i64 6) (.int .u32 0) (.int .u64 0) (t:=47) (t':=47));clear q1 q2 hlt3 fA e1 e2
 go_wp2_with fail
 refine HW.out.mono ?_;clear HW;rintro e w4⟨rfl,q1,q2⟩;have HF4:Hid (Fr NoF w w4):=HFA.out.trans q2 (λi q=>.inr (HNEW.out i q));have HC1:=Hd (HB1.out.fr q2 (λq=>absurd (HLT3.out _ q) (by omega)));have HC2:=Hd (HB2.out.fr q2 (λq=>absurd (HLT3.out _ q) (by omega)));have f5:Fr NoF w4 (w4.alloc (.cells #[.int .i64 0,.int .u32 0,.int .u64 0] 47)):=(Fr.refl NoF w4).alloc _;have HV:=Hd (qm (q1.fr0 f5) (id:=1) (by unfold hO;decide));have HF5:=Hd (HF4.out.trans f5 (λ_ q=>.inl q));have HD1:=Hd (HC1.out.alloc (.cells #[.int .i64 0,.int .u32 0,.int .u64 0] 47));have HD2:=Hd (HC2.out.alloc (.cells #[.int .i64 0,.int .u32 0,.int .u64 0] 47));have HD3:=Hd (bt w4 (.int .i64 0) (.int .u32 0) (.int .u64 0) (t:=47));clear q1 q2 f5
 go_wp2_with fail
 refine HV.out.mono ?_;clear HV;rintro e w5⟨rfl,q⟩;have B1:=HD1.out.fr q (λq=>q);have B2:=HD2.out.fr q (λq=>q);have B3:=HD3.out.fr q (λq=>q);have a0:w5.cell? ⟨w3.heap.size,0,none⟩=some (.int .i64 0):=B1.cell (i:=0) (by omega);have a1:w5.cell? ⟨w3.heap.size,1,none⟩=some (.int .u32 1):=B1.cell (i:=1) (by omega);have b0:w5.cell? ⟨w3.heap.size+1,0,none⟩=some (.int .i64 6):=B2.cell (i:=0) (by omega);have c0:w5.cell? ⟨w4.heap.size,0,none⟩=some (.int .i64 0):=B3.cell (i:=0) (by omega);have l1:=B1.lt;have l2:=B2.lt;have l3:=B3.lt;have HF6:=Hd (HF5.out.trans q (λ_ q=>.inl q));clear q B1 B2 B3;have ev:(((aT (aT nY (0+1) (some (0,1))) 1 (some (7,1)) 1).map (·.1)).getD 0:Nat)=7:=rfl;have es:(aT (aT nY (0+1) (some (0,1))) 1 (some (7,1)) 1).isSome=true:=rfl;rw[ev,es];go_wp2;go_returns;exact⟨rfl,HF6.out⟩
end
end Go.Proofs.YtkjhnllcphidpaaGreatDoor
