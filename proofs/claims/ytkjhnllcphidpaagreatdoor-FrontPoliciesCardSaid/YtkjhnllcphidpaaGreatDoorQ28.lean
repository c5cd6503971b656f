/- Part 28. -/
import Derived.Test.YtkjhnllcphidpaaGreatDoorQ27
import Derived.Deep.RegionLaw
namespace Go.Proofs.YtkjhnllcphidpaaGreatDoor
set_option linter.all false
set_option maxHeartbeats 16000000
set_option maxRecDepth 100000
section
open Go.Proofs.Tryz Go.RowKit
theorem EIw:EI prog 111 191 1 24:=EI.mk' (z:=.slice none 0 0) underlying111 (by kernel_rfl) rfl (by decide)
def aU:Nat->Bool:=λ_=>false
theorem eQ(base:Nat):∀n,cA aU base n=0
 |0=>rfl
 |n+1=>by unfold cA;rw[eQ base n];simp[aU]
theorem pW:∀i,lev aU i=aU
 |0=>rfl
 |i+1=>by
  show up (lev aU i)=aU
  rw[pW i]
  funext x
  unfold up wordOf;rw[eQ];simp[aU]
def wd(bound:Nat):Nat->Nat
 |0=>bound
 |k+1=>szs bound k
theorem Cq(bound k:Nat):szs bound k=(wd bound k+63)/64:=by cases k<;>rfl
theorem Gb{bound:Nat}(hb:bound<=65535){k:Nat}(h:k=0\/2<=wd bound k):k<=2:=by
 rcases h with rfl|h
 .omega
 .match k,h with
  |0,_=>omega
  |1,_=>omega
  |2,_=>omega
  |k+3,h=>
   exfalso
   have:∀k,szs bound (k+2)<=1:=by
    intro k
    induction k with
    |zero=>exact CN hb
    |succ k ih=>show(szs bound (k+2)+63)/64<=1;omega
   have:=this k;have h':2<=szs bound (k+2):=h;omega
structure LE(w:World)(bound:Nat)(v:Value)(h:Nat->Nat)(k base:Nat):Prop where
 row:SlF w 191 1 v k (rV h bound)
 lv:∀i,i<k->Blk w (h i) (szs bound i) (wC aU)
 inj:∀i j,i<k->j<k->h i=h j->i=j
 apart:∀i,i<k->¬v.ownBlock=some (h i)
 new:∀i,LF v h k i->base<=i
section
variable{w w':World}{bound k base:Nat}{v:Value}{h:Nat->Nat}
theorem LE.fr(H:LE w bound v h k base){G:Nat->Prop}(f:Fr G w w')(hG:∀i,LF v h k i->¬G i):LE w' bound v h k base:=
 ⟨H.row.fr f (λb q=>hG b (.inl q)),λi hi=>(H.lv i hi).fr f (hG _ (.inr ⟨i,hi,rfl⟩)),H.inj,H.apart,H.new⟩
theorem LE.lt(H:LE w bound v h k base):∀i,LF v h k i->i<w.heap.size:=by
 rintro i(q|⟨j,hj,rfl⟩)
 .exact H.row.lt i q
 .exact(H.lv j hj).lt
theorem LE.first(w:World)(bound base:Nat):LE w bound (.slice none 0 0) (λ_=>0) 0 base:=
 ⟨SlF.nil _ _ _ _,λi hi=>by omega,λi j hi=>by omega,λi hi=>by omega,λi q=>by rcases q with q|⟨j,hj,_⟩;cases q;omega⟩
theorem yD{h h':Nat->Nat}{k:Nat}(e:∀i,i<k->h i=h' i):(List.range (k*1)).map (rV h bound)=(List.range (k*1)).map (rV h' bound):=by
 apply List.map_congr_left;intro i hi;have:=List.mem_range.1 hi;unfold rV;rw[e i (by omega)]
theorem LE.snoc(H:LE w bound v h k base)(hb:base<=w.heap.size){w1 w2:World}{v':Value}(hz:Blk w1 w.heap.size (szs bound k) (wC aU))(f1:Fr NoF w w1)(hl:w.heap.size<w1.heap.size)
  (ho:w2.ownsRow 0 191 1 v' (k+1) ((List.range (k*1)).map (rV h bound)++[.slice (some ⟨w.heap.size,0,none⟩) (szs bound k) (szs bound k)]))(f2:Fr (λb=>v.ownBlock=some b) w1 w2)(ho2:∀b,v'.ownBlock=some b->v.ownBlock=some b\/w1.heap.size<=b):
  LE w2 bound v' (λi=>if i=k then w.heap.size else h i) (k+1) base/\(∀i,LF v' (λi=>if i=k then w.heap.size else h i) (k+1) i->LF v h k i\/w.heap.size<=i):=by
 have hlt:=H.lt
 have hn:∀i,LF v' (λi=>if i=k then w.heap.size else h i) (k+1) i->LF v h k i\/w.heap.size<=i:=by
  rintro i(q|⟨j,hj,rfl⟩)
  .rcases ho2 i q with q|q
   .exact .inl (.inl q)
   .right;omega
  .by_cases e:j=k
   .right;show w.heap.size<=(if j=k then w.heap.size else h j);rw[if_pos e];exact Nat.le_refl _
   .left;show LF v h k (if j=k then w.heap.size else h j);rw[if_neg e];exact .inr ⟨j,by omega,rfl⟩
 refine⟨⟨?_,λi hi=>?_,λi j hi hj e=>?_,λi hi q=>?_,λi q=>?_⟩,hn⟩
 .have e:=yD (bound:=bound) (h:=h) (h':=λi=>if i=k then w.heap.size else h i) (k:=k) (λi hi=>by rw[if_neg (by omega)])
  rw[e]at ho;refine(SlF.snoc1 ho).congr (λi hi=>?_);by_cases e:i=k
  .subst e;rw[upd_same];unfold rV;simp only[if_true]
  .rw[ab _ _ e]
 .by_cases e:i=k
  .subst e
   rw[if_pos rfl];exact hz.fr f2 (λq=>by have:=hlt _ (.inl q);omega)
  .rw[if_neg e]
   exact((H.lv i (by omega)).fr f1 id).fr f2 (λq=>H.apart i (by omega) q)
 .by_cases e1:i=k
  .by_cases e2:j=k
   .rw[e1,e2]
   .rw[if_pos e1,if_neg e2]at e
    have:=hlt _ (.inr ⟨j,by omega,rfl⟩);omega
  .by_cases e2:j=k
   .rw[if_neg e1,if_pos e2]at e
    have:=hlt _ (.inr ⟨i,by omega,rfl⟩);omega
   .rw[if_neg e1,if_neg e2]at e
    exact H.inj i j (by omega) (by omega) e
 .by_cases e1:i=k
  .rw[if_pos e1]at q
   rcases ho2 _ q with q|q
   .have:=hlt _ (.inl q);omega
   .omega
  .rw[if_neg e1]at q
   rcases ho2 _ q with q|q
   .exact H.apart i (by omega) q
   .have:=hlt _ (.inr ⟨i,by omega,rfl⟩);omega
 .rcases hn i q with q|q
  .exact H.new i q
  .omega
theorem LE.ls(H:LE w bound v h (k+1) base)(h0:1<=bound)(h1:bound<=65535)(hk:k<=2)(ht:szs bound k=1):LS w bound aU v h (k+1):=
 ⟨⟨h0,h1,H.row,λi hi=>by rw[pW];exact H.lv i hi,H.inj,H.apart,by omega,ht,by omega⟩,λx q=>by cases q⟩
end
theorem zT(w:World)(N:Nat):Blk (w.alloc (.cells (madeCells #[.int .u64 0] N) 25)) w.heap.size N (wC aU):=
 Blk.new _ _ _ _ _ _ rfl (by simp[madeCells]) (λi hi=>by rw[dI hi];unfold wC wordOf;rw[eQ];simp[Nat.mod_one])
def uh(bound:Nat)(v:Value):Nat->Value
 |0=>.int .i64 bound
 |1=>.int .i64 0
 |_=>v
theorem A4(bound:Nat)(v v':Value)(i:Nat)(hi:i<3):upd (uh bound v) 2 v' i=uh bound v' i:=by
 match i,hi with
 |0,_=>rfl
 |1,_=>rfl
 |2,_=>rfl
theorem au{P:Program}{fn:Func}{p:Tmp}{ty:TypeId}(h:fn.results=#[.cell p ty])(tmps:Array Value)(w:World){g N:Nat}{c:Nat->Value}{d:TypeDesc}(hb:Blk w g N c)(hp:tmps.getD p undef=.pointer (some ⟨g,0,none⟩))
  (hu:P.underlying ty=some d)(hd:(match d with|.struct _|.array _ _=>true|_=>false)=true)(hi:(P.info? ty).map (·.size)=some N):
  (results fn tmps).run P w=.ok (.agg ((List.range N).map c).toArray) w:=by
 obtain⟨cs,t,hh,hs,hc⟩:=hb
 have e:cs=((List.range N).map c).toArray:=by
  apply Array.ext_getElem?;intro i;by_cases hi:i<N
  .rw[hc i hi];simp[hi]
  .rw[Array.getElem?_eq_none (by omega)];simp[hi]
 rw[<-e];exact results_cell_row h tmps w g t cs (0,0) d hp hh hu hd (by rw[hi,hs])
theorem j5(bound:Nat)(w:World)(hb0:1<=bound)(hb:bound<=65535):Calls prog 39 #[.int .i64 bound] w λe w'=>∃v h L,e=.returned (.agg #[.int .i64 bound,.int .i64 0,v])/\LS w' bound aU v h L/\(∀k,LF v h L k->w.heap.size<=k)/\Fr NoF w w':=by
 obtain⟨i0,hi0,hz0,hz1,hz2⟩:=bN (P:=prog) (e:=25) (z:=.int .u64 0) (s:=1) (b:=8) (by kernel_rfl)
 have mk1:∀(n:Nat) (w:World),n<=1024->(Instr.makeSlice 191 (.int .i64 (n:Int)) (.int .i64 (n:Int))).run prog w=
   .ok (.slice (some ⟨w.heap.size,0,none⟩) n n) (w.alloc (.cells (madeCells #[.int .u64 0] n) 25)):=by
  intro n w hn;have:=run_make (P:=prog) w 191 25 i0 _ underlying191 hi0 hz0 .i64 .i64 (n:Int) (n:Int) (by omega) (Int.le_refl _) (by rw[hz2];omega) (by omega);rw[show((n:Int)).toNat=n from by omega,hz1,Nat.mul_one]at this;exact this
 have HMK:=Hd mk1;clear hi0 hz0 hz1 hz2 mk1;go_enter func39,ntmps39;go_wp2;have hszA:((w.alloc (.cells #[.int .i64 0,.int .i64 0,.slice none 0 0] 113)).alloc (.cells #[.int .i64 bound,.int .i64 0,.slice none 0 0] 113)).heap.size=w.heap.size+2:=by simp
 have HA:Hid (Fr NoF w ((w.alloc (.cells #[.int .i64 0,.int .i64 0,.slice none 0 0] 113)).alloc (.cells #[.int .i64 bound,.int .i64 0,.slice none 0 0] 113))):=((Fr.refl NoF w).alloc _).alloc _
 have HRB:Hid (Blk ((w.alloc (.cells #[.int .i64 0,.int .i64 0,.slice none 0 0] 113)).alloc (.cells #[.int .i64 bound,.int .i64 0,.slice none 0 0] 113)) w.heap.size 3 (uh 0 (.slice none 0 0))):=(Blk.new _ _ _ _ _ _ rfl rfl (λi hi=>by
  match i,hi with
  |0,_=>rfl
  |1,_=>rfl
  |2,_=>rfl)).alloc _
 have HSB:Hid (Blk ((w.alloc (.cells #[.int .i64 0,.int .i64 0,.slice none 0 0] 113)).alloc (.cells #[.int .i64 bound,.int .i64 0,.slice none 0 0] 113)) (w.heap.size+1) 3 (uh bound (.slice none 0 0))):=Blk.new _ _ _ _ _ _ (by simp) rfl (λi hi=>by
  match i,hi with
  |0,_=>rfl
  |1,_=>rfl
  |2,_=>rfl)
 generalize((w.alloc (.cells #[.int .i64 0,.int .i64 0,.slice none 0 0] 113)).alloc (.cells #[.int .i64 bound,.int .i64 0,.slice none 0 0] 113))=wA at*;have hsbA:w.heap.size+1<wA.heap.size:=by omega
 have hsbB:w.heap.size<w.heap.size+1:=by omega
 generalize w.heap.size+1=sb at*
 go_loopw [4] (λxv wr=>∃k v h,xv=.int .i64 (wd bound k:Nat)/\(k=0\/2<=wd bound k)/\Hid (LE wr bound v h k wA.heap.size)/\Hid (Blk wr (sb) 3 (uh bound v))/\Hid (Fr (λi=>i=sb) wA wr)) (λxv _=>(intOf xv).toNat)
 case atStart=>exact⟨0,_,_,rfl,.inl rfl,LE.first _ _ _,HSB.out,Fr.refl _ _⟩
 case round=>
  obtain⟨k,v,h,rfl,hk,HE,HB,HF⟩:=hrel;have hk2:=Gb hb hk;have hwn:=Cq bound k;have hszk:=pB hb k;have hpos:1<=wd bound k:=by rcases hk with rfl|q;exact hb0;omega
  have hwle:wd bound k<=65535:=by
   cases k with
   |zero=>exact hb
   |succ k=>have:=pB hb k;show szs bound k<=65535;omega
  have hszr:=HF.out.size;have HRW:=Hd HE.out.row;obtain⟨va,vc,rfl,_,_⟩:=HE.out.row.shape;have s2:wr.cell? ⟨sb,2,none⟩=some (.slice va k vc):=HB.out.cell (i:=2) (by omega);have sl:=HB.out.lt;have sf:=HB.out.frozen 2;have sl2:sb<wr.heap.size+1:=by omega
  have sl3:sb<wr.heap.size+1+1:=by omega
  have K:Hid (∀W v' w2,Fr NoF wr W->Blk W wr.heap.size (szs bound k) (wC aU)->wr.heap.size<W.heap.size->w2.ownsRow 0 191 1 v' (k+1) ((List.range (k*1)).map (rV h bound)++[.slice (some ⟨wr.heap.size,0,none⟩) (szs bound k) (szs bound k)])->Fr (λb=>(Value.slice va k vc).ownBlock=some b) W w2->(∀b,v'.ownBlock=some b->(Value.slice va k vc).ownBlock=some b\/W.heap.size<=b)->
    ∃va' vc',v'=.slice va' (k+1) vc'/\w2.cell? ⟨sb,2,none⟩=some (.slice va k vc)/\w2.frozen? ⟨sb,2,none⟩=false/\sb<w2.heap.size/\
    Hid (∃h',LE (w2.setCell ⟨sb,2,none⟩ v') bound v' h' (k+1) wA.heap.size/\Blk (w2.setCell ⟨sb,2,none⟩ v') (sb) 3 (uh bound v')/\Fr (λi=>i=sb) wA (w2.setCell ⟨sb,2,none⟩ v'))):=by
   intro W v' w2 f1 hz hl ho f2 ho2;obtain⟨q1,q2⟩:=HE.out.snoc hszr hz f1 hl ho f2 ho2;obtain⟨va',vc',e,_,_⟩:=q1.row.shape;have hnv:∀b,(Value.slice va k vc).ownBlock=some b->¬b=sb:=λb q e=>by have:=HE.out.new b (.inl q);omega
   have B2:=(HB.out.fr f1 id).fr f2 (λq=>hnv _ q rfl);have c2:=B2.cell (i:=2) (by omega);have F2:Fr (λi=>i=sb) wA w2:=HF.out.trans (G:=λb=>(Value.slice va k vc).ownBlock=some b) ((f1.mono (λ_ q=>q.elim)).trans f2 (λi q=>.inl q)) (λi q=>.inr (HE.out.new i (.inl q)));refine⟨va',vc',e,c2,B2.frozen 2,B2.lt,_,q1.fr ((Fr.refl (λi=>i=sb) w2).setCell (p:=⟨sb,2,none⟩) (.inl rfl) _) (λi q e=>by have:=q1.new i q;omega),(B2.set 2 v').congr (λi hi=>A4 _ _ _ i hi),F2.setCell (p:=⟨sb,2,none⟩) (.inl rfl) _⟩
  clear HE HF;have hw1:IntKind.i64.wrap ((wd bound k:Nat)+64:Int)=(wd bound k:Nat)+64:=IntWalk.i64_in _ (by omega);have hw2:IntKind.i64.wrap ((wd bound k:Nat)+64-1:Int)=(wd bound k:Nat)+64-1:=IntWalk.i64_in _ (by omega);have hw3:((wd bound k:Nat)+64-1:Int)/64=(szs bound k:Nat):=by omega
  have mk:∀w,(Instr.makeSlice 191 (.int .i64 (((wd bound k:Nat)+64-1:Int)/64)) (.int .i64 (((wd bound k:Nat)+64-1:Int)/64))).run prog w=.ok (.slice (some ⟨w.heap.size,0,none⟩) (szs bound k) (szs bound k)) (w.alloc (.cells (madeCells #[.int .u64 0] (szs bound k)) 25)):=λw=>by rw[hw3];exact HMK.out (szs bound k) w hszk
  have HW3:=Hd hw3;have HWK:Hid (wd bound (k+1)=szs bound k):=rfl;have HT:Hid (szs bound k=1->∀w' v' h',LE w' bound v' h' (k+1) wA.heap.size->LS w' bound aU v' h' (k+1)):=λq w' v' h' hle=>hle.ls hb0 hb hk2 q
  clear hwn hw3;generalize wd bound k=wk at*;go_wp2
  go_region_law(first
   |(refine nG (base:=0) EIw rfl (.tmp 15) (.tmp 18) rfl (by rfl) (by rfl) (Nat.zero_le _) (am HRW.out (by repeat(first|exact Fr.refl NoF _|apply Fr.drew|apply Fr.alloc)) (λ_ _ q=>q)) (iY (size:=1) (n:=1) (cs:=#[.slice (some ⟨wr.heap.size,0,none⟩) (szs bound k) (szs bound k)]) (by(try rw[heap_drew]);refine heap_alloc_new _ _ _ ?_;simp) (by rfl) (by unfold maxLen;omega) (by simp[Value.oneCell'])) (by unfold maxLen;omega) (by omega) ?_;intro v' w2 hown' hf' hob';obtain⟨va',vc',rfl,c2,f2,l2,HR⟩:=K.out _ v' w2 (by repeat(first|exact Fr.refl NoF _|apply Fr.drew|apply Fr.alloc)) (by repeat(first|exact zT _ _|apply Blk.drew|apply Blk.alloc)) (by simp<;>omega) hown' hf' hob';clear hown' hf' hob'))
  all_goals
   obtain⟨h',HE2,HB2,HF2⟩:=HR.out;have HE2:=Hd HE2;have HB2:=Hd HB2;have HF2:=Hd HF2;clear HR c2 f2 l2;generalize w2.setCell ⟨sb,2,none⟩ (.slice va' (k+1) vc')=w3 at*;by_cases h1:szs bound k=1
   .have HLS:=Hd (HT.out h1 _ _ _ HE2.out)
    have hz:(((wk:Int)+64-1)/64==1)=true:=by rw[HW3.out,h1];rfl
    have s0:w3.cell? ⟨sb,0,none⟩=some (.int .i64 bound):=HB2.out.cell (i:=0) (by omega);have s1:w3.cell? ⟨sb,1,none⟩=some (.int .i64 0):=HB2.out.cell (i:=1) (by omega);have s2':w3.cell? ⟨sb,2,none⟩=some (.slice va' (k+1) vc'):=HB2.out.cell (i:=2) (by omega);have ls:=HB2.out.lt;have RB:=HRB.out.fr HF2.out (λe=>by omega);have HRB3:=Hd RB;have t0:w3.cell? ⟨w.heap.size,0,none⟩=some (.int .i64 0):=RB.cell (i:=0) (by omega);have t1:w3.cell? ⟨w.heap.size,1,none⟩=some (.int .i64 0):=RB.cell (i:=1) (by omega);have t2:w3.cell? ⟨w.heap.size,2,none⟩=some (.slice none 0 0):=RB.cell (i:=2) (by omega);have g0:=RB.frozen 0;have g1:=RB.frozen 1;have g2:=RB.frozen 2;have lr:=RB.lt;have hne:¬w.heap.size=sb:=by omega
    clear RB h1;have HRS:Hid (Blk (((w3.setCell ⟨w.heap.size,0,none⟩ (.int .i64 bound)).setCell ⟨w.heap.size,1,none⟩ (.int .i64 0)).setCell ⟨w.heap.size,2,none⟩ (.slice va' (k+1) vc')) w.heap.size 3 (upd (upd (upd (uh 0 (.slice none 0 0)) 0 (.int .i64 bound)) 1 (.int .i64 0)) 2 (.slice va' (k+1) vc'))):=((HRB3.out.set 0 _).set 1 _).set 2 _;have F3:Fr (λi=>i=w.heap.size) w3 (((w3.setCell ⟨w.heap.size,0,none⟩ (.int .i64 bound)).setCell ⟨w.heap.size,1,none⟩ (.int .i64 0)).setCell ⟨w.heap.size,2,none⟩ (.slice va' (k+1) vc')):=(((Fr.refl (λi=>i=w.heap.size) w3).setCell (p:=⟨w.heap.size,0,none⟩) (.inl rfl) _).setCell (p:=⟨w.heap.size,1,none⟩) (.inl rfl) _).setCell (p:=⟨w.heap.size,2,none⟩) (.inl rfl) _;have HF3:=Hd F3;clear F3;go_wp2
    (try simp only[Exit.inBlock,Exit.then])
    refine bodyPost_ret (au Tryz.results39 _ _ HRS.out rfl underlying113 rfl (by kernel_rfl)) rfl ?_;have hA:=HA.out.size;refine⟨.slice va' (k+1) vc',h',k+1,rfl,⟨HLS.out.r.fr HF3.out (λi q e=>by have:=HE2.out.new i q;omega),HLS.out.dom⟩,λi q=>by have:=HE2.out.new i q;omega,(HA.out.trans (G:=λi=>i=sb) HF2.out (λi q=>.inr (by omega))).trans (G:=λi=>i=w.heap.size) HF3.out (λi q=>.inr (by omega))⟩
   .have hz:(((wk:Int)+64-1)/64==1)=false:=by
     have:=HW3.out;simp;omega
    have hpos2:=vh hb0 k;have hlt:szs bound k<wk:=by have:=HW3.out;omega
    have hge:2<=szs bound k:=by omega
    go_wp2
    go_roundw
    case rel=>exact⟨k+1,_,h',by rw[HWK.out,<-HW3.out],.inr (by rw[HWK.out];exact hge),HE2.out,HB2.out,HF2.out⟩
    case measure=>simp[intOf]<;>omega
def belowB(k:Nat):Nat->Bool:=λy=>decide (y<k)
theorem qG:belowB 0=aU:=by funext y;simp[belowB,aU]
theorem ye(k:Nat):belowB k k=false:=by simp[belowB]
theorem uf(k:Nat):ao (belowB k) k true=belowB (k+1):=by
 funext y
 by_cases e:y=k
 .subst e;rw[aN];simp[belowB]
 .rw[az _ _ e];unfold belowB
  by_cases q:y<k
  .simp[q,Nat.lt_succ_of_lt q]
  .have:¬y<k+1:=by omega
   simp[q,this]
theorem du(k:Nat):∀n,k<=n->cntB (belowB k) n=k
 |0,h=>by obtain rfl:k=0:=by omega
          rfl
 |n+1,h=>by
  unfold cntB;by_cases e:k=n+1
  .have e2:cntB (belowB k) n=n:=by
    rw[eX (T:=belowB n) n (λx hx=>by unfold belowB;simp[hx];omega)];exact du n n (Nat.le_refl _)
   rw[e2];subst e;simp[belowB]
  .rw[du k n (by omega)]
   have:¬n<k:=by omega
   simp[belowB,this]
def uw(bound:Nat)(n:Int)(v:Value):Nat->Value
 |0=>.int .i64 bound
 |1=>.int .i64 n
 |_=>v
section
variable{w w':World}{b off N bound L:Nat}{c:Nat->Value}{S:Nat->Bool}{v:Value}{h:Nat->Nat}
theorem LC.congr(H:LC w b off N c bound S v h L){c':Nat->Value}(e:∀i,i<N->c i=c' i):LC w b off N c' bound S v h L:=
 ⟨H.blk.congr e,H.inb,by rw[<-e _ (by have:=H.inb;omega)];exact H.c0,by rw[<-e _ (by have:=H.inb;omega)];exact H.c1,by rw[<-e _ (by have:=H.inb;omega)];exact H.c2,H.ls,H.nb⟩
theorem Ac(bound:Nat)(n m:Int)(v:Value)(i:Nat)(hi:i<3):upd (uw bound n v) (0+1) (.int .i64 m) i=uw bound m v i:=by
 match i,hi with
 |0,_=>rfl
 |1,_=>rfl
 |2,_=>rfl
end
theorem sH(bound:Nat)(w:World)(hb0:1<=bound)(hb:bound<=65535):Calls prog 38 #[.int .i64 bound] w λe w'=>∃v h L,e=.returned (.agg #[.int .i64 bound,.int .i64 bound,v])/\LS w' bound (belowB bound) v h L/\(∀k,LF v h L k->w.heap.size<=k)/\Fr NoF w w':=by
 have HE:Hid (∀W,Calls prog 39 #[.int .i64 bound] W _):=λW=>j5 bound W hb0 hb
 go_enter func38,ntmps38
 go_wp2_with fail
 refine(HE.out _).mono ?_;clear HE;rintro e w1⟨v,h,L,rfl,hls,hnew,hf⟩;obtain⟨g,cap,rfl,g1,g2⟩:=hls.r.shape;have hfs:=hf.size;simp only[World.size_alloc]at hfs
 have B0:Blk w1 w.heap.size 3 (uw 0 0 (.slice none 0 0)):=(Blk.new _ _ _ _ _ _ rfl rfl (λi hi=>by
  match i,hi with
  |0,_=>rfl
  |1,_=>rfl
  |2,_=>rfl)).fr hf id
 have F1:Fr NoF w w1:=((Fr.refl NoF w).alloc _).trans hf (λ_ q=>.inl q)
 have HLA:Hid (LC (w1.alloc (.cells #[.int .i64 bound,.int .i64 0,.slice (some ⟨g,0,none⟩) L cap] 113)) w1.heap.size 0 3 (uw bound 0 (.slice (some ⟨g,0,none⟩) L cap)) bound (belowB 0) (.slice (some ⟨g,0,none⟩) L cap) h L):=by
  refine⟨Blk.new _ _ _ _ _ _ rfl rfl (λi hi=>by
   match i,hi with
   |0,_=>rfl
   |1,_=>rfl
   |2,_=>rfl),by omega,rfl,by rw[du 0 bound (by omega)];rfl,rfl,⟨?_,λx q=>by simp[belowB]at q⟩,λq=>by have:=hls.r.lt _ q;omega⟩
  rw[qG];exact hls.r.fr ((Fr.refl NoF w1).alloc _) (λ_ _ q=>q)
 have HB0:=Hd (B0.alloc (.cells #[.int .i64 bound,.int .i64 0,.slice (some ⟨g,0,none⟩) L cap] 113));have HF1:=Hd (F1.alloc (.cells #[.int .i64 bound,.int .i64 0,.slice (some ⟨g,0,none⟩) L cap] 113));have HNEW:=Hd (λk q=>(show w.heap.size+1<=k from by have:=hnew k q;simpa using this));clear hls hnew hf B0 F1;go_wp2;have hsb:w.heap.size<w1.heap.size:=by omega
 generalize w1.alloc (.cells #[.int .i64 bound,.int .i64 0,.slice (some ⟨g,0,none⟩) L cap] 113)=wA at*;generalize w1.heap.size=sb at*
 go_loopw [8] (λxv wr=>∃k:Nat,k<=bound/\xv=.int .i64 k/\Hid (LC wr sb 0 3 (uw bound k (.slice (some ⟨g,0,none⟩) L cap)) bound (belowB k) (.slice (some ⟨g,0,none⟩) L cap) h L)/\Hid (Fr (SF sb (.slice (some ⟨g,0,none⟩) L cap) h L) wA wr)) (λxv _=>bound-(intOf xv).toNat)
 case atStart=>exact⟨0,Nat.zero_le _,rfl,HLA.out,Fr.refl _ _⟩
 case round=>
  obtain⟨k,hk,rfl,HL,HF⟩:=hrel;by_cases hlt:k<bound
  .have HADD:=Hd (sC HL.out hlt (ye k))
   clear HL
   go_wp2_with fail
   refine HADD.out.mono ?_;clear HADD;rintro e w2⟨rfl,h1,h2⟩
   have HL2:Hid (LC w2 sb 0 3 (uw bound (k+1:Nat) (.slice (some ⟨g,0,none⟩) L cap)) bound (belowB (k+1)) (.slice (some ⟨g,0,none⟩) L cap) h L):=by
    rw[du k bound hk,uf]at h1;exact h1.congr (λi hi=>Ac _ _ _ _ i hi)
   have HF2:=Hd (HF.out.trans h2 (λ_ q=>.inl q));clear h1 h2 HF;go_wp2
   go_roundw
   case rel=>exact⟨k+1,by omega,by go_num,HL2.out,HF2.out⟩
   case measure=>simp[intOf]<;>omega
  .obtain rfl:k=bound:=by omega
   have RB:=HB0.out.fr HF.out (λq=>by rcases q with q|q;omega;have:=HNEW.out _ q;omega);have HRB:=Hd RB;have s0:wr.cell? ⟨sb,0,none⟩=some (.int .i64 k):=HL.out.blk.cell (i:=0) (by omega);have s1:wr.cell? ⟨sb,1,none⟩=some (.int .i64 k):=HL.out.blk.cell (i:=1) (by omega);have s2:wr.cell? ⟨sb,2,none⟩=some (.slice (some ⟨g,0,none⟩) L cap):=HL.out.blk.cell (i:=2) (by omega);have ls:=HL.out.blk.lt;have t0:wr.cell? ⟨w.heap.size,0,none⟩=some (.int .i64 0):=RB.cell (i:=0) (by omega);have t1:wr.cell? ⟨w.heap.size,1,none⟩=some (.int .i64 0):=RB.cell (i:=1) (by omega);have t2:wr.cell? ⟨w.heap.size,2,none⟩=some (.slice none 0 0):=RB.cell (i:=2) (by omega);have g0:=RB.frozen 0;have g1':=RB.frozen 1;have g2':=RB.frozen 2;have lr:=RB.lt;have hne:¬w.heap.size=sb:=by omega
   clear RB hlt;have HRS:Hid (Blk (((wr.setCell ⟨w.heap.size,0,none⟩ (.int .i64 k)).setCell ⟨w.heap.size,1,none⟩ (.int .i64 k)).setCell ⟨w.heap.size,2,none⟩ (.slice (some ⟨g,0,none⟩) L cap)) w.heap.size 3 (upd (upd (upd (uw 0 0 (.slice none 0 0)) 0 (.int .i64 k)) 1 (.int .i64 k)) 2 (.slice (some ⟨g,0,none⟩) L cap))):=((HRB.out.set 0 _).set 1 _).set 2 _;have F3:Fr (λi=>i=w.heap.size) wr (((wr.setCell ⟨w.heap.size,0,none⟩ (.int .i64 k)).setCell ⟨w.heap.size,1,none⟩ (.int .i64 k)).setCell ⟨w.heap.size,2,none⟩ (.slice (some ⟨g,0,none⟩) L cap)):=(((Fr.refl (λi=>i=w.heap.size) wr).setCell (p:=⟨w.heap.size,0,none⟩) (.inl rfl) _).setCell (p:=⟨w.heap.size,1,none⟩) (.inl rfl) _).setCell (p:=⟨w.heap.size,2,none⟩) (.inl rfl) _;have HF3:=Hd F3;clear F3;go_wp2
   (try simp only[Exit.inBlock,Exit.then])
   refine bodyPost_ret (au Tryz.results38 _ _ HRS.out rfl underlying113 rfl (by kernel_rfl)) rfl ?_;refine⟨.slice (some ⟨g,0,none⟩) L cap,h,L,rfl,⟨HL.out.ls.r.fr HF3.out (λi q e=>by have:=HNEW.out i q;omega),HL.out.ls.dom⟩,λi q=>by have:=HNEW.out i q;omega,((HF1.out.trans (G:=SF sb (.slice (some ⟨g,0,none⟩) L cap) h L) HF.out (λi q=>.inr (by rcases q with q|q;omega;have:=HNEW.out i q;omega))).trans (G:=λi=>i=w.heap.size) HF3.out (λi q=>.inr (by omega)))⟩
theorem nT(w:World):CallsD prog 110 #[] .returning w λe u' w'=>e=.returned (.tuple #[])/\u'=.returning/\w'=w:=by
 refine callsD_of_wpS func110 rfl λc₀ cs hu=>?_
 apply wpS_region;simp[wpOpsS,go_sem,recoverD,hu,ntmps110,Exit.thenS]
 cases c₀
 simp_all [bodyPostS,results,Tryz.results110,Exit.thenS,go_sem]
theorem lX(w:World):CallsD prog 132 #[] .returning w λe u' w'=>e=.returned (.tuple #[])/\u'=.returning/\w'=w:=by
 refine callsD_of_wpS func132 rfl λc₀ cs hu=>?_
 apply wpS_region;simp[wpOpsS,go_sem,recoverD,hu,ntmps132,Exit.thenS]
 cases c₀
 simp_all [bodyPostS,results,Tryz.results132,Exit.thenS,go_sem]
def Own(g:FuncId):Prop:=∀(args:Array Value) (w:World),(callFunc g args).run prog w=.ok (.enter g args) w
section
variable{w:World}{pb:Nat}{g:FuncId}{rv:Value}
theorem zS{c1:Value}{Q:World->Prop}(ho:Own g)(hr:w.cell? ⟨pb,1,none⟩=some rv)(hlt:pb<w.heap.size)(hc:Calls prog g #[rv,c1] w λe w'=>e=.returned (.tuple #[])/\Q w'):
  Calls prog 84 #[.pointer (some ⟨pb,0,none⟩),.func (.func g) #[] #[c1]] w λe w'=>e=.returned (.tuple #[])/\Q w':=by
 have HC:=Hd hc;have HO:=Hd ho;clear hc ho
 go_enter_defers func84,ntmps84
 go_wp2_with fail
 rw[HO.out,Oper.upon_enter];refine HC.out.mono ?_;rintro e w1⟨rfl,hq⟩;have HQ:=Hd hq;clear hq;go_wp2;refine leaves_cons (f:=110) (args:=#[]) (by simp) (by simp[go_sem]) ?_;refine(nT _).mono ?_;rintro e u' w''⟨rfl,rfl,rfl⟩;simp[Leaves,settle,results,Tryz.results84,go_sem];exact HQ.out
theorem BP{c1 c2:Value}{Q:World->Prop}(ho:Own g)(hr:w.cell? ⟨pb,1,none⟩=some rv)(hlt:pb<w.heap.size)(hc:Calls prog g #[rv,c1,c2] w λe w'=>e=.returned (.tuple #[])/\Q w'):
  Calls prog 84 #[.pointer (some ⟨pb,0,none⟩),.func (.func g) #[] #[c1,c2]] w λe w'=>e=.returned (.tuple #[])/\Q w':=by
 have HC:=Hd hc;have HO:=Hd ho;clear hc ho
 go_enter_defers func84,ntmps84
 go_wp2_with fail
 rw[HO.out,Oper.upon_enter];refine HC.out.mono ?_;rintro e w1⟨rfl,hq⟩;have HQ:=Hd hq;clear hq;go_wp2;refine leaves_cons (f:=110) (args:=#[]) (by simp) (by simp[go_sem]) ?_;refine(nT _).mono ?_;rintro e u' w''⟨rfl,rfl,rfl⟩;simp[Leaves,settle,results,Tryz.results84,go_sem];exact HQ.out
end
end
end Go.Proofs.YtkjhnllcphidpaaGreatDoor
