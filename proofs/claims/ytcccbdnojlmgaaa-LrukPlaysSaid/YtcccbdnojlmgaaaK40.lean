/- Part 40. -/
import Derived.Test.YtcccbdnojlmgaaaK39
namespace Go.Proofs.Ytcccbdnojlmgaaa
set_option linter.all false
set_option maxHeartbeats 16000000
set_option maxRecDepth 100000
section
open Go.RowKit
theorem slK_blk{k:IntKind}{w:World}{b N:Nat}{l:List Nat}(h:Blk w b N (fun j=>.int k (l.getD j 0:Nat)))(hl:l.length=N)(hN:N<=maxLen):SlK k w (.slice (some ⟨b,0,none⟩) N N) l:=by
 subst hl;refine⟨_,l.length,rfl,by simp,by simp[Value.oneCell'],Nat.le_refl _,hN,.inr ⟨b,0,rfl,h.lt,fun j u hj=>?_⟩⟩;rw[List.getElem?_map]at hj
 cases e:l[j]? with
 |none=>rw[e]at hj;cases hj
 |some x=>
  rw[e]at hj;simp only[Option.map_some,Option.some.injEq]at hj;subst hj;have hlt:=(List.getElem?_eq_some_iff.1 e).1;have:=h.cell hlt;rw[List.getD_eq_getElem?_getD,e]at this;simpa using this
def NewX(K T id:Nat)(w4:World)(s7:Value)(wx:World):Prop:=∃xb tb,s7=.pointer (some ⟨xb,0,none⟩)∧Blk wx xb 3 (fun i=>(#[.int .u32 (id:Nat),.int .i64 (T:Nat),.slice (some ⟨tb,0,none⟩) K K]:Array Value).getD i (.int .i64 0))∧Blk wx tb K (fun _=>.int .i64 0)∧Fr NoF w4 wx∧w4.heap.size<=xb∧w4.heap.size<=tb∧¬xb=tb
section
variable{w w' w0 w2:World}{pb gb ob n K near kept:Nat}{hc hc':Nat->Value}{s s':S5}{pv pv':List (Pa×Value)}{F0 D0:Nat->Prop}
theorem s5_access_new(h:M5 w pb gb ob n K near kept hc s pv)(hi:Inv5 K kept n s)(hT:s.T<10000)(hK:K<1000)(hr:near<1000)(hk:kept<1000){a id:Nat}(ha:a<n)(hg:getP s.ps id=none):Calls Try.prog 23 #[.pointer (some ⟨pb,0,none⟩),.int .i64 a,.int .u32 id] w fun e w'=>e=.returned (.tuple #[])∧Res5 w pb gb ob n K near kept hc s pv (s.access K near a id) w':=by
 have HIX:Hid (idxP s.ps id=none):=idxP_no (getP_none hg);have HG:=Lib.hid hg;clear hg;have hpl:pv.length<100000:=by rw[<-h.pl];have:=hi.len;omega
 have hol:=hi.ok2;have hn:=h.g.hn;have hk1:=hi.k1;obtain⟨a7,k7,e7,q5,q6,hs7,_⟩:=h.g.row (i:=7) (k:=.u32) (l:=s.old) rfl;have c8:=h.g.c 8 (by omega) h.c8;have c4:=h.g.c 4 (by omega) h.c4;have c7:=h.g.c 7 (by omega) e7;have cp:=h.g.cp ha;have fp:=h.g.pg.frozen a;have f8:=h.g.hd.frozen 8;have lg:=h.g.pg.lt;have lp:=h.g.hd.lt;have d1:=h.g.d1;have d1':¬gb=pb:=fun e=>d1 e.symm
 have hP2:=((P5.start h).setT (s.T+1)).setPage ha id;rw[show((s.T+1:Nat):Int)=(s.T:Int)+1 from by omega]at hP2
 have hs7':SlK .u32 ((w.setCell ⟨pb,8,none⟩ (.int .i64 ((s.T:Int)+1))).setCell ⟨gb,a,none⟩ (.int .u32 (id:Nat))) (.slice a7 s.old.length k7) s.old:=by
  have:=(hP2.m.g.sl 7 .u32 s.old rfl).1;rw[upd_other _ _ (by omega),e7]at this;exact this
 have HW:=Lib.hid (WithoutPage_calls hs7' (by omega) id);have HP2:=Lib.hid hP2;have E7:=Lib.hid e7;have HM:=Lib.hid h;have HI:=Lib.hid hi;generalize s.page.getD a 0=y at cp;clear hP2 hs7 hs7' e7 h hi;go_enter Try.func23,Try.ntmps23
 go_wp2_with fail
 refine HW.out.mono ?_;clear HW;rintro e w1⟨v2,rfl,ho2,hf2⟩;obtain⟨a2,k2,rfl,_,_⟩:=ho2.sl.shape;have hP3:=HP2.out.fr0 hf2;have d7:w1.cell? ⟨pb,7,none⟩=some (.slice a7 s.old.length k7):=hP3.m.g.c 7 (by omega) (by rw[upd_other _ _ (by omega)];exact E7.out);have f7:=hP3.m.g.hd.frozen 7;have lp1:=hP3.m.g.hd.lt;have hP4:=hP3.setOld ho2.sl (fun b q=>.inl ⟨by have:=ho2.base b q;simpa using this,fun r=>by have h1:=HP2.out.m.lt b r;have h2:=ho2.base b q;omega⟩);obtain⟨hc4,hhc4⟩:∃z,z=upd (upd hc 8 (.int .i64 ((s.T:Int)+1))) 7 (.slice a2 (awayN s.old id).length k2):=⟨_,rfl⟩;rw[<-hhc4]at hP4;have HP4:=Lib.hid hP4;clear ho2 hf2 hP3 hP4 hhc4 HP2 E7 c8 c4 c7 cp fp f8 lg lp d1 d1' q5 q6;have HOF:Hid (Calls Try.prog 45 #[.pointer (some ⟨pb,0,none⟩),.int .u32 id] (w1.setCell ⟨pb,7,none⟩ (.slice a2 (awayN s.old id).length k2)) fun e w'=>e=.returned (.int .i64 (-1))∧(w1.setCell ⟨pb,7,none⟩ (.slice a2 (awayN s.old id).length k2))=w'):=(s5_of HP4.out.m (by omega) id).mono fun e w' ⟨z1,z2⟩=>⟨by rw[z1];show Ending.returned (.int .i64 (fstI (idxP s.ps id)))=_;rw[HIX.out];rfl,z2⟩
 go_wp2_with fail
 refine HOF.out.mono ?_;clear HOF;rintro e w4⟨rfl,hw4⟩;rw[hw4]at HP4;clear hw4 d7 f7 lp1;have hp4:=HP4.out;have c1:=hp4.m.g.c 1 (by omega) hp4.m.c1;have c2:=hp4.m.g.c 2 (by omega) hp4.m.c2;have c8:w4.cell? ⟨pb,8,none⟩=some (.int .i64 ((s.T:Int)+1)):=by have:=hp4.m.g.c 8 (by omega) hp4.m.c8;rw[show(((s.T+1:Nat)):Int)=(s.T:Int)+1 from by omega]at this;exact this
 obtain⟨a6,k6,e6,r1,r2⟩:=own_shape hp4.m.own;have c6:=hp4.m.g.c 6 (by omega) e6;have f6:=hp4.m.g.hd.frozen 6;have lp:=hp4.m.g.hd.lt;unfold maxLen at r2;have E6:=Lib.hid e6;clear hp4 e6;obtain⟨i0,hi0,hz0,hz1,hz2⟩:=info_parts' (P:=Try.prog) (e:=3) (z:=.int .i64 0) (s:=1) (b:=8) (by kernel_rfl)
 have mk1:∀w:World,(Instr.makeSlice 69 (.int .i64 (K:Int)) (.int .i64 (K:Int))).run Try.prog w=
   .ok (.slice (some ⟨w.heap.size,0,none⟩) K K) (w.alloc (.cells (madeCells #[.int .i64 0] K) 3)):=by
  intro w;have:=run_make (P:=Try.prog) w 69 3 i0 _ Try.underlying69 hi0 hz0 .i64 .i64 (K:Int) (K:Int) (by omega) (Int.le_refl _) (by rw[hz2];omega) (by omega);rw[show((K:Int)).toNat=K from by omega,hz1,Nat.mul_one]at this;exact this
 clear hi0 hz0 hz1 hz2;have hm0:(madeCells #[Value.int .i64 0] K)[0]?=some (.int .i64 0):=made_at (by omega)
 go_upto_region 5 with fail
 go_cut [7] (fun s7 wx=>NewX K (s.T+1) id w4 s7 wx)
 case first=>
  go_region
  .go_wp2_with fail
   go_meet
   refine⟨w4.heap.size+1,w4.heap.size,rfl,?_,?_,((Fr.refl NoF w4).alloc _).alloc _|>.drew,by omega,Nat.le_refl _,by omega⟩
   .refine(Blk.new _ _ _ 3 _ _ (by simp) rfl (fun i hi=>?_)).drew
    match i,hi with
    |0,_=>rfl
    |1,_=>rfl
    |2,_=>rfl
   .refine((Blk.new _ _ _ K _ _ rfl (by simp[size_madeCells]) (fun i hi=>?_)).alloc _).drew
    rw[made_at hi,show(#[Value.int .i64 0]:Array Value).size=1 from rfl,Nat.mod_one];rfl
  .go_wp2_with fail
   go_meet
   refine⟨w4.heap.size,w4.heap.size+1,rfl,?_,?_,((Fr.refl NoF w4).alloc _).alloc _|>.drew,Nat.le_refl _,by omega,by omega⟩
   .refine((Blk.new _ _ _ 3 _ _ rfl rfl (fun i hi=>?_)).alloc _).drew
    match i,hi with
    |0,_=>rfl
    |1,_=>rfl
    |2,_=>rfl
   .refine(Blk.new _ _ _ K _ _ (by simp) (by simp[size_madeCells]) (fun i hi=>?_)).drew
    rw[made_at hi,show(#[Value.int .i64 0]:Array Value).size=1 from rfl,Nat.mod_one];rfl
 case rest=>
  obtain⟨xb,tb,rfl,hX,hTm,f5,lx,lt,hxt⟩:=hcut;have HF5:=Lib.hid f5;have HP5:=Lib.hid (HP4.out.fr0 f5);have hp5:=HP5.out;clear c1 c2 c8 c6 f6 lp mk1 hm0;have x0:=hX.cell (i:=0) (by omega);have x1:=hX.cell (i:=1) (by omega);have x2:=hX.cell (i:=2) (by omega)
  replace x0:wc.cell? ⟨xb,0,none⟩=some (.int .u32 (id:Nat)):=x0
  replace x1:wc.cell? ⟨xb,1,none⟩=some (.int .i64 ((s.T:Int)+1)):=x1
  replace x2:wc.cell? ⟨xb,2,none⟩=some (.slice (some ⟨tb,0,none⟩) K K):=x2
  have t0:wc.cell? ⟨tb,0,none⟩=some (.int .i64 0):=hTm.cell (i:=0) (by omega);have tf:=hTm.frozen 0;have ltb:=hTm.lt;have lxb:=hX.lt;have htx:¬tb=xb:=fun e=>hxt e.symm
  have c8:wc.cell? ⟨pb,8,none⟩=some (.int .i64 ((s.T:Int)+1)):=by have:=hp5.m.g.c 8 (by omega) hp5.m.c8;rw[show(((s.T+1:Nat)):Int)=(s.T:Int)+1 from by omega]at this;exact this
  have lp:=hp5.m.g.hd.lt
  have HT6:Hid (∀W,Fr NoF (wc.setCell ⟨tb,0,none⟩ (.int .i64 ((s.T:Int)+1))) W->Blk W tb K (fun j=>.int .i64 ((newT K (s.T+1)).getD j 0:Nat))∧Blk W xb 3 (fun i=>(#[.int .u32 (id:Nat),.int .i64 (s.T+1:Nat),.slice (some ⟨tb,0,none⟩) K K]:Array Value).getD i (.int .i64 0))∧Fr NoF w4 W):=by
   intro W f;refine⟨((hTm.set 0 (.int .i64 ((s.T:Int)+1))).congr (fun j hj=>?_)).fr f (fun q=>q),((hX.other (by exact hxt) _).fr f (fun q=>q)),(HF5.out.trans ((Fr.refl (fun i=>i=tb) wc).setCell (.inl rfl) _) (fun i e=>.inr (by subst e;exact lt))).trans f (fun _ q=>q.elim)⟩;rw[newT_get];by_cases e:j=0
   .subst e;rw[upd_same,if_pos rfl];rfl
   .rw[upd_other _ _ e,if_neg e];rfl
  have HLX:=Lib.hid (And.intro lx lt)
  have FIN:Hid (∀W w7 v7,Fr NoF (wc.setCell ⟨tb,0,none⟩ (.int .i64 ((s.T:Int)+1))) W->w7.ownsRow 0 97 3 v7 (pv.length+1) (cells5 pv++[.int .u32 (id:Nat),.int .i64 ((s.T:Int)+1),.slice (some ⟨tb,0,none⟩) K K])->Fr (fun b=>(Value.slice a6 pv.length k6).ownBlock=some b) W w7->(∀b,v7.ownBlock=some b->(Value.slice a6 pv.length k6).ownBlock=some b∨W.heap.size<=b)->
    (w7.cell? ⟨pb,6,none⟩=some (.slice a6 pv.length k6)∧w7.cell? ⟨xb,0,none⟩=some (.int .u32 (id:Nat))∧w7.cell? ⟨xb,1,none⟩=some (.int .i64 ((s.T:Int)+1))∧w7.cell? ⟨xb,2,none⟩=some (.slice (some ⟨tb,0,none⟩) K K))∧w7.frozen? ⟨pb,6,none⟩=false∧pb<w7.heap.size∧∀W',Fr NoF (w7.setCell ⟨pb,6,none⟩ v7) W'->Res5 w pb gb ob n K near kept hc s pv (s.access K near a id) W'):=by
   intro W w7 v7 fW hown hf hob;obtain⟨hB,hXW,hfw⟩:=HT6.out W fW;have hpW:=HP4.out.fr0 hfw;rw[<-E6.out]at hf hob;have hv6:=hpW.m.v6;have hbl:∀b,(hc4 6).ownBlock=some b->b<w4.heap.size:=fun b q=>HP4.out.m.lt b (.inr (.inl q))
   have hpb:¬(hc4 6).ownBlock=some pb:=fun q=>(hv6 pb q).1 (.inl rfl)
   have hd7:=hpW.m.g.hd.fr hf hpb;have hxb:¬(hc4 6).ownBlock=some xb:=fun q=>by have:=hbl xb q;omega
   have hX7:=hXW.fr hf hxb;refine⟨⟨by rw[<-E6.out];exact hd7.cell (i:=6) (by omega),hX7.cell (i:=0) (by omega),hX7.cell (i:=1) (by omega),hX7.cell (i:=2) (by omega)⟩,hd7.frozen 6,hd7.lt,fun W' f'=>?_⟩
   have hown2:w7.ownsRow 0 97 3 v7 (pv++[((⟨id,s.T+1,newT K (s.T+1)⟩:Pa),Value.slice (some ⟨tb,0,none⟩) K K)]).length (cells5 (pv++[((⟨id,s.T+1,newT K (s.T+1)⟩:Pa),Value.slice (some ⟨tb,0,none⟩) K K)])):=by
    rw[cells5_append,List.length_append];exact hown
   have htb:¬(hc4 6).ownBlock=some tb:=fun q=>by have:=hbl tb q;omega
   have hp:=hpW.setPs (pv':=pv++[((⟨id,s.T+1,newT K (s.T+1)⟩:Pa),Value.slice (some ⟨tb,0,none⟩) K K)]) hf hown2 hob (fun y hy=>by
    rcases List.mem_append.1 hy with q|q
    .exact .inl q
    .rw[List.mem_singleton.1 q]
     refine .inr ⟨slK_blk (hB.fr hf htb) (by unfold newT;simp;omega) (by unfold maxLen;omega),fun b hb=>.inl ?_⟩;have hb:b=tb:=by simpa[Value.ownBlock]using hb.symm
     subst hb;refine⟨Nat.le_trans HP4.out.f.size lt,fun r=>?_,fun r=>?_⟩
     .have:=HP4.out.m.lt b (D5_FP r);omega
     .rcases hob b r with q|q
      .exact htb q
      .have:=hB.lt;omega)
   have e:(pv++[((⟨id,s.T+1,newT K (s.T+1)⟩:Pa),Value.slice (some ⟨tb,0,none⟩) K K)]).map (·.1)=accP K near (s.T+1) s.ps id:=by
    unfold accP;rw[HG.out,HM.out.ps,List.map_append];rfl
   rw[e]at hp;exact⟨_,_,hp.fr0 f'⟩
  have HOWN:Hid (∀W,Fr NoF (wc.setCell ⟨tb,0,none⟩ (.int .i64 ((s.T:Int)+1))) W->W.ownsRow 0 97 3 (.slice a6 pv.length k6) pv.length (cells5 pv)):=fun W f=>by
   have:=(HP4.out.fr0 (HT6.out W f).2.2).m.own;rw[E6.out]at this;exact this
  have KS:Hid (∀W,Fr NoF (wc.setCell ⟨tb,0,none⟩ (.int .i64 ((s.T:Int)+1))) W->W.cell? ⟨pb,6,none⟩=some (.slice a6 pv.length k6)∧W.cell? ⟨xb,0,none⟩=some (.int .u32 (id:Nat))∧W.cell? ⟨xb,1,none⟩=some (.int .i64 ((s.T:Int)+1))∧W.cell? ⟨xb,2,none⟩=some (.slice (some ⟨tb,0,none⟩) K K)):=fun W f=>by
   obtain⟨_,q1,q2⟩:=HT6.out W f;exact⟨(HP4.out.fr0 q2).m.g.c 6 (by omega) E6.out,q1.cell (i:=0) (by omega),q1.cell (i:=1) (by omega),q1.cell (i:=2) (by omega)⟩
  have HXN:Hid (∀(W:World) (g:Nat),(∃Wa:World,Fr NoF (Wa.alloc (.cells #[.int .u32 (id:Nat),.int .i64 ((s.T:Int)+1),.slice (some ⟨tb,0,none⟩) K K] 97)) W∧g=Wa.heap.size)->SlC W 3 (.slice (some ⟨g,0,none⟩) 1 1) 1 [.int .u32 (id:Nat),.int .i64 ((s.T:Int)+1),.slice (some ⟨tb,0,none⟩) K K]):=fun W g ⟨Wa,f2,e⟩=>(SlC.ofOwn (own_new (w0:=Wa) (Nat.le_refl _) #[.int .u32 (id:Nat),.int .i64 ((s.T:Int)+1),.slice (some ⟨tb,0,none⟩) K K] 97 3 1 g e rfl (by unfold maxLen;omega)) (by simp[Value.oneCell'])).keep f2
  clear f5 hX hTm hp5;go_wp2
  go_region
  all_goals
   obtain⟨wV,hwV⟩:∃z,z=wc.setCell ⟨tb,0,none⟩ (.int .i64 ((s.T:Int)+1)):=⟨_,rfl⟩;rw[<-hwV]at HT6 FIN HOWN KS⊢;clear hwV x0 x1 x2 t0 tf ltb lxb htx c8 lp lx lt hxt
   go_upto_region 7 with fail
   obtain⟨c6,x0,x1,x2⟩:=KS.out _ (Fr.refl NoF wV).drew;refine region_tail (fun w'=>w'.cell? ⟨pb,6,none⟩=some (.slice a6 pv.length k6)∧w'.cell? ⟨xb,0,none⟩=some (.int .u32 (id:Nat))∧w'.cell? ⟨xb,1,none⟩=some (.int .i64 ((s.T:Int)+1))∧w'.cell? ⟨xb,2,none⟩=some (.slice (some ⟨tb,0,none⟩) K K)) 10 (by kernel_rfl) rfl rfl (by kernel_rfl) ?_;simp only[List.take_succ_cons,List.take_zero];have hS:(fun w'=>w'.cell? ⟨pb,6,none⟩=some (.slice a6 pv.length k6)∧w'.cell? ⟨xb,0,none⟩=some (.int .u32 (id:Nat))∧w'.cell? ⟨xb,1,none⟩=some (.int .i64 ((s.T:Int)+1))∧w'.cell? ⟨xb,2,none⟩=some (.slice (some ⟨tb,0,none⟩) K K)) wV.drew.drew:=⟨c6,x0,x1,x2⟩;refine wpAnyH_take (i:=0) (v:=?_) rfl (by decide+kernel) (by decide+kernel) (by decide+kernel) (fun _ _ _ h=>h) (Or.inl ⟨by rfl,?_⟩) hS ?_
   rotate_left
   .intro wS hSw;(try dsimp only at hSw);go_simp
    try with_reducible rfl
   try simp only[Act.put,List.setIfInBounds_toArray,List.set_cons_zero,List.set_cons_succ]
   refine wpAnyH_take (i:=1) (v:=?_) rfl (by decide+kernel) (by decide+kernel) (by decide+kernel) (fun _ _ _ h=>h) (Or.inl ⟨by rfl,?_⟩) hS ?_
   rotate_left
   .intro wS hSw;(try dsimp only at hSw);go_simp
    try with_reducible rfl
   try simp only[Act.put,List.setIfInBounds_toArray,List.set_cons_zero,List.set_cons_succ]
   refine wpAnyH_take (i:=2) (v:=?_) rfl (by decide+kernel) (by decide+kernel) (by decide+kernel) (fun _ _ _ h=>h) (Or.inl ⟨by rfl,?_⟩) hS ?_
   rotate_left
   .intro wS hSw;(try dsimp only at hSw);go_simp
    try with_reducible rfl
   try simp only[Act.put,List.setIfInBounds_toArray,List.set_cons_zero,List.set_cons_succ]
   refine wpAnyH_take (i:=3) (v:=?_) rfl (by decide+kernel) (by decide+kernel) (by decide+kernel) (fun _ _ _ h=>h) (Or.inl ⟨by rfl,?_⟩) hS ?_
   rotate_left
   .intro wS hSw;(try dsimp only at hSw);go_simp
    try with_reducible rfl
   try simp only[Act.put,List.setIfInBounds_toArray,List.set_cons_zero,List.set_cons_succ]
   refine wpAnyH_take (i:=4) (v:=?_) rfl (by decide+kernel) (by decide+kernel) (by decide+kernel) (fun _ _ _ h=>h) (Or.inl ⟨by rfl,?_⟩) hS ?_
   rotate_left
   .intro wS hSw;(try dsimp only at hSw);go_simp
    try with_reducible rfl
   try simp only[Act.put,List.setIfInBounds_toArray,List.set_cons_zero,List.set_cons_succ]
   refine wpAnyH_take (i:=5) (v:=?_) rfl (by decide+kernel) (by decide+kernel) (by decide+kernel) (fun _ _ _ h=>h) (Or.inl ⟨by rfl,?_⟩) hS ?_
   rotate_left
   .intro wS hSw;(try dsimp only at hSw);go_simp
    try with_reducible rfl
   try simp only[Act.put,List.setIfInBounds_toArray,List.set_cons_zero,List.set_cons_succ]
   clear hS;refine wpAnyH_ready (rs:=[6]) (by kernel_rfl) (by simp) ?_;refine AllReadyH.cons rfl (fun K hK=>?_) ?_
   .go_simp
    refine hK.out _ _ (by first|(refine KS.out _ ?_;(repeat(first|exact Fr.refl NoF _|apply Fr.drew|apply Fr.alloc));done)|exact⟨y6,y61,y62,y63⟩) (fun hS=>?_);clear hK K
    try simp only[Act.put,List.setIfInBounds_toArray,List.set_cons_zero,List.set_cons_succ]
    refine wpAnyH_ready (rs:=[7]) (by kernel_rfl) (by simp) ?_;refine AllReadyH.cons rfl (fun K hK=>?_) ?_
    .refine appSB (base:=0) EIp rfl (.tmp 65) (.tmp 67) rfl (by rfl) (by rfl) (Nat.zero_le _) (HOWN.out _ (by repeat(first|exact Fr.refl NoF _|apply Fr.drew|apply Fr.alloc))) (HXN.out _ _ ⟨_,(by repeat(first|exact Fr.refl NoF _|apply Fr.drew|apply Fr.alloc)),by first|rfl|simp⟩) (by unfold maxLen;omega) (by omega) ?_;intro v7 w7 hown7 hf7 hob7;obtain⟨⟨y6,y61,y62,y63⟩,y7,y8,y9⟩:=FIN.out _ _ _ (by repeat(first|exact Fr.refl NoF _|apply Fr.drew|apply Fr.alloc)) hown7 hf7 hob7;obtain⟨a7',c7',rfl,_,_⟩:=own_shape hown7;have HY9:=Lib.hid y9;clear y9 hown7 hf7 hob7
     refine hK.out _ _ (by first|(refine KS.out _ ?_;(repeat(first|exact Fr.refl NoF _|apply Fr.drew|apply Fr.alloc));done)|exact⟨y6,y61,y62,y63⟩) (fun hS=>?_);clear hK K
     try simp only[Act.put,List.setIfInBounds_toArray,List.set_cons_zero,List.set_cons_succ]
     refine wpAnyH_take (i:=8) (v:=?_) rfl (by decide+kernel) (by decide+kernel) (by decide+kernel) (fun _ _ _ h=>h) (Or.inl ⟨by rfl,?_⟩) hS ?_
     rotate_left
     .intro wS hSw;(try dsimp only at hSw);go_simp
      try with_reducible rfl
     try simp only[Act.put,List.setIfInBounds_toArray,List.set_cons_zero,List.set_cons_succ]
     refine wpAnyH_take (i:=9) (v:=?_) rfl (by decide+kernel) (by decide+kernel) (by decide+kernel) (fun _ _ _ h=>h) (Or.inl ⟨by rfl,?_⟩) hS ?_
     rotate_left
     .intro wS hSw;(try dsimp only at hSw);go_simp
      try with_reducible rfl
     try simp only[Act.put,List.setIfInBounds_toArray,List.set_cons_zero,List.set_cons_succ]
     refine wpAnyH_done (by kernel_rfl) ?_ _
     show wpList _ _ _ _ _ _
     go_wp2;go_returns;exact⟨rfl,HY9.out _ (by repeat(first|exact Fr.refl NoF _|apply Fr.drewN|apply Fr.drew))⟩
    exact AllReadyH.nil
   exact AllReadyH.nil
end
end
end Go.Proofs.Ytcccbdnojlmgaaa
