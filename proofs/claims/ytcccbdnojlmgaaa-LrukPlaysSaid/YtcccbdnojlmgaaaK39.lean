/- Part 39. -/
import Derived.Test.YtcccbdnojlmgaaaK37
import Derived.Test.YtcccbdnojlmgaaaK38
import Derived.Deep.DeepCutAuto
namespace Go.Proofs.Ytcccbdnojlmgaaa
set_option linter.all false
set_option maxHeartbeats 16000000
set_option maxRecDepth 100000
section
open Go.RowKit
theorem EIu5:EI Try.prog 36 35 1 4:=EI.mk' (z:=.int .u32 0) Try.underlying36 (by kernel_rfl) rfl (by decide)
def FinR(w:World)(pb gb ob n K near kept:Nat)(hc:Nat->Value)(s:S5)(pv:List (Pa×Value))(s':S5)(W:World):Prop:=∃hc1,P5 w (F5 pb gb ob hc) (D5 pb gb ob hc s pv) pb gb ob n K near kept W hc1 s' pv
section
variable{w w' w0 w2:World}{pb gb ob n K near kept:Nat}{hc hc':Nat->Value}{s s':S5}{pv pv':List (Pa×Value)}{F0 D0:Nat->Prop}
theorem s5_victim_no(h:M5 w pb gb ob n K near kept hc s pv)(hi:Inv5 K kept n s)(hT:s.T<100000)(hK:K<1000)(hr:near<1000)(hv:s.vic K near n=none)(id:Int):Calls Try.prog 22 #[.pointer (some ⟨pb,0,none⟩),.int .u32 id] w fun e w'=>e=.returned (.int .i64 (-1))∧Fr NoF w w':=by
 have HB:∀all W,Fr NoF w W->Calls Try.prog 42 #[.pointer (some ⟨pb,0,none⟩),.bool all] W fun e w'=>e=.returned (.int .i64 (-1))∧Fr NoF W w':=fun all W f=>by
  have:=s5_best (h.fr0 f) hi hT hK hr all
  have e:s.bestF K near all n=none:=by
   unfold S5.vic at hv
   cases e:s.bestF K near false n with
   |some x=>rw[e]at hv;cases hv
   |none=>rw[e]at hv;cases all with|false=>exact e|true=>exact hv
  rw[e]at this;exact this
 have H:=Lib.hid HB;clear HB h hi hv;go_enter Try.func22,Try.ntmps22
 go_wp2_with fail
 refine(H.out false _ (Fr.refl _ _)).mono ?_;rintro e w1⟨rfl,hf1⟩;have HF1:=Lib.hid hf1;clear hf1
 go_wp2_with fail
 refine(H.out true _ HF1.out).mono ?_;rintro e w2⟨rfl,hf2⟩;have HF2:=Lib.hid (HF1.out.trans hf2 (fun _ q=>q.elim));clear hf2;go_wp2;go_returns;exact⟨rfl,HF2.out⟩
theorem s5_victim_yes(h:M5 w pb gb ob n K near kept hc s pv)(hi:Inv5 K kept n s)(hT:s.T<100000)(hK:K<1000)(hr:near<1000)(hk:kept<1000){f:Nat}(hv:s.vic K near n=some f)(id:Int):Calls Try.prog 22 #[.pointer (some ⟨pb,0,none⟩),.int .u32 id] w fun e w'=>e=.returned (.int .i64 f)∧Res5 w pb gb ob n K near kept hc s pv (s.gone kept f) w':=by
 have HB:∀all W,Fr NoF w W->Calls Try.prog 42 #[.pointer (some ⟨pb,0,none⟩),.bool all] W fun e w'=>e=.returned (.int .i64 (fstI (s.bestF K near all n)))∧Fr NoF W w':=fun all W f=>s5_best (h.fr0 f) hi hT hK hr all
 have hcase:(s.bestF K near false n=some f)∨(s.bestF K near false n=none∧s.bestF K near true n=some f):=by
  unfold S5.vic at hv
  cases e:s.bestF K near false n with
  |some x=>rw[e]at hv;exact .inl hv
  |none=>rw[e]at hv;exact .inr ⟨rfl,hv⟩
 have hfn:f<n:=by
  rcases hcase with q|⟨_,q⟩
  .exact(best_is s K near false n f q).1
  .exact(best_is s K near true n f q).1
 have ho:=hi.ok2
 have HF1:(Calls Try.prog 42 #[.pointer (some ⟨pb,0,none⟩),.bool false] w fun e w'=>e=.returned (.int .i64 f)∧Fr NoF w w')∨((Calls Try.prog 42 #[.pointer (some ⟨pb,0,none⟩),.bool false] w fun e w'=>e=.returned (.int .i64 (-1))∧Fr NoF w w')∧∀W,Fr NoF w W->Calls Try.prog 42 #[.pointer (some ⟨pb,0,none⟩),.bool true] W fun e w'=>e=.returned (.int .i64 f)∧Fr NoF W w'):=by
  rcases hcase with q|⟨q1,q2⟩
  .left;have:=HB false w (Fr.refl _ _);rw[q]at this;exact this
  .right
   refine⟨?_,fun W f=>?_⟩
   .have:=HB false w (Fr.refl _ _);rw[q1]at this;exact this
   .have:=HB true W f;rw[q2]at this;exact this
 have HM:=Lib.hid h;have HI:=Lib.hid hi;have hn:=h.g.hn;clear hcase HB h hi hv;rcases HF1 with HA|⟨HA,HB⟩
 .replace HA:=Lib.hid HA
  go_enter Try.func22,Try.ntmps22
  go_wp2_with fail
  refine HA.out.mono ?_;rintro e wV⟨rfl,hfV⟩;have HFV:=Lib.hid hfV;have HMV:=Lib.hid (HM.out.fr0 hfV);clear hfV HA;obtain⟨a7,k7,e7,q5,q6,hs7,hb7⟩:=HMV.out.g.row (i:=7) (k:=.u32) (l:=s.old) rfl;have c7:=HMV.out.g.c 7 (by omega) e7;have c4:=HMV.out.g.c 4 (by omega) HMV.out.c4;have cp:wV.cell? ⟨gb,f,none⟩=some (.int .u32 (s.pg f:Nat)):=HMV.out.g.cp hfn;have lp:=HMV.out.g.hd.lt;have lg:=HMV.out.g.pg.lt;generalize hx:s.pg f=x at*;have HX:=Lib.hid hx;have HS7:=Lib.hid hs7;have E7:=Lib.hid e7;clear hx hs7 hb7 e7;have H7:Hid (∀W,Fr NoF wV W->SlK .u32 W (.slice a7 s.old.length k7) s.old):=fun W f=>HS7.out.keep f
  have HOW:Hid (∀W g,(∃Wa,Fr NoF (Wa.alloc (.cells #[] 35)) W∧g=Wa.heap.size∧Fr NoF wV Wa)->W.ownsRow wV.heap.size 35 1 (.slice (some ⟨g,0,none⟩) 0 0) 0 []):=fun W g ⟨Wa,f2,e,f1⟩=>own_keep (own_new (w0:=wV) f1.size #[] 35 1 0 g e rfl (by unfold maxLen;omega)) f2 (fun _ _ q=>q)
  have HXN:Hid (∀W g,(∃Wa,Fr NoF (Wa.alloc (.cells #[.int .u32 (x:Nat)] 35)) W∧g=Wa.heap.size∧Fr NoF wV Wa)->SlC W 1 (.slice (some ⟨g,0,none⟩) 1 1) 1 [.int .u32 (x:Nat)]):=fun W g ⟨Wa,f2,e,f1⟩=>(SlC.ofOwn (own_new (w0:=wV) f1.size #[.int .u32 (x:Nat)] 35 1 1 g e rfl (by unfold maxLen;omega)) (by simp[Value.oneCell'])).keep f2
  have KC:Hid (∀W,Fr NoF wV W->W.cell? ⟨pb,7,none⟩=some (.slice a7 s.old.length k7)∧W.cell? ⟨pb,4,none⟩=some (.slice (some ⟨gb,0,none⟩) n n)∧W.cell? ⟨gb,f,none⟩=some (.int .u32 (x:Nat))∧W.frozen? ⟨pb,7,none⟩=false∧pb<W.heap.size∧gb<W.heap.size):=fun W q=>by
   have hq:=HMV.out.fr0 q;have e7:hc 7=_:=E7.out;exact⟨hq.g.c 7 (by omega) e7,hq.g.c 4 (by omega) hq.c4,by have:=hq.g.cp hfn;rw[show s.page.getD f 0=x from HX.out]at this;exact this,hq.g.hd.frozen 7,hq.g.hd.lt,hq.g.pg.lt⟩
  have KS:Hid (∀W,Fr NoF wV W->W.cell? ⟨pb,7,none⟩=some (.slice a7 s.old.length k7)∧W.cell? ⟨pb,4,none⟩=some (.slice (some ⟨gb,0,none⟩) n n)∧W.cell? ⟨gb,f,none⟩=some (.int .u32 (x:Nat))):=fun W q=>⟨(KC.out W q).1,(KC.out W q).2.1,(KC.out W q).2.2.1⟩
  have FIN:Hid (∀w6 v6,w6.ownsRow wV.heap.size 35 1 v6 (s.old.length+1) ((s.old.map fun(y:Nat)=>Value.int .u32 (y:Int))++[.int .u32 (x:Nat)])->Fr NoF wV w6->P5 w (F5 pb gb ob hc) (D5 pb gb ob hc s pv) pb gb ob n K near kept (w6.setCell ⟨pb,7,none⟩ v6) (upd hc 7 v6) ⟨s.page,s.on,s.ps,s.old++[x],s.T⟩ pv):=by
   intro w6 v6 hown q;have hl:(s.old++[x]).length=s.old.length+1:=by simp
   have hk:OwK .u32 wV.heap.size 35 w6 v6 (s.old++[x]):=by
    unfold OwK;rw[hl,List.map_append];exact hown
   have hfr:=HFV.out.trans q (fun _ r=>r.elim);have hp:=((P5.start HM.out).fr0 hfr).setOld hk.sl (fun b e=>.inl ⟨Nat.le_trans HFV.out.size (hk.base b e),fun r=>by have:=HMV.out.lt b r;have:=hk.base b e;omega⟩);exact hp
  go_upto_region 5 with fail
  go_cut [5] (fun s5 wx=>s5=.int .i64 f∧FinR w pb gb ob n K near kept hc s pv ⟨s.page,s.on,s.ps,s.old++[x],s.T⟩ wx)
  case first=>
    refine region_tail (fun w'=>w'.cell? ⟨pb,7,none⟩=some (.slice a7 s.old.length k7)∧w'.cell? ⟨pb,4,none⟩=some (.slice (some ⟨gb,0,none⟩) n n)∧w'.cell? ⟨gb,f,none⟩=some (.int .u32 (x:Nat))) 18 (by kernel_rfl) rfl rfl (by kernel_rfl) ?_;simp only[List.take_succ_cons,List.take_zero];have hS:(fun w'=>w'.cell? ⟨pb,7,none⟩=some (.slice a7 s.old.length k7)∧w'.cell? ⟨pb,4,none⟩=some (.slice (some ⟨gb,0,none⟩) n n)∧w'.cell? ⟨gb,f,none⟩=some (.int .u32 (x:Nat))) wV.drew:=⟨c7,c4,cp⟩;refine wpAnyH_take (i:=0) (v:=?_) rfl (by decide+kernel) (by decide+kernel) (by decide+kernel) (fun _ _ _ h=>h) (Or.inl ⟨by rfl,?_⟩) hS ?_
    rotate_left
    .intro wS hSw;(try dsimp only at hSw);go_simp
     try with_reducible rfl
    try simp only[Act.put,List.setIfInBounds_toArray,List.set_cons_zero,List.set_cons_succ]
    refine wpAnyH_take (i:=2) (v:=?_) rfl (by decide+kernel) (by decide+kernel) (by decide+kernel) (fun _ _ _ h=>h) (Or.inl ⟨by rfl,?_⟩) hS ?_
    rotate_left
    .intro wS hSw;(try dsimp only at hSw);go_simp
     try with_reducible rfl
    try simp only[Act.put,List.setIfInBounds_toArray,List.set_cons_zero,List.set_cons_succ]
    refine wpAnyH_take (i:=3) (v:=?_) rfl (by decide+kernel) (by decide+kernel) (by decide+kernel) (fun _ _ _ h=>h) (Or.inl ⟨by rfl,?_⟩) hS ?_
    rotate_left
    .intro wS hSw;(try dsimp only at hSw);go_simp
     try with_reducible rfl
    try simp only[Act.put,List.setIfInBounds_toArray,List.set_cons_zero,List.set_cons_succ]
    refine wpAnyH_take (i:=4) (v:=?_) rfl (by decide+kernel) (by decide+kernel) (by decide+kernel) (fun _ _ _ h=>h) (Or.inl ⟨by rfl,?_⟩) hS ?_
    rotate_left
    .intro wS hSw;(try dsimp only at hSw);go_simp
     try with_reducible rfl
    try simp only[Act.put,List.setIfInBounds_toArray,List.set_cons_zero,List.set_cons_succ]
    refine wpAnyH_take (i:=5) (v:=?_) rfl (by decide+kernel) (by decide+kernel) (by decide+kernel) (fun _ _ _ h=>h) (Or.inl ⟨by rfl,?_⟩) hS ?_
    rotate_left
    .intro wS hSw;(try dsimp only at hSw);go_simp
     try with_reducible rfl
    try simp only[Act.put,List.setIfInBounds_toArray,List.set_cons_zero,List.set_cons_succ]
    refine wpAnyH_take (i:=7) (v:=?_) rfl (by decide+kernel) (by decide+kernel) (by decide+kernel) (fun _ _ _ h=>h) (Or.inl ⟨by rfl,?_⟩) hS ?_
    rotate_left
    .intro wS hSw;(try dsimp only at hSw);go_simp
     try with_reducible rfl
    try simp only[Act.put,List.setIfInBounds_toArray,List.set_cons_zero,List.set_cons_succ]
    refine wpAnyH_take (i:=8) (v:=?_) rfl (by decide+kernel) (by decide+kernel) (by decide+kernel) (fun _ _ _ h=>h) (Or.inl ⟨by rfl,?_⟩) hS ?_
    rotate_left
    .intro wS hSw;(try dsimp only at hSw);go_simp
     try with_reducible rfl
    try simp only[Act.put,List.setIfInBounds_toArray,List.set_cons_zero,List.set_cons_succ]
    refine wpAnyH_take (i:=9) (v:=?_) rfl (by decide+kernel) (by decide+kernel) (by decide+kernel) (fun _ _ _ h=>h) (Or.inl ⟨by rfl,?_⟩) hS ?_
    rotate_left
    .intro wS hSw;(try dsimp only at hSw);go_simp
     try with_reducible rfl
    try simp only[Act.put,List.setIfInBounds_toArray,List.set_cons_zero,List.set_cons_succ]
    refine wpAnyH_take (i:=10) (v:=?_) rfl (by decide+kernel) (by decide+kernel) (by decide+kernel) (fun _ _ _ h=>h) (Or.inl ⟨by rfl,?_⟩) hS ?_
    rotate_left
    .intro wS hSw;(try dsimp only at hSw);go_simp
     try with_reducible rfl
    try simp only[Act.put,List.setIfInBounds_toArray,List.set_cons_zero,List.set_cons_succ]
    refine wpAnyH_take (i:=11) (v:=?_) rfl (by decide+kernel) (by decide+kernel) (by decide+kernel) (fun _ _ _ h=>h) (Or.inl ⟨by rfl,?_⟩) hS ?_
    rotate_left
    .intro wS hSw;(try dsimp only at hSw);go_simp
     try with_reducible rfl
    try simp only[Act.put,List.setIfInBounds_toArray,List.set_cons_zero,List.set_cons_succ]
    refine wpAnyH_take (i:=12) (v:=?_) rfl (by decide+kernel) (by decide+kernel) (by decide+kernel) (fun _ _ _ h=>h) (Or.inl ⟨by rfl,?_⟩) hS ?_
    rotate_left
    .intro wS hSw;(try dsimp only at hSw);go_simp
     try with_reducible rfl
    try simp only[Act.put,List.setIfInBounds_toArray,List.set_cons_zero,List.set_cons_succ]
    refine wpAnyH_take (i:=13) (v:=?_) rfl (by decide+kernel) (by decide+kernel) (by decide+kernel) (fun _ _ _ h=>h) (Or.inl ⟨by rfl,?_⟩) hS ?_
    rotate_left
    .intro wS hSw;(try dsimp only at hSw);go_simp
     try with_reducible rfl
    try simp only[Act.put,List.setIfInBounds_toArray,List.set_cons_zero,List.set_cons_succ]
    clear hS;refine wpAnyH_ready (rs:=[1,14]) (by kernel_rfl) (by simp) ?_;refine AllReadyH.cons rfl (fun K hK=>?_) ?_
    .go_simp
     refine hK.out _ _ (KS.out _ (by repeat(first|exact Fr.refl NoF _|exact HF6.out|exact HF5.out|apply Fr.drew|apply Fr.alloc))) (fun hS=>?_);clear hK K
     try simp only[Act.put,List.setIfInBounds_toArray,List.set_cons_zero,List.set_cons_succ]
     refine wpAnyH_ready (rs:=[6,14]) (by kernel_rfl) (by simp) ?_;refine AllReadyH.cons rfl (fun K hK=>?_) ?_
     .refine appSB (base:=wV.heap.size) EIu5 rfl (.tmp 15) (.tmp 19) rfl (by rfl) (by rfl) (by first|omega|(simp;done)|(simp;omega)) (HOW.out _ _ ⟨_,(by repeat(first|exact Fr.refl NoF _|apply Fr.drew|apply Fr.alloc)),by first|rfl|simp,(by repeat(first|exact Fr.refl NoF _|apply Fr.drew|apply Fr.alloc))⟩) (H7.out _ (by repeat(first|exact Fr.refl NoF _|apply Fr.drew|apply Fr.alloc))) (by unfold maxLen;omega) (by omega) ?_;intro v5 w5 hown5 hf5 hob5;rw[Nat.zero_add,List.nil_append]at hown5;obtain⟨a5,c5,rfl,_,_⟩:=(SlC.ofOwn hown5 (by simp[Value.oneCell'])).shape;have HX5:=Lib.hid (fun(g:Nat) (h1:SlC _ 1 (.slice (some ⟨g,0,none⟩) 1 1) 1 [.int .u32 (x:Nat)]) h2=>SlC.fr h1 hf5 h2);have HO5:=Lib.hid hown5;have HF5:=Lib.hid (Fr.trans (F:=NoF) (a:=wV) (by repeat(first|exact Fr.refl NoF _|apply Fr.drew|apply Fr.alloc)) hf5 (fun i q=>.inr (by cases q;first|exact Nat.le_refl _|(simp;done)|(simp;omega))));obtain⟨x1,x2,x3,x4,x5,x6⟩:=KC.out w5 HF5.out;have hs5:=HF5.out.size;clear hown5 hf5 hob5
      refine hK.out _ _ (KS.out _ (by repeat(first|exact Fr.refl NoF _|exact HF6.out|exact HF5.out|apply Fr.drew|apply Fr.alloc))) (fun hS=>?_);clear hK K
      try simp only[Act.put,List.setIfInBounds_toArray,List.set_cons_zero,List.set_cons_succ]
      refine wpAnyH_ready (rs:=[14]) (by kernel_rfl) (by simp) ?_;refine AllReadyH.cons rfl (fun K hK=>?_) ?_
      .go_simp
       refine hK.out _ _ (KS.out _ (by repeat(first|exact Fr.refl NoF _|exact HF6.out|exact HF5.out|apply Fr.drew|apply Fr.alloc))) (fun hS=>?_);clear hK K
       try simp only[Act.put,List.setIfInBounds_toArray,List.set_cons_zero,List.set_cons_succ]
       refine wpAnyH_ready (rs:=[15]) (by kernel_rfl) (by simp) ?_;refine AllReadyH.cons rfl (fun K hK=>?_) ?_
       .refine appSB (base:=wV.heap.size) EIu5 rfl (.tmp 20) (.tmp 28) rfl (by rfl) (by rfl) (by first|omega|(simp;done)|(simp;omega)) (own_keep HO5.out (by repeat(first|exact Fr.refl NoF _|apply Fr.drew|apply Fr.alloc)) (fun _ _ q=>q)) (by first|exact SlC.ofOwn (own_new (w0:=w5) (Nat.le_refl _) #[.int .u32 (x:Nat)] 35 1 1 _ rfl rfl (by unfold maxLen;omega)) (by simp[Value.oneCell'])|exact SlC.keep (HX5.out _ (HXN.out _ _ ⟨_,(by repeat(first|exact Fr.refl NoF _|apply Fr.drew|apply Fr.alloc)),by first|rfl|simp,(by repeat(first|exact Fr.refl NoF _|apply Fr.drew|apply Fr.alloc))⟩) (fun b e1 e2=>by simp[Value.ownBlock]at e1 e2;omega)) (by repeat(first|exact Fr.refl NoF _|apply Fr.drew|apply Fr.alloc))) (by unfold maxLen;omega) (by omega) ?_;intro v6 w6 hown6 hf6 hob6;obtain⟨a6,c6',rfl,_,_⟩:=(SlC.ofOwn hown6 (by simp[Value.oneCell'];try grind)).shape;have HO6:=Lib.hid hown6;have HF6:=Lib.hid (Fr.trans (F:=NoF) (a:=wV) (by exact HF5.out.trans (by repeat(first|exact Fr.refl NoF _|apply Fr.drew|apply Fr.alloc)) (by intro _ q;exact False.elim q)) hf6 (fun i q=>.inr (ownBlock_own HO5.out i q)));obtain⟨y1,y2,y3,y4,y5,y6⟩:=KC.out w6 HF6.out;clear hown6 hf6 hob6
        refine hK.out _ _ (KS.out _ (by repeat(first|exact Fr.refl NoF _|exact HF6.out|exact HF5.out|apply Fr.drew|apply Fr.alloc))) (fun hS=>?_);clear hK K
        try simp only[Act.put,List.setIfInBounds_toArray,List.set_cons_zero,List.set_cons_succ]
        refine wpAnyH_take (i:=16) (v:=?_) rfl (by decide+kernel) (by decide+kernel) (by decide+kernel) (fun _ _ _ h=>h) (Or.inl ⟨by rfl,?_⟩) hS ?_
        rotate_left
        .intro wS hSw;(try dsimp only at hSw);go_simp
         try with_reducible rfl
        try simp only[Act.put,List.setIfInBounds_toArray,List.set_cons_zero,List.set_cons_succ]
        refine wpAnyH_take (i:=17) (v:=?_) rfl (by decide+kernel) (by decide+kernel) (by decide+kernel) (fun _ _ _ h=>h) (Or.inl ⟨by rfl,?_⟩) hS ?_
        rotate_left
        .intro wS hSw;(try dsimp only at hSw);go_simp
         try with_reducible rfl
        try simp only[Act.put,List.setIfInBounds_toArray,List.set_cons_zero,List.set_cons_succ]
        refine wpAnyH_done (by kernel_rfl) ?_ _
        show wpList _ _ _ _ _ _
        go_wp2_with fail
        go_meet
        exact⟨rfl,⟨_,(FIN.out _ _ HO6.out HF6.out).fr0 (by repeat(first|exact Fr.refl NoF _|apply Fr.drew|apply Fr.drewN))⟩⟩
       exact AllReadyH.nil
      exact AllReadyH.nil
     refine AllReadyH.cons rfl (fun K hK=>?_) ?_
     .go_simp
      refine hK.out _ _ (KS.out _ (by repeat(first|exact Fr.refl NoF _|exact HF6.out|exact HF5.out|apply Fr.drew|apply Fr.alloc))) (fun hS=>?_);clear hK K
      try simp only[Act.put,List.setIfInBounds_toArray,List.set_cons_zero,List.set_cons_succ]
      refine wpAnyH_ready (rs:=[6]) (by kernel_rfl) (by simp) ?_;refine AllReadyH.cons rfl (fun K hK=>?_) ?_
      .refine appSB (base:=wV.heap.size) EIu5 rfl (.tmp 15) (.tmp 19) rfl (by rfl) (by rfl) (by first|omega|(simp;done)|(simp;omega)) (HOW.out _ _ ⟨_,(by repeat(first|exact Fr.refl NoF _|apply Fr.drew|apply Fr.alloc)),by first|rfl|simp,(by repeat(first|exact Fr.refl NoF _|apply Fr.drew|apply Fr.alloc))⟩) (H7.out _ (by repeat(first|exact Fr.refl NoF _|apply Fr.drew|apply Fr.alloc))) (by unfold maxLen;omega) (by omega) ?_;intro v5 w5 hown5 hf5 hob5;rw[Nat.zero_add,List.nil_append]at hown5;obtain⟨a5,c5,rfl,_,_⟩:=(SlC.ofOwn hown5 (by simp[Value.oneCell'])).shape;have HX5:=Lib.hid (fun(g:Nat) (h1:SlC _ 1 (.slice (some ⟨g,0,none⟩) 1 1) 1 [.int .u32 (x:Nat)]) h2=>SlC.fr h1 hf5 h2);have HO5:=Lib.hid hown5;have HF5:=Lib.hid (Fr.trans (F:=NoF) (a:=wV) (by repeat(first|exact Fr.refl NoF _|apply Fr.drew|apply Fr.alloc)) hf5 (fun i q=>.inr (by cases q;first|exact Nat.le_refl _|(simp;done)|(simp;omega))));obtain⟨x1,x2,x3,x4,x5,x6⟩:=KC.out w5 HF5.out;have hs5:=HF5.out.size;clear hown5 hf5 hob5
       refine hK.out _ _ (KS.out _ (by repeat(first|exact Fr.refl NoF _|exact HF6.out|exact HF5.out|apply Fr.drew|apply Fr.alloc))) (fun hS=>?_);clear hK K
       try simp only[Act.put,List.setIfInBounds_toArray,List.set_cons_zero,List.set_cons_succ]
       refine wpAnyH_ready (rs:=[15]) (by kernel_rfl) (by simp) ?_;refine AllReadyH.cons rfl (fun K hK=>?_) ?_
       .refine appSB (base:=wV.heap.size) EIu5 rfl (.tmp 20) (.tmp 28) rfl (by rfl) (by rfl) (by first|omega|(simp;done)|(simp;omega)) (own_keep HO5.out (by repeat(first|exact Fr.refl NoF _|apply Fr.drew|apply Fr.alloc)) (fun _ _ q=>q)) (by first|exact SlC.ofOwn (own_new (w0:=w5) (Nat.le_refl _) #[.int .u32 (x:Nat)] 35 1 1 _ rfl rfl (by unfold maxLen;omega)) (by simp[Value.oneCell'])|exact SlC.keep (HX5.out _ (HXN.out _ _ ⟨_,(by repeat(first|exact Fr.refl NoF _|apply Fr.drew|apply Fr.alloc)),by first|rfl|simp,(by repeat(first|exact Fr.refl NoF _|apply Fr.drew|apply Fr.alloc))⟩) (fun b e1 e2=>by simp[Value.ownBlock]at e1 e2;omega)) (by repeat(first|exact Fr.refl NoF _|apply Fr.drew|apply Fr.alloc))) (by unfold maxLen;omega) (by omega) ?_;intro v6 w6 hown6 hf6 hob6;obtain⟨a6,c6',rfl,_,_⟩:=(SlC.ofOwn hown6 (by simp[Value.oneCell'];try grind)).shape;have HO6:=Lib.hid hown6;have HF6:=Lib.hid (Fr.trans (F:=NoF) (a:=wV) (by exact HF5.out.trans (by repeat(first|exact Fr.refl NoF _|apply Fr.drew|apply Fr.alloc)) (by intro _ q;exact False.elim q)) hf6 (fun i q=>.inr (ownBlock_own HO5.out i q)));obtain⟨y1,y2,y3,y4,y5,y6⟩:=KC.out w6 HF6.out;clear hown6 hf6 hob6
        refine hK.out _ _ (KS.out _ (by repeat(first|exact Fr.refl NoF _|exact HF6.out|exact HF5.out|apply Fr.drew|apply Fr.alloc))) (fun hS=>?_);clear hK K
        try simp only[Act.put,List.setIfInBounds_toArray,List.set_cons_zero,List.set_cons_succ]
        refine wpAnyH_take (i:=16) (v:=?_) rfl (by decide+kernel) (by decide+kernel) (by decide+kernel) (fun _ _ _ h=>h) (Or.inl ⟨by rfl,?_⟩) hS ?_
        rotate_left
        .intro wS hSw;(try dsimp only at hSw);go_simp
         try with_reducible rfl
        try simp only[Act.put,List.setIfInBounds_toArray,List.set_cons_zero,List.set_cons_succ]
        refine wpAnyH_take (i:=17) (v:=?_) rfl (by decide+kernel) (by decide+kernel) (by decide+kernel) (fun _ _ _ h=>h) (Or.inl ⟨by rfl,?_⟩) hS ?_
        rotate_left
        .intro wS hSw;(try dsimp only at hSw);go_simp
         try with_reducible rfl
        try simp only[Act.put,List.setIfInBounds_toArray,List.set_cons_zero,List.set_cons_succ]
        refine wpAnyH_done (by kernel_rfl) ?_ _
        show wpList _ _ _ _ _ _
        go_wp2_with fail
        go_meet
        exact⟨rfl,⟨_,(FIN.out _ _ HO6.out HF6.out).fr0 (by repeat(first|exact Fr.refl NoF _|apply Fr.drew|apply Fr.drewN))⟩⟩
       exact AllReadyH.nil
      exact AllReadyH.nil
     exact AllReadyH.nil
    refine AllReadyH.cons rfl (fun K hK=>?_) ?_
    .go_simp
     refine hK.out _ _ (KS.out _ (by repeat(first|exact Fr.refl NoF _|exact HF6.out|exact HF5.out|apply Fr.drew|apply Fr.alloc))) (fun hS=>?_);clear hK K
     try simp only[Act.put,List.setIfInBounds_toArray,List.set_cons_zero,List.set_cons_succ]
     refine wpAnyH_ready (rs:=[1]) (by kernel_rfl) (by simp) ?_;refine AllReadyH.cons rfl (fun K hK=>?_) ?_
     .go_simp
      refine hK.out _ _ (KS.out _ (by repeat(first|exact Fr.refl NoF _|exact HF6.out|exact HF5.out|apply Fr.drew|apply Fr.alloc))) (fun hS=>?_);clear hK K
      try simp only[Act.put,List.setIfInBounds_toArray,List.set_cons_zero,List.set_cons_succ]
      refine wpAnyH_ready (rs:=[6]) (by kernel_rfl) (by simp) ?_;refine AllReadyH.cons rfl (fun K hK=>?_) ?_
      .refine appSB (base:=wV.heap.size) EIu5 rfl (.tmp 15) (.tmp 19) rfl (by rfl) (by rfl) (by first|omega|(simp;done)|(simp;omega)) (HOW.out _ _ ⟨_,(by repeat(first|exact Fr.refl NoF _|apply Fr.drew|apply Fr.alloc)),by first|rfl|simp,(by repeat(first|exact Fr.refl NoF _|apply Fr.drew|apply Fr.alloc))⟩) (H7.out _ (by repeat(first|exact Fr.refl NoF _|apply Fr.drew|apply Fr.alloc))) (by unfold maxLen;omega) (by omega) ?_;intro v5 w5 hown5 hf5 hob5;rw[Nat.zero_add,List.nil_append]at hown5;obtain⟨a5,c5,rfl,_,_⟩:=(SlC.ofOwn hown5 (by simp[Value.oneCell'])).shape;have HX5:=Lib.hid (fun(g:Nat) (h1:SlC _ 1 (.slice (some ⟨g,0,none⟩) 1 1) 1 [.int .u32 (x:Nat)]) h2=>SlC.fr h1 hf5 h2);have HO5:=Lib.hid hown5;have HF5:=Lib.hid (Fr.trans (F:=NoF) (a:=wV) (by repeat(first|exact Fr.refl NoF _|apply Fr.drew|apply Fr.alloc)) hf5 (fun i q=>.inr (by cases q;first|exact Nat.le_refl _|(simp;done)|(simp;omega))));obtain⟨x1,x2,x3,x4,x5,x6⟩:=KC.out w5 HF5.out;have hs5:=HF5.out.size;clear hown5 hf5 hob5
       refine hK.out _ _ (KS.out _ (by repeat(first|exact Fr.refl NoF _|exact HF6.out|exact HF5.out|apply Fr.drew|apply Fr.alloc))) (fun hS=>?_);clear hK K
       try simp only[Act.put,List.setIfInBounds_toArray,List.set_cons_zero,List.set_cons_succ]
       refine wpAnyH_ready (rs:=[15]) (by kernel_rfl) (by simp) ?_;refine AllReadyH.cons rfl (fun K hK=>?_) ?_
       .refine appSB (base:=wV.heap.size) EIu5 rfl (.tmp 20) (.tmp 28) rfl (by rfl) (by rfl) (by first|omega|(simp;done)|(simp;omega)) (own_keep HO5.out (by repeat(first|exact Fr.refl NoF _|apply Fr.drew|apply Fr.alloc)) (fun _ _ q=>q)) (by first|exact SlC.ofOwn (own_new (w0:=w5) (Nat.le_refl _) #[.int .u32 (x:Nat)] 35 1 1 _ rfl rfl (by unfold maxLen;omega)) (by simp[Value.oneCell'])|exact SlC.keep (HX5.out _ (HXN.out _ _ ⟨_,(by repeat(first|exact Fr.refl NoF _|apply Fr.drew|apply Fr.alloc)),by first|rfl|simp,(by repeat(first|exact Fr.refl NoF _|apply Fr.drew|apply Fr.alloc))⟩) (fun b e1 e2=>by simp[Value.ownBlock]at e1 e2;omega)) (by repeat(first|exact Fr.refl NoF _|apply Fr.drew|apply Fr.alloc))) (by unfold maxLen;omega) (by omega) ?_;intro v6 w6 hown6 hf6 hob6;obtain⟨a6,c6',rfl,_,_⟩:=(SlC.ofOwn hown6 (by simp[Value.oneCell'];try grind)).shape;have HO6:=Lib.hid hown6;have HF6:=Lib.hid (Fr.trans (F:=NoF) (a:=wV) (by exact HF5.out.trans (by repeat(first|exact Fr.refl NoF _|apply Fr.drew|apply Fr.alloc)) (by intro _ q;exact False.elim q)) hf6 (fun i q=>.inr (ownBlock_own HO5.out i q)));obtain⟨y1,y2,y3,y4,y5,y6⟩:=KC.out w6 HF6.out;clear hown6 hf6 hob6
        refine hK.out _ _ (KS.out _ (by repeat(first|exact Fr.refl NoF _|exact HF6.out|exact HF5.out|apply Fr.drew|apply Fr.alloc))) (fun hS=>?_);clear hK K
        try simp only[Act.put,List.setIfInBounds_toArray,List.set_cons_zero,List.set_cons_succ]
        refine wpAnyH_take (i:=16) (v:=?_) rfl (by decide+kernel) (by decide+kernel) (by decide+kernel) (fun _ _ _ h=>h) (Or.inl ⟨by rfl,?_⟩) hS ?_
        rotate_left
        .intro wS hSw;(try dsimp only at hSw);go_simp
         try with_reducible rfl
        try simp only[Act.put,List.setIfInBounds_toArray,List.set_cons_zero,List.set_cons_succ]
        refine wpAnyH_take (i:=17) (v:=?_) rfl (by decide+kernel) (by decide+kernel) (by decide+kernel) (fun _ _ _ h=>h) (Or.inl ⟨by rfl,?_⟩) hS ?_
        rotate_left
        .intro wS hSw;(try dsimp only at hSw);go_simp
         try with_reducible rfl
        try simp only[Act.put,List.setIfInBounds_toArray,List.set_cons_zero,List.set_cons_succ]
        refine wpAnyH_done (by kernel_rfl) ?_ _
        show wpList _ _ _ _ _ _
        go_wp2_with fail
        go_meet
        exact⟨rfl,⟨_,(FIN.out _ _ HO6.out HF6.out).fr0 (by repeat(first|exact Fr.refl NoF _|apply Fr.drew|apply Fr.drewN))⟩⟩
       exact AllReadyH.nil
      exact AllReadyH.nil
     exact AllReadyH.nil
    exact AllReadyH.nil
  case rest=>
   obtain⟨rfl,hc1,hp1⟩:=hcut;clear H7 HOW HXN KC KS FIN HS7 E7 c7 c4 cp lp lg;have c4:=hp1.m.g.c 4 (by omega) hp1.m.c4;have c5:=hp1.m.g.c 5 (by omega) hp1.m.c5;have cp:=hp1.m.g.cp hfn;have co:=hp1.m.g.co hfn;have fp:=hp1.m.g.pg.frozen f;have fo:=hp1.m.g.on.frozen f;have lg:=hp1.m.g.pg.lt;have lo:=hp1.m.g.on.lt;have lp:=hp1.m.g.hd.lt;have d1:=hp1.m.g.d1;have d2:=hp1.m.g.d2;have d3:=hp1.m.g.d3;have d1':¬gb=pb:=fun e=>d1 e.symm
   have d2':¬ob=pb:=fun e=>d2 e.symm
   have d3':¬ob=gb:=fun e=>d3 e.symm
   have KEY:Hid (∀W,Fr NoF ((wc.setCell ⟨gb,f,none⟩ (.int .u32 0)).setCell ⟨ob,f,none⟩ (.bool false)) W->FinR w pb gb ob n K near kept hc s pv ⟨s.page.set f 0,upd s.on f false,s.ps,s.old++[x],s.T⟩ W):=by
    intro W q;exact⟨hc1,((hp1.setPage hfn 0).setOn f false).fr0 q⟩
   clear hp1;simp only at cp co;generalize List.getD _ f 0=y1 at cp;generalize s.on f=y2 at co
   go_upto_region 6 with fail
   go_cut [5] (fun s5 wx=>s5=.int .i64 f∧FinR w pb gb ob n K near kept hc s pv ⟨s.page.set f 0,upd s.on f false,s.ps,s.old++[x],s.T⟩ wx)
   case first=>
    as_aux_lemma=>
     go_region
     all_goals
      go_wp2_with fail
      go_meet
      exact⟨rfl,KEY.out _ (by repeat(first|exact Fr.refl NoF _|apply Fr.drew|apply Fr.drewN))⟩
   case rest=>
    obtain⟨rfl,hc2,hp2⟩:=hcut;clear KEY c4 c5 cp co fp fo lg lo lp d1 d2 d3 d1' d2' d3';have hol:(s.old++[x]).length=s.old.length+1:=by simp
    have hx0:0<(s.old++[x]).length:=by omega
    obtain⟨a8,c8,e8,r1,r2,hs8,hb8⟩:=hp2.m.g.row (i:=7) (k:=.u32) (l:=s.old++[x]) rfl;obtain⟨b8,o8,c8',e9,_,_,lb8,cel⟩:=hs8.at hx0;simp only[Value.slice.injEq]at e9;obtain⟨rfl,_,rfl⟩:=e9;rw[hol]at e8;have g7:=hp2.m.g.c 7 (by omega) e8;have g3:=hp2.m.g.c 3 (by omega) hp2.m.c3;have gl:=hp2.m.g.hd.lt
    have cel':wc.cell? ⟨b8,o8,none⟩=some (.int .u32 ((s.old++[x]).getD 0 0:Nat)):=by
     rw[List.getD_eq_getElem?_getD,List.getElem?_eq_getElem hx0];exact cel
    by_cases hlt:kept<s.old.length+1
    .have dlt:decide ((kept:Int)<(s.old.length:Int)+1)=true:=by simp;omega
     have hpl:pv.length<100000:=by have e:=hp2.m.pl;have:=HI.out.len;rw[<-e];show s.ps.length<_;omega
     have HF:Hid (∀W,Fr NoF wc W->Calls Try.prog 43 #[.pointer (some ⟨pb,0,none⟩),.int .u32 ((s.old++[x]).getD 0 0:Nat)] W fun e w'=>e=.returned (.tuple #[])∧Res5 w pb gb ob n K near kept hc s pv ⟨s.page.set f 0,upd s.on f false,dropP s.ps ((s.old++[x]).getD 0 0),s.old++[x],s.T⟩ w'):=fun W q=>(s5_forget (hp2.fr0 q).m hpl HI.out.one ((s.old++[x]).getD 0 0)).mono fun e w' ⟨he,hc3,pv3,hp3⟩=>⟨he,hc3,pv3,(hp2.fr0 q).trans hp3⟩
     have FE:Hid (s.gone kept f=⟨s.page.set f 0,upd s.on f false,dropP s.ps ((s.old++[x]).getD 0 0),(s.old++[x]).drop 1,s.T⟩):=by
      unfold Hid S5.gone;rw[HX.out,if_pos hlt,if_pos hlt]
     generalize hz:(s.old++[x]).getD 0 0=z at*;generalize hol2:s.old++[x]=OL at*;have HZ:=Lib.hid hz;have HOL:=Lib.hid hol;clear hz hol2 hp2 cel e8 hlt hs8 hb8 hx0;generalize s.old.length=L at*;go_wp2
     go_quiet (fail)
     go_wp2_with fail
     refine(HF.out _ (by repeat(first|exact Fr.refl NoF _|apply Fr.drewN|apply Fr.drew))).mono ?_;rintro e w3⟨rfl,hc3,pv3,hp3⟩;obtain⟨a9,c9,e9,u1,u2,hs9,_⟩:=hp3.m.g.row (i:=7) (k:=.u32) (l:=OL) rfl;have hx1:0<OL.length:=by rw[HOL.out];omega
     obtain⟨b9,o9,c9',e10,_,_,lb9,hce9⟩:=hs9.at hx1;clear hce9;simp only[Value.slice.injEq]at e10;obtain⟨rfl,_,rfl⟩:=e10;obtain⟨k1,k2⟩:=hp3.cutOld e9 (by show 1<=OL.length;omega);have K1:=Lib.hid k1;have K2:=Lib.hid k2;have hl3:OL.length=L+1:=HOL.out;have j7:=hp3.m.g.c 7 (by omega) e9;have jf:=hp3.m.g.hd.frozen 7;have jl:=hp3.m.g.hd.lt;rw[hl3]at j7 u1;have HL3:=Lib.hid hl3;clear hp3 e9 k1 k2 hs9 hl3 g7 g3 gl cel' hx1 dlt;by_cases h1:c9=1
     .obtain rfl:L=0:=by omega
      have K3:Hid (P5 w (F5 pb gb ob hc) (D5 pb gb ob hc s pv) pb gb ob n K near kept (w3.setCell ⟨pb,7,none⟩ (.slice (some ⟨b9,o9,none⟩) 0 0)) (upd hc3 7 (.slice (some ⟨b9,o9,none⟩) 0 0)) ⟨s.page.set f 0,upd s.on f false,dropP s.ps z,OL.drop 1,s.T⟩ pv3):=K1.out h1;subst h1;clear K1 K2;go_wp2;go_returns;refine⟨rfl,?_⟩;rw[FE.out];exact⟨_,_,K3.out⟩
     .have K3:Hid (P5 w (F5 pb gb ob hc) (D5 pb gb ob hc s pv) pb gb ob n K near kept (w3.setCell ⟨pb,7,none⟩ (.slice (some ⟨b9,o9+1,none⟩) L (c9-1))) (upd hc3 7 (.slice (some ⟨b9,o9+1,none⟩) L (c9-1))) ⟨s.page.set f 0,upd s.on f false,dropP s.ps z,OL.drop 1,s.T⟩ pv3):=by
       have:=K2.out h1;rw[HL3.out,Nat.add_sub_cancel]at this;exact this
      clear K1 K2;go_wp2;go_returns;refine⟨rfl,?_⟩;rw[FE.out];exact⟨_,_,K3.out⟩
    .have dlt:decide ((kept:Int)<(s.old.length:Int)+1)=false:=by simp;omega
     have FE:Hid (∀W,Fr NoF wc W->Res5 w pb gb ob n K near kept hc s pv (s.gone kept f) W):=by
      intro W q
      have e:s.gone kept f=⟨s.page.set f 0,upd s.on f false,s.ps,s.old++[x],s.T⟩:=by
       unfold S5.gone;rw[HX.out,if_neg hlt,if_neg hlt]
      rw[e];exact⟨_,_,hp2.fr0 q⟩
     clear hp2 cel e8 hlt hs8 hb8 hx0 cel' hol;generalize s.old.length=L at*;go_wp2
     go_quiet (fail)
     go_wp2;go_returns;exact⟨rfl,FE.out _ (by repeat(first|exact Fr.refl NoF _|apply Fr.drewN|apply Fr.drew))⟩
 .replace HA:=Lib.hid HA
  replace HB:=Lib.hid HB
  go_enter Try.func22,Try.ntmps22
  go_wp2_with fail
  refine HA.out.mono ?_;rintro e w1⟨rfl,hf1⟩;have HF1:=Lib.hid hf1;clear hf1 HA
  go_wp2_with fail
  refine(HB.out _ HF1.out).mono ?_;rintro e wV⟨rfl,hf2⟩;have hfV:=HF1.out.trans hf2 (fun _ q=>q.elim);have HFV:=Lib.hid hfV;have HMV:=Lib.hid (HM.out.fr0 hfV);clear hfV hf2 HF1 HB;obtain⟨a7,k7,e7,q5,q6,hs7,hb7⟩:=HMV.out.g.row (i:=7) (k:=.u32) (l:=s.old) rfl;have c7:=HMV.out.g.c 7 (by omega) e7;have c4:=HMV.out.g.c 4 (by omega) HMV.out.c4;have cp:wV.cell? ⟨gb,f,none⟩=some (.int .u32 (s.pg f:Nat)):=HMV.out.g.cp hfn;have lp:=HMV.out.g.hd.lt;have lg:=HMV.out.g.pg.lt;generalize hx:s.pg f=x at*;have HX:=Lib.hid hx;have HS7:=Lib.hid hs7;have E7:=Lib.hid e7;clear hx hs7 hb7 e7;have H7:Hid (∀W,Fr NoF wV W->SlK .u32 W (.slice a7 s.old.length k7) s.old):=fun W f=>HS7.out.keep f
  have HOW:Hid (∀W g,(∃Wa,Fr NoF (Wa.alloc (.cells #[] 35)) W∧g=Wa.heap.size∧Fr NoF wV Wa)->W.ownsRow wV.heap.size 35 1 (.slice (some ⟨g,0,none⟩) 0 0) 0 []):=fun W g ⟨Wa,f2,e,f1⟩=>own_keep (own_new (w0:=wV) f1.size #[] 35 1 0 g e rfl (by unfold maxLen;omega)) f2 (fun _ _ q=>q)
  have HXN:Hid (∀W g,(∃Wa,Fr NoF (Wa.alloc (.cells #[.int .u32 (x:Nat)] 35)) W∧g=Wa.heap.size∧Fr NoF wV Wa)->SlC W 1 (.slice (some ⟨g,0,none⟩) 1 1) 1 [.int .u32 (x:Nat)]):=fun W g ⟨Wa,f2,e,f1⟩=>(SlC.ofOwn (own_new (w0:=wV) f1.size #[.int .u32 (x:Nat)] 35 1 1 g e rfl (by unfold maxLen;omega)) (by simp[Value.oneCell'])).keep f2
  have KC:Hid (∀W,Fr NoF wV W->W.cell? ⟨pb,7,none⟩=some (.slice a7 s.old.length k7)∧W.cell? ⟨pb,4,none⟩=some (.slice (some ⟨gb,0,none⟩) n n)∧W.cell? ⟨gb,f,none⟩=some (.int .u32 (x:Nat))∧W.frozen? ⟨pb,7,none⟩=false∧pb<W.heap.size∧gb<W.heap.size):=fun W q=>by
   have hq:=HMV.out.fr0 q;have e7:hc 7=_:=E7.out;exact⟨hq.g.c 7 (by omega) e7,hq.g.c 4 (by omega) hq.c4,by have:=hq.g.cp hfn;rw[show s.page.getD f 0=x from HX.out]at this;exact this,hq.g.hd.frozen 7,hq.g.hd.lt,hq.g.pg.lt⟩
  have KS:Hid (∀W,Fr NoF wV W->W.cell? ⟨pb,7,none⟩=some (.slice a7 s.old.length k7)∧W.cell? ⟨pb,4,none⟩=some (.slice (some ⟨gb,0,none⟩) n n)∧W.cell? ⟨gb,f,none⟩=some (.int .u32 (x:Nat))):=fun W q=>⟨(KC.out W q).1,(KC.out W q).2.1,(KC.out W q).2.2.1⟩
  have FIN:Hid (∀w6 v6,w6.ownsRow wV.heap.size 35 1 v6 (s.old.length+1) ((s.old.map fun(y:Nat)=>Value.int .u32 (y:Int))++[.int .u32 (x:Nat)])->Fr NoF wV w6->P5 w (F5 pb gb ob hc) (D5 pb gb ob hc s pv) pb gb ob n K near kept (w6.setCell ⟨pb,7,none⟩ v6) (upd hc 7 v6) ⟨s.page,s.on,s.ps,s.old++[x],s.T⟩ pv):=by
   intro w6 v6 hown q;have hl:(s.old++[x]).length=s.old.length+1:=by simp
   have hk:OwK .u32 wV.heap.size 35 w6 v6 (s.old++[x]):=by
    unfold OwK;rw[hl,List.map_append];exact hown
   have hfr:=HFV.out.trans q (fun _ r=>r.elim);have hp:=((P5.start HM.out).fr0 hfr).setOld hk.sl (fun b e=>.inl ⟨Nat.le_trans HFV.out.size (hk.base b e),fun r=>by have:=HMV.out.lt b r;have:=hk.base b e;omega⟩);exact hp
  go_upto_region 5 with fail
  go_cut [5] (fun s5 wx=>s5=.int .i64 f∧FinR w pb gb ob n K near kept hc s pv ⟨s.page,s.on,s.ps,s.old++[x],s.T⟩ wx)
  case first=>
    refine region_tail (fun w'=>w'.cell? ⟨pb,7,none⟩=some (.slice a7 s.old.length k7)∧w'.cell? ⟨pb,4,none⟩=some (.slice (some ⟨gb,0,none⟩) n n)∧w'.cell? ⟨gb,f,none⟩=some (.int .u32 (x:Nat))) 18 (by kernel_rfl) rfl rfl (by kernel_rfl) ?_;simp only[List.take_succ_cons,List.take_zero];have hS:(fun w'=>w'.cell? ⟨pb,7,none⟩=some (.slice a7 s.old.length k7)∧w'.cell? ⟨pb,4,none⟩=some (.slice (some ⟨gb,0,none⟩) n n)∧w'.cell? ⟨gb,f,none⟩=some (.int .u32 (x:Nat))) wV.drew:=⟨c7,c4,cp⟩;refine wpAnyH_take (i:=0) (v:=?_) rfl (by decide+kernel) (by decide+kernel) (by decide+kernel) (fun _ _ _ h=>h) (Or.inl ⟨by rfl,?_⟩) hS ?_
    rotate_left
    .intro wS hSw;(try dsimp only at hSw);go_simp
     try with_reducible rfl
    try simp only[Act.put,List.setIfInBounds_toArray,List.set_cons_zero,List.set_cons_succ]
    refine wpAnyH_take (i:=2) (v:=?_) rfl (by decide+kernel) (by decide+kernel) (by decide+kernel) (fun _ _ _ h=>h) (Or.inl ⟨by rfl,?_⟩) hS ?_
    rotate_left
    .intro wS hSw;(try dsimp only at hSw);go_simp
     try with_reducible rfl
    try simp only[Act.put,List.setIfInBounds_toArray,List.set_cons_zero,List.set_cons_succ]
    refine wpAnyH_take (i:=3) (v:=?_) rfl (by decide+kernel) (by decide+kernel) (by decide+kernel) (fun _ _ _ h=>h) (Or.inl ⟨by rfl,?_⟩) hS ?_
    rotate_left
    .intro wS hSw;(try dsimp only at hSw);go_simp
     try with_reducible rfl
    try simp only[Act.put,List.setIfInBounds_toArray,List.set_cons_zero,List.set_cons_succ]
    refine wpAnyH_take (i:=4) (v:=?_) rfl (by decide+kernel) (by decide+kernel) (by decide+kernel) (fun _ _ _ h=>h) (Or.inl ⟨by rfl,?_⟩) hS ?_
    rotate_left
    .intro wS hSw;(try dsimp only at hSw);go_simp
     try with_reducible rfl
    try simp only[Act.put,List.setIfInBounds_toArray,List.set_cons_zero,List.set_cons_succ]
    refine wpAnyH_take (i:=5) (v:=?_) rfl (by decide+kernel) (by decide+kernel) (by decide+kernel) (fun _ _ _ h=>h) (Or.inl ⟨by rfl,?_⟩) hS ?_
    rotate_left
    .intro wS hSw;(try dsimp only at hSw);go_simp
     try with_reducible rfl
    try simp only[Act.put,List.setIfInBounds_toArray,List.set_cons_zero,List.set_cons_succ]
    refine wpAnyH_take (i:=7) (v:=?_) rfl (by decide+kernel) (by decide+kernel) (by decide+kernel) (fun _ _ _ h=>h) (Or.inl ⟨by rfl,?_⟩) hS ?_
    rotate_left
    .intro wS hSw;(try dsimp only at hSw);go_simp
     try with_reducible rfl
    try simp only[Act.put,List.setIfInBounds_toArray,List.set_cons_zero,List.set_cons_succ]
    refine wpAnyH_take (i:=8) (v:=?_) rfl (by decide+kernel) (by decide+kernel) (by decide+kernel) (fun _ _ _ h=>h) (Or.inl ⟨by rfl,?_⟩) hS ?_
    rotate_left
    .intro wS hSw;(try dsimp only at hSw);go_simp
     try with_reducible rfl
    try simp only[Act.put,List.setIfInBounds_toArray,List.set_cons_zero,List.set_cons_succ]
    refine wpAnyH_take (i:=9) (v:=?_) rfl (by decide+kernel) (by decide+kernel) (by decide+kernel) (fun _ _ _ h=>h) (Or.inl ⟨by rfl,?_⟩) hS ?_
    rotate_left
    .intro wS hSw;(try dsimp only at hSw);go_simp
     try with_reducible rfl
    try simp only[Act.put,List.setIfInBounds_toArray,List.set_cons_zero,List.set_cons_succ]
    refine wpAnyH_take (i:=10) (v:=?_) rfl (by decide+kernel) (by decide+kernel) (by decide+kernel) (fun _ _ _ h=>h) (Or.inl ⟨by rfl,?_⟩) hS ?_
    rotate_left
    .intro wS hSw;(try dsimp only at hSw);go_simp
     try with_reducible rfl
    try simp only[Act.put,List.setIfInBounds_toArray,List.set_cons_zero,List.set_cons_succ]
    refine wpAnyH_take (i:=11) (v:=?_) rfl (by decide+kernel) (by decide+kernel) (by decide+kernel) (fun _ _ _ h=>h) (Or.inl ⟨by rfl,?_⟩) hS ?_
    rotate_left
    .intro wS hSw;(try dsimp only at hSw);go_simp
     try with_reducible rfl
    try simp only[Act.put,List.setIfInBounds_toArray,List.set_cons_zero,List.set_cons_succ]
    refine wpAnyH_take (i:=12) (v:=?_) rfl (by decide+kernel) (by decide+kernel) (by decide+kernel) (fun _ _ _ h=>h) (Or.inl ⟨by rfl,?_⟩) hS ?_
    rotate_left
    .intro wS hSw;(try dsimp only at hSw);go_simp
     try with_reducible rfl
    try simp only[Act.put,List.setIfInBounds_toArray,List.set_cons_zero,List.set_cons_succ]
    refine wpAnyH_take (i:=13) (v:=?_) rfl (by decide+kernel) (by decide+kernel) (by decide+kernel) (fun _ _ _ h=>h) (Or.inl ⟨by rfl,?_⟩) hS ?_
    rotate_left
    .intro wS hSw;(try dsimp only at hSw);go_simp
     try with_reducible rfl
    try simp only[Act.put,List.setIfInBounds_toArray,List.set_cons_zero,List.set_cons_succ]
    clear hS;refine wpAnyH_ready (rs:=[1,14]) (by kernel_rfl) (by simp) ?_;refine AllReadyH.cons rfl (fun K hK=>?_) ?_
    .go_simp
     refine hK.out _ _ (KS.out _ (by repeat(first|exact Fr.refl NoF _|exact HF6.out|exact HF5.out|apply Fr.drew|apply Fr.alloc))) (fun hS=>?_);clear hK K
     try simp only[Act.put,List.setIfInBounds_toArray,List.set_cons_zero,List.set_cons_succ]
     refine wpAnyH_ready (rs:=[6,14]) (by kernel_rfl) (by simp) ?_;refine AllReadyH.cons rfl (fun K hK=>?_) ?_
     .refine appSB (base:=wV.heap.size) EIu5 rfl (.tmp 15) (.tmp 19) rfl (by rfl) (by rfl) (by first|omega|(simp;done)|(simp;omega)) (HOW.out _ _ ⟨_,(by repeat(first|exact Fr.refl NoF _|apply Fr.drew|apply Fr.alloc)),by first|rfl|simp,(by repeat(first|exact Fr.refl NoF _|apply Fr.drew|apply Fr.alloc))⟩) (H7.out _ (by repeat(first|exact Fr.refl NoF _|apply Fr.drew|apply Fr.alloc))) (by unfold maxLen;omega) (by omega) ?_;intro v5 w5 hown5 hf5 hob5;rw[Nat.zero_add,List.nil_append]at hown5;obtain⟨a5,c5,rfl,_,_⟩:=(SlC.ofOwn hown5 (by simp[Value.oneCell'])).shape;have HX5:=Lib.hid (fun(g:Nat) (h1:SlC _ 1 (.slice (some ⟨g,0,none⟩) 1 1) 1 [.int .u32 (x:Nat)]) h2=>SlC.fr h1 hf5 h2);have HO5:=Lib.hid hown5;have HF5:=Lib.hid (Fr.trans (F:=NoF) (a:=wV) (by repeat(first|exact Fr.refl NoF _|apply Fr.drew|apply Fr.alloc)) hf5 (fun i q=>.inr (by cases q;first|exact Nat.le_refl _|(simp;done)|(simp;omega))));obtain⟨x1,x2,x3,x4,x5,x6⟩:=KC.out w5 HF5.out;have hs5:=HF5.out.size;clear hown5 hf5 hob5
      refine hK.out _ _ (KS.out _ (by repeat(first|exact Fr.refl NoF _|exact HF6.out|exact HF5.out|apply Fr.drew|apply Fr.alloc))) (fun hS=>?_);clear hK K
      try simp only[Act.put,List.setIfInBounds_toArray,List.set_cons_zero,List.set_cons_succ]
      refine wpAnyH_ready (rs:=[14]) (by kernel_rfl) (by simp) ?_;refine AllReadyH.cons rfl (fun K hK=>?_) ?_
      .go_simp
       refine hK.out _ _ (KS.out _ (by repeat(first|exact Fr.refl NoF _|exact HF6.out|exact HF5.out|apply Fr.drew|apply Fr.alloc))) (fun hS=>?_);clear hK K
       try simp only[Act.put,List.setIfInBounds_toArray,List.set_cons_zero,List.set_cons_succ]
       refine wpAnyH_ready (rs:=[15]) (by kernel_rfl) (by simp) ?_;refine AllReadyH.cons rfl (fun K hK=>?_) ?_
       .refine appSB (base:=wV.heap.size) EIu5 rfl (.tmp 20) (.tmp 28) rfl (by rfl) (by rfl) (by first|omega|(simp;done)|(simp;omega)) (own_keep HO5.out (by repeat(first|exact Fr.refl NoF _|apply Fr.drew|apply Fr.alloc)) (fun _ _ q=>q)) (by first|exact SlC.ofOwn (own_new (w0:=w5) (Nat.le_refl _) #[.int .u32 (x:Nat)] 35 1 1 _ rfl rfl (by unfold maxLen;omega)) (by simp[Value.oneCell'])|exact SlC.keep (HX5.out _ (HXN.out _ _ ⟨_,(by repeat(first|exact Fr.refl NoF _|apply Fr.drew|apply Fr.alloc)),by first|rfl|simp,(by repeat(first|exact Fr.refl NoF _|apply Fr.drew|apply Fr.alloc))⟩) (fun b e1 e2=>by simp[Value.ownBlock]at e1 e2;omega)) (by repeat(first|exact Fr.refl NoF _|apply Fr.drew|apply Fr.alloc))) (by unfold maxLen;omega) (by omega) ?_;intro v6 w6 hown6 hf6 hob6;obtain⟨a6,c6',rfl,_,_⟩:=(SlC.ofOwn hown6 (by simp[Value.oneCell'];try grind)).shape;have HO6:=Lib.hid hown6;have HF6:=Lib.hid (Fr.trans (F:=NoF) (a:=wV) (by exact HF5.out.trans (by repeat(first|exact Fr.refl NoF _|apply Fr.drew|apply Fr.alloc)) (by intro _ q;exact False.elim q)) hf6 (fun i q=>.inr (ownBlock_own HO5.out i q)));obtain⟨y1,y2,y3,y4,y5,y6⟩:=KC.out w6 HF6.out;clear hown6 hf6 hob6
        refine hK.out _ _ (KS.out _ (by repeat(first|exact Fr.refl NoF _|exact HF6.out|exact HF5.out|apply Fr.drew|apply Fr.alloc))) (fun hS=>?_);clear hK K
        try simp only[Act.put,List.setIfInBounds_toArray,List.set_cons_zero,List.set_cons_succ]
        refine wpAnyH_take (i:=16) (v:=?_) rfl (by decide+kernel) (by decide+kernel) (by decide+kernel) (fun _ _ _ h=>h) (Or.inl ⟨by rfl,?_⟩) hS ?_
        rotate_left
        .intro wS hSw;(try dsimp only at hSw);go_simp
         try with_reducible rfl
        try simp only[Act.put,List.setIfInBounds_toArray,List.set_cons_zero,List.set_cons_succ]
        refine wpAnyH_take (i:=17) (v:=?_) rfl (by decide+kernel) (by decide+kernel) (by decide+kernel) (fun _ _ _ h=>h) (Or.inl ⟨by rfl,?_⟩) hS ?_
        rotate_left
        .intro wS hSw;(try dsimp only at hSw);go_simp
         try with_reducible rfl
        try simp only[Act.put,List.setIfInBounds_toArray,List.set_cons_zero,List.set_cons_succ]
        refine wpAnyH_done (by kernel_rfl) ?_ _
        show wpList _ _ _ _ _ _
        go_wp2_with fail
        go_meet
        exact⟨rfl,⟨_,(FIN.out _ _ HO6.out HF6.out).fr0 (by repeat(first|exact Fr.refl NoF _|apply Fr.drew|apply Fr.drewN))⟩⟩
       exact AllReadyH.nil
      exact AllReadyH.nil
     refine AllReadyH.cons rfl (fun K hK=>?_) ?_
     .go_simp
      refine hK.out _ _ (KS.out _ (by repeat(first|exact Fr.refl NoF _|exact HF6.out|exact HF5.out|apply Fr.drew|apply Fr.alloc))) (fun hS=>?_);clear hK K
      try simp only[Act.put,List.setIfInBounds_toArray,List.set_cons_zero,List.set_cons_succ]
      refine wpAnyH_ready (rs:=[6]) (by kernel_rfl) (by simp) ?_;refine AllReadyH.cons rfl (fun K hK=>?_) ?_
      .refine appSB (base:=wV.heap.size) EIu5 rfl (.tmp 15) (.tmp 19) rfl (by rfl) (by rfl) (by first|omega|(simp;done)|(simp;omega)) (HOW.out _ _ ⟨_,(by repeat(first|exact Fr.refl NoF _|apply Fr.drew|apply Fr.alloc)),by first|rfl|simp,(by repeat(first|exact Fr.refl NoF _|apply Fr.drew|apply Fr.alloc))⟩) (H7.out _ (by repeat(first|exact Fr.refl NoF _|apply Fr.drew|apply Fr.alloc))) (by unfold maxLen;omega) (by omega) ?_;intro v5 w5 hown5 hf5 hob5;rw[Nat.zero_add,List.nil_append]at hown5;obtain⟨a5,c5,rfl,_,_⟩:=(SlC.ofOwn hown5 (by simp[Value.oneCell'])).shape;have HX5:=Lib.hid (fun(g:Nat) (h1:SlC _ 1 (.slice (some ⟨g,0,none⟩) 1 1) 1 [.int .u32 (x:Nat)]) h2=>SlC.fr h1 hf5 h2);have HO5:=Lib.hid hown5;have HF5:=Lib.hid (Fr.trans (F:=NoF) (a:=wV) (by repeat(first|exact Fr.refl NoF _|apply Fr.drew|apply Fr.alloc)) hf5 (fun i q=>.inr (by cases q;first|exact Nat.le_refl _|(simp;done)|(simp;omega))));obtain⟨x1,x2,x3,x4,x5,x6⟩:=KC.out w5 HF5.out;have hs5:=HF5.out.size;clear hown5 hf5 hob5
       refine hK.out _ _ (KS.out _ (by repeat(first|exact Fr.refl NoF _|exact HF6.out|exact HF5.out|apply Fr.drew|apply Fr.alloc))) (fun hS=>?_);clear hK K
       try simp only[Act.put,List.setIfInBounds_toArray,List.set_cons_zero,List.set_cons_succ]
       refine wpAnyH_ready (rs:=[15]) (by kernel_rfl) (by simp) ?_;refine AllReadyH.cons rfl (fun K hK=>?_) ?_
       .refine appSB (base:=wV.heap.size) EIu5 rfl (.tmp 20) (.tmp 28) rfl (by rfl) (by rfl) (by first|omega|(simp;done)|(simp;omega)) (own_keep HO5.out (by repeat(first|exact Fr.refl NoF _|apply Fr.drew|apply Fr.alloc)) (fun _ _ q=>q)) (by first|exact SlC.ofOwn (own_new (w0:=w5) (Nat.le_refl _) #[.int .u32 (x:Nat)] 35 1 1 _ rfl rfl (by unfold maxLen;omega)) (by simp[Value.oneCell'])|exact SlC.keep (HX5.out _ (HXN.out _ _ ⟨_,(by repeat(first|exact Fr.refl NoF _|apply Fr.drew|apply Fr.alloc)),by first|rfl|simp,(by repeat(first|exact Fr.refl NoF _|apply Fr.drew|apply Fr.alloc))⟩) (fun b e1 e2=>by simp[Value.ownBlock]at e1 e2;omega)) (by repeat(first|exact Fr.refl NoF _|apply Fr.drew|apply Fr.alloc))) (by unfold maxLen;omega) (by omega) ?_;intro v6 w6 hown6 hf6 hob6;obtain⟨a6,c6',rfl,_,_⟩:=(SlC.ofOwn hown6 (by simp[Value.oneCell'];try grind)).shape;have HO6:=Lib.hid hown6;have HF6:=Lib.hid (Fr.trans (F:=NoF) (a:=wV) (by exact HF5.out.trans (by repeat(first|exact Fr.refl NoF _|apply Fr.drew|apply Fr.alloc)) (by intro _ q;exact False.elim q)) hf6 (fun i q=>.inr (ownBlock_own HO5.out i q)));obtain⟨y1,y2,y3,y4,y5,y6⟩:=KC.out w6 HF6.out;clear hown6 hf6 hob6
        refine hK.out _ _ (KS.out _ (by repeat(first|exact Fr.refl NoF _|exact HF6.out|exact HF5.out|apply Fr.drew|apply Fr.alloc))) (fun hS=>?_);clear hK K
        try simp only[Act.put,List.setIfInBounds_toArray,List.set_cons_zero,List.set_cons_succ]
        refine wpAnyH_take (i:=16) (v:=?_) rfl (by decide+kernel) (by decide+kernel) (by decide+kernel) (fun _ _ _ h=>h) (Or.inl ⟨by rfl,?_⟩) hS ?_
        rotate_left
        .intro wS hSw;(try dsimp only at hSw);go_simp
         try with_reducible rfl
        try simp only[Act.put,List.setIfInBounds_toArray,List.set_cons_zero,List.set_cons_succ]
        refine wpAnyH_take (i:=17) (v:=?_) rfl (by decide+kernel) (by decide+kernel) (by decide+kernel) (fun _ _ _ h=>h) (Or.inl ⟨by rfl,?_⟩) hS ?_
        rotate_left
        .intro wS hSw;(try dsimp only at hSw);go_simp
         try with_reducible rfl
        try simp only[Act.put,List.setIfInBounds_toArray,List.set_cons_zero,List.set_cons_succ]
        refine wpAnyH_done (by kernel_rfl) ?_ _
        show wpList _ _ _ _ _ _
        go_wp2_with fail
        go_meet
        exact⟨rfl,⟨_,(FIN.out _ _ HO6.out HF6.out).fr0 (by repeat(first|exact Fr.refl NoF _|apply Fr.drew|apply Fr.drewN))⟩⟩
       exact AllReadyH.nil
      exact AllReadyH.nil
     exact AllReadyH.nil
    refine AllReadyH.cons rfl (fun K hK=>?_) ?_
    .go_simp
     refine hK.out _ _ (KS.out _ (by repeat(first|exact Fr.refl NoF _|exact HF6.out|exact HF5.out|apply Fr.drew|apply Fr.alloc))) (fun hS=>?_);clear hK K
     try simp only[Act.put,List.setIfInBounds_toArray,List.set_cons_zero,List.set_cons_succ]
     refine wpAnyH_ready (rs:=[1]) (by kernel_rfl) (by simp) ?_;refine AllReadyH.cons rfl (fun K hK=>?_) ?_
     .go_simp
      refine hK.out _ _ (KS.out _ (by repeat(first|exact Fr.refl NoF _|exact HF6.out|exact HF5.out|apply Fr.drew|apply Fr.alloc))) (fun hS=>?_);clear hK K
      try simp only[Act.put,List.setIfInBounds_toArray,List.set_cons_zero,List.set_cons_succ]
      refine wpAnyH_ready (rs:=[6]) (by kernel_rfl) (by simp) ?_;refine AllReadyH.cons rfl (fun K hK=>?_) ?_
      .refine appSB (base:=wV.heap.size) EIu5 rfl (.tmp 15) (.tmp 19) rfl (by rfl) (by rfl) (by first|omega|(simp;done)|(simp;omega)) (HOW.out _ _ ⟨_,(by repeat(first|exact Fr.refl NoF _|apply Fr.drew|apply Fr.alloc)),by first|rfl|simp,(by repeat(first|exact Fr.refl NoF _|apply Fr.drew|apply Fr.alloc))⟩) (H7.out _ (by repeat(first|exact Fr.refl NoF _|apply Fr.drew|apply Fr.alloc))) (by unfold maxLen;omega) (by omega) ?_;intro v5 w5 hown5 hf5 hob5;rw[Nat.zero_add,List.nil_append]at hown5;obtain⟨a5,c5,rfl,_,_⟩:=(SlC.ofOwn hown5 (by simp[Value.oneCell'])).shape;have HX5:=Lib.hid (fun(g:Nat) (h1:SlC _ 1 (.slice (some ⟨g,0,none⟩) 1 1) 1 [.int .u32 (x:Nat)]) h2=>SlC.fr h1 hf5 h2);have HO5:=Lib.hid hown5;have HF5:=Lib.hid (Fr.trans (F:=NoF) (a:=wV) (by repeat(first|exact Fr.refl NoF _|apply Fr.drew|apply Fr.alloc)) hf5 (fun i q=>.inr (by cases q;first|exact Nat.le_refl _|(simp;done)|(simp;omega))));obtain⟨x1,x2,x3,x4,x5,x6⟩:=KC.out w5 HF5.out;have hs5:=HF5.out.size;clear hown5 hf5 hob5
       refine hK.out _ _ (KS.out _ (by repeat(first|exact Fr.refl NoF _|exact HF6.out|exact HF5.out|apply Fr.drew|apply Fr.alloc))) (fun hS=>?_);clear hK K
       try simp only[Act.put,List.setIfInBounds_toArray,List.set_cons_zero,List.set_cons_succ]
       refine wpAnyH_ready (rs:=[15]) (by kernel_rfl) (by simp) ?_;refine AllReadyH.cons rfl (fun K hK=>?_) ?_
       .refine appSB (base:=wV.heap.size) EIu5 rfl (.tmp 20) (.tmp 28) rfl (by rfl) (by rfl) (by first|omega|(simp;done)|(simp;omega)) (own_keep HO5.out (by repeat(first|exact Fr.refl NoF _|apply Fr.drew|apply Fr.alloc)) (fun _ _ q=>q)) (by first|exact SlC.ofOwn (own_new (w0:=w5) (Nat.le_refl _) #[.int .u32 (x:Nat)] 35 1 1 _ rfl rfl (by unfold maxLen;omega)) (by simp[Value.oneCell'])|exact SlC.keep (HX5.out _ (HXN.out _ _ ⟨_,(by repeat(first|exact Fr.refl NoF _|apply Fr.drew|apply Fr.alloc)),by first|rfl|simp,(by repeat(first|exact Fr.refl NoF _|apply Fr.drew|apply Fr.alloc))⟩) (fun b e1 e2=>by simp[Value.ownBlock]at e1 e2;omega)) (by repeat(first|exact Fr.refl NoF _|apply Fr.drew|apply Fr.alloc))) (by unfold maxLen;omega) (by omega) ?_;intro v6 w6 hown6 hf6 hob6;obtain⟨a6,c6',rfl,_,_⟩:=(SlC.ofOwn hown6 (by simp[Value.oneCell'];try grind)).shape;have HO6:=Lib.hid hown6;have HF6:=Lib.hid (Fr.trans (F:=NoF) (a:=wV) (by exact HF5.out.trans (by repeat(first|exact Fr.refl NoF _|apply Fr.drew|apply Fr.alloc)) (by intro _ q;exact False.elim q)) hf6 (fun i q=>.inr (ownBlock_own HO5.out i q)));obtain⟨y1,y2,y3,y4,y5,y6⟩:=KC.out w6 HF6.out;clear hown6 hf6 hob6
        refine hK.out _ _ (KS.out _ (by repeat(first|exact Fr.refl NoF _|exact HF6.out|exact HF5.out|apply Fr.drew|apply Fr.alloc))) (fun hS=>?_);clear hK K
        try simp only[Act.put,List.setIfInBounds_toArray,List.set_cons_zero,List.set_cons_succ]
        refine wpAnyH_take (i:=16) (v:=?_) rfl (by decide+kernel) (by decide+kernel) (by decide+kernel) (fun _ _ _ h=>h) (Or.inl ⟨by rfl,?_⟩) hS ?_
        rotate_left
        .intro wS hSw;(try dsimp only at hSw);go_simp
         try with_reducible rfl
        try simp only[Act.put,List.setIfInBounds_toArray,List.set_cons_zero,List.set_cons_succ]
        refine wpAnyH_take (i:=17) (v:=?_) rfl (by decide+kernel) (by decide+kernel) (by decide+kernel) (fun _ _ _ h=>h) (Or.inl ⟨by rfl,?_⟩) hS ?_
        rotate_left
        .intro wS hSw;(try dsimp only at hSw);go_simp
         try with_reducible rfl
        try simp only[Act.put,List.setIfInBounds_toArray,List.set_cons_zero,List.set_cons_succ]
        refine wpAnyH_done (by kernel_rfl) ?_ _
        show wpList _ _ _ _ _ _
        go_wp2_with fail
        go_meet
        exact⟨rfl,⟨_,(FIN.out _ _ HO6.out HF6.out).fr0 (by repeat(first|exact Fr.refl NoF _|apply Fr.drew|apply Fr.drewN))⟩⟩
       exact AllReadyH.nil
      exact AllReadyH.nil
     exact AllReadyH.nil
    exact AllReadyH.nil
  case rest=>
   obtain⟨rfl,hc1,hp1⟩:=hcut;clear H7 HOW HXN KC KS FIN HS7 E7 c7 c4 cp lp lg;have c4:=hp1.m.g.c 4 (by omega) hp1.m.c4;have c5:=hp1.m.g.c 5 (by omega) hp1.m.c5;have cp:=hp1.m.g.cp hfn;have co:=hp1.m.g.co hfn;have fp:=hp1.m.g.pg.frozen f;have fo:=hp1.m.g.on.frozen f;have lg:=hp1.m.g.pg.lt;have lo:=hp1.m.g.on.lt;have lp:=hp1.m.g.hd.lt;have d1:=hp1.m.g.d1;have d2:=hp1.m.g.d2;have d3:=hp1.m.g.d3;have d1':¬gb=pb:=fun e=>d1 e.symm
   have d2':¬ob=pb:=fun e=>d2 e.symm
   have d3':¬ob=gb:=fun e=>d3 e.symm
   have KEY:Hid (∀W,Fr NoF ((wc.setCell ⟨gb,f,none⟩ (.int .u32 0)).setCell ⟨ob,f,none⟩ (.bool false)) W->FinR w pb gb ob n K near kept hc s pv ⟨s.page.set f 0,upd s.on f false,s.ps,s.old++[x],s.T⟩ W):=by
    intro W q;exact⟨hc1,((hp1.setPage hfn 0).setOn f false).fr0 q⟩
   clear hp1;simp only at cp co;generalize List.getD _ f 0=y1 at cp;generalize s.on f=y2 at co
   go_upto_region 6 with fail
   go_cut [5] (fun s5 wx=>s5=.int .i64 f∧FinR w pb gb ob n K near kept hc s pv ⟨s.page.set f 0,upd s.on f false,s.ps,s.old++[x],s.T⟩ wx)
   case first=>
    as_aux_lemma=>
     go_region
     all_goals
      go_wp2_with fail
      go_meet
      exact⟨rfl,KEY.out _ (by repeat(first|exact Fr.refl NoF _|apply Fr.drew|apply Fr.drewN))⟩
   case rest=>
    obtain⟨rfl,hc2,hp2⟩:=hcut;clear KEY c4 c5 cp co fp fo lg lo lp d1 d2 d3 d1' d2' d3';have hol:(s.old++[x]).length=s.old.length+1:=by simp
    have hx0:0<(s.old++[x]).length:=by omega
    obtain⟨a8,c8,e8,r1,r2,hs8,hb8⟩:=hp2.m.g.row (i:=7) (k:=.u32) (l:=s.old++[x]) rfl;obtain⟨b8,o8,c8',e9,_,_,lb8,cel⟩:=hs8.at hx0;simp only[Value.slice.injEq]at e9;obtain⟨rfl,_,rfl⟩:=e9;rw[hol]at e8;have g7:=hp2.m.g.c 7 (by omega) e8;have g3:=hp2.m.g.c 3 (by omega) hp2.m.c3;have gl:=hp2.m.g.hd.lt
    have cel':wc.cell? ⟨b8,o8,none⟩=some (.int .u32 ((s.old++[x]).getD 0 0:Nat)):=by
     rw[List.getD_eq_getElem?_getD,List.getElem?_eq_getElem hx0];exact cel
    by_cases hlt:kept<s.old.length+1
    .have dlt:decide ((kept:Int)<(s.old.length:Int)+1)=true:=by simp;omega
     have hpl:pv.length<100000:=by have e:=hp2.m.pl;have:=HI.out.len;rw[<-e];show s.ps.length<_;omega
     have HF:Hid (∀W,Fr NoF wc W->Calls Try.prog 43 #[.pointer (some ⟨pb,0,none⟩),.int .u32 ((s.old++[x]).getD 0 0:Nat)] W fun e w'=>e=.returned (.tuple #[])∧Res5 w pb gb ob n K near kept hc s pv ⟨s.page.set f 0,upd s.on f false,dropP s.ps ((s.old++[x]).getD 0 0),s.old++[x],s.T⟩ w'):=fun W q=>(s5_forget (hp2.fr0 q).m hpl HI.out.one ((s.old++[x]).getD 0 0)).mono fun e w' ⟨he,hc3,pv3,hp3⟩=>⟨he,hc3,pv3,(hp2.fr0 q).trans hp3⟩
     have FE:Hid (s.gone kept f=⟨s.page.set f 0,upd s.on f false,dropP s.ps ((s.old++[x]).getD 0 0),(s.old++[x]).drop 1,s.T⟩):=by
      unfold Hid S5.gone;rw[HX.out,if_pos hlt,if_pos hlt]
     generalize hz:(s.old++[x]).getD 0 0=z at*;generalize hol2:s.old++[x]=OL at*;have HZ:=Lib.hid hz;have HOL:=Lib.hid hol;clear hz hol2 hp2 cel e8 hlt hs8 hb8 hx0;generalize s.old.length=L at*;go_wp2
     go_quiet (fail)
     go_wp2_with fail
     refine(HF.out _ (by repeat(first|exact Fr.refl NoF _|apply Fr.drewN|apply Fr.drew))).mono ?_;rintro e w3⟨rfl,hc3,pv3,hp3⟩;obtain⟨a9,c9,e9,u1,u2,hs9,_⟩:=hp3.m.g.row (i:=7) (k:=.u32) (l:=OL) rfl;have hx1:0<OL.length:=by rw[HOL.out];omega
     obtain⟨b9,o9,c9',e10,_,_,lb9,hce9⟩:=hs9.at hx1;clear hce9;simp only[Value.slice.injEq]at e10;obtain⟨rfl,_,rfl⟩:=e10;obtain⟨k1,k2⟩:=hp3.cutOld e9 (by show 1<=OL.length;omega);have K1:=Lib.hid k1;have K2:=Lib.hid k2;have hl3:OL.length=L+1:=HOL.out;have j7:=hp3.m.g.c 7 (by omega) e9;have jf:=hp3.m.g.hd.frozen 7;have jl:=hp3.m.g.hd.lt;rw[hl3]at j7 u1;have HL3:=Lib.hid hl3;clear hp3 e9 k1 k2 hs9 hl3 g7 g3 gl cel' hx1 dlt;by_cases h1:c9=1
     .obtain rfl:L=0:=by omega
      have K3:Hid (P5 w (F5 pb gb ob hc) (D5 pb gb ob hc s pv) pb gb ob n K near kept (w3.setCell ⟨pb,7,none⟩ (.slice (some ⟨b9,o9,none⟩) 0 0)) (upd hc3 7 (.slice (some ⟨b9,o9,none⟩) 0 0)) ⟨s.page.set f 0,upd s.on f false,dropP s.ps z,OL.drop 1,s.T⟩ pv3):=K1.out h1;subst h1;clear K1 K2;go_wp2;go_returns;refine⟨rfl,?_⟩;rw[FE.out];exact⟨_,_,K3.out⟩
     .have K3:Hid (P5 w (F5 pb gb ob hc) (D5 pb gb ob hc s pv) pb gb ob n K near kept (w3.setCell ⟨pb,7,none⟩ (.slice (some ⟨b9,o9+1,none⟩) L (c9-1))) (upd hc3 7 (.slice (some ⟨b9,o9+1,none⟩) L (c9-1))) ⟨s.page.set f 0,upd s.on f false,dropP s.ps z,OL.drop 1,s.T⟩ pv3):=by
       have:=K2.out h1;rw[HL3.out,Nat.add_sub_cancel]at this;exact this
      clear K1 K2;go_wp2;go_returns;refine⟨rfl,?_⟩;rw[FE.out];exact⟨_,_,K3.out⟩
    .have dlt:decide ((kept:Int)<(s.old.length:Int)+1)=false:=by simp;omega
     have FE:Hid (∀W,Fr NoF wc W->Res5 w pb gb ob n K near kept hc s pv (s.gone kept f) W):=by
      intro W q
      have e:s.gone kept f=⟨s.page.set f 0,upd s.on f false,s.ps,s.old++[x],s.T⟩:=by
       unfold S5.gone;rw[HX.out,if_neg hlt,if_neg hlt]
      rw[e];exact⟨_,_,hp2.fr0 q⟩
     clear hp2 cel e8 hlt hs8 hb8 hx0 cel' hol;generalize s.old.length=L at*;go_wp2
     go_quiet (fail)
     go_wp2;go_returns;exact⟨rfl,FE.out _ (by repeat(first|exact Fr.refl NoF _|apply Fr.drewN|apply Fr.drew))⟩
end
end
end Go.Proofs.Ytcccbdnojlmgaaa
