/-
  Pro's clock: an entry comes. Pro's own small calls: isFrame, has, greatest, Size, Target, Hot, Miss, Set, empty.
-/
import Derived.Test.YtoainbdkhhblbaaK25
namespace Go.Proofs.Ytoainbdkhhblbaa
open Go.RowKit Go.Maps
set_option linter.unusedVariables false
set_option linter.unusedSimpArgs false

section
variable {w w' : World} {b n : Nat} {A : AP} {r : Raw}
theorem en_all (e : Nat → En) (v : Nat → Bool) (x : Nat) (y : En) (u : Bool) :
    upd (upd (upd (upd (upd (upd (enF e v) (x * 6) (.int .u32 (y.pg : Nat))) (x * 6 + 1) (.int .i64 y.fr)) (x * 6 + 2) (.bool y.hot)) (x * 6 + 3) (.bool y.ref)) (x * 6 + 4) (.bool y.test)) (x * 6 + 5) (.bool u) = enF (upd e x y) (upd v x u) := by
  funext j
  by_cases q : j / 6 = x
  · have hj : j = x * 6 + j % 6 := by omega
    have h6 : j % 6 < 6 := by omega
    generalize j % 6 = k at *
    subst hj
    match k, h6 with
    | 0, _ =>
      change _ = enF (upd e x y) (upd v x u) (x * 6)
      rw [en0, upd_same]; simp [upd]
    | 1, _ => rw [en1, upd_same]; simp [upd]
    | 2, _ => rw [en2, upd_same]; simp [upd]
    | 3, _ => rw [en3, upd_same]; simp [upd]
    | 4, _ => rw [en4, upd_same]; simp [upd]
    | 5, _ => rw [en5, upd_same]; simp [upd]
  · rw [upd_other _ _ (by omega), upd_other _ _ (by omega), upd_other _ _ (by omega), upd_other _ _ (by omega), upd_other _ _ (by omega), upd_other _ _ (by omega)]
    unfold enF
    rw [upd_other _ _ q, upd_other _ _ q]
theorem PC.setE (h : PC w b n A r) (x : Nat) (y : En) (u : Bool) : PC ((((((w.setCell ⟨A.eb, x * 6, none⟩ (.int .u32 (y.pg : Nat))).setCell ⟨A.eb, x * 6 + 1, none⟩ (.int .i64 y.fr)).setCell ⟨A.eb, x * 6 + 2, none⟩ (.bool y.hot)).setCell ⟨A.eb, x * 6 + 3, none⟩ (.bool y.ref)).setCell ⟨A.eb, x * 6 + 4, none⟩ (.bool y.test)).setCell ⟨A.eb, x * 6 + 5, none⟩ (.bool u)) b n A { r with e := upd r.e x y, v := upd r.v x u } := by
  obtain ⟨n1, n2, n3, n4, n5, n6, n7⟩ := h.lb.ne
  have f : Fr (fun k => k = A.eb) w ((((((w.setCell ⟨A.eb, x * 6, none⟩ (.int .u32 (y.pg : Nat))).setCell ⟨A.eb, x * 6 + 1, none⟩ (.int .i64 y.fr)).setCell ⟨A.eb, x * 6 + 2, none⟩ (.bool y.hot)).setCell ⟨A.eb, x * 6 + 3, none⟩ (.bool y.ref)).setCell ⟨A.eb, x * 6 + 4, none⟩ (.bool y.test)).setCell ⟨A.eb, x * 6 + 5, none⟩ (.bool u)) := by
    exact ((((((Fr.refl (fun k => k = A.eb) w).setCell (p := ⟨A.eb, x * 6, none⟩) (.inl rfl) _).setCell (p := ⟨A.eb, x * 6 + 1, none⟩) (.inl rfl) _).setCell (p := ⟨A.eb, x * 6 + 2, none⟩) (.inl rfl) _).setCell (p := ⟨A.eb, x * 6 + 3, none⟩) (.inl rfl) _).setCell (p := ⟨A.eb, x * 6 + 4, none⟩) (.inl rfl) _).setCell (p := ⟨A.eb, x * 6 + 5, none⟩) (.inl rfl) _
  refine ⟨h.hd.fr f (fun q => n1 q.symm), h.rr.fr f (fun i hi => (n7 i hi).2.1), ?_, h.fb.fr f (fun q => n4 q.symm), h.mp.fr f (fun q => n5 q.symm), h.lb, h.hn⟩
  rw [← en_all]
  exact (((((h.en.set _ _).set _ _).set _ _).set _ _).set _ _).set _ _
set_option maxRecDepth 100000 in
set_option maxHeartbeats 2000000 in
theorem ck_come (h : PC w b n A r) (y : En) {x : Nat} {sp' : List Nat} (hs : r.sp = x :: sp') (ho : r.ids = [] ∨ r.h 0 ∈ r.ids) : Calls Try.prog 34 #[.pointer (some ⟨b, 0, none⟩), enV y false] w fun e w' => e = .returned (.int .i64 (x : Nat)) ∧ PC w' b n A (r.come y) ∧ Fr (FPr A b) w w' := by
  have c0 : w.cell? ⟨b, 0, none⟩ = some (.pointer (some ⟨A.rb, 0, none⟩)) := h.c 0 (by omega)
  obtain ⟨_, _, _, hsl, hd⟩ := h.lists
  have hx : x < 2 * n := hsl x (by rw [hs]; simp)
  have hni : ¬ x ∈ r.ids := fun q => hd x q (by rw [hs]; simp)
  have HF := Lib.hid (fun W (g : Fr NoF w W) => First_all (h.rr.fr g (fun _ _ q => q)) 1)
  have hh : ixI (rowZ [r.ids, r.sp] 1).head? = (x : Int) := by
    show ixI r.sp.head? = _
    rw [hs]; rfl
  rw [hh] at HF
  have hco : r.come y = Raw.lay { r with e := upd r.e x y, v := upd r.v x false } x := by unfold Raw.come; rw [hs]; rfl
  rw [hco]
  have HLAY : Hid (∀ W, PC W b n A { r with e := upd r.e x y, v := upd r.v x false } → Calls Try.prog 60 #[.pointer (some ⟨b, 0, none⟩), .int .i64 x] W fun e w' => e = .returned (.tuple #[]) ∧ PC w' b n A (Raw.lay { r with e := upd r.e x y, v := upd r.v x false } x) ∧ Fr (FCk A b) W w') := fun W hW => ck_lay hW hx hni ho
  have H := Lib.hid h
  have lw : b < w.heap.size := h.hd.lt
  have le : A.eb < w.heap.size := h.en.lt
  clear h hs hsl hd hni ho hco hh
  unfold enV
  generalize Raw.lay { r with e := upd r.e x y, v := upd r.v x false } x = rl at *
  obtain ⟨ypg, yfr, yhot, yref, ytest⟩ := y
  simp only
  have hx0 : (0 : Int) ≤ (x : Int) := by omega
  have hx1 : (x : Int) < 2 * (n : Int) := by omega
  go_enter Try.func34, Try.ntmps34
  go_upto_region 1 with fail
  have fA : Fr NoF w (w.alloc (.cells #[.int .u32 (ypg : Nat), .int .i64 yfr, .bool yhot, .bool yref, .bool ytest, .bool false] 79)) := (Fr.refl NoF w).alloc _
  have HA : Hid (Blk (w.alloc (.cells #[.int .u32 (ypg : Nat), .int .i64 yfr, .bool yhot, .bool yref, .bool ytest, .bool false] 79)) w.heap.size 6 (fun i => #[Value.int .u32 (ypg : Nat), .int .i64 yfr, .bool yhot, .bool yref, .bool ytest, .bool false].getD i undef)) := Blk.new _ _ _ 6 _ _ rfl rfl (fun i hi => by
    match i, hi with
    | 0, _ => rfl
    | 1, _ => rfl
    | 2, _ => rfl
    | 3, _ => rfl
    | 4, _ => rfl
    | 5, _ => rfl)
  have FA := Lib.hid fA
  clear fA c0
  generalize w.alloc (.cells #[.int .u32 (ypg : Nat), .int .i64 yfr, .bool yhot, .bool yref, .bool ytest, .bool false] 79) = wA at *
  have c0 : wA.cell? ⟨b, 0, none⟩ = some (.pointer (some ⟨A.rb, 0, none⟩)) := (H.out.fr0 FA.out).c 0 (by omega)
  go_wp2_with fail
  refine (HF.out _ FA.out).mono ?_
  clear HF
  rintro e w1 ⟨rfl, d, rfl⟩
  have h1 : PC (wA.drewN d) b n A r := (H.out.fr0 FA.out).fr0 ((Fr.refl NoF wA).drewN d)
  have b1 : Blk (wA.drewN d) w.heap.size 6 _ := HA.out.drewN d
  have F1 := Lib.hid (FA.out.trans ((Fr.refl NoF wA).drewN d) (fun _ q => q.elim))
  clear H HA FA c0
  generalize wA.drewN d = w2 at *
  have H1 := Lib.hid h1
  have e1 : w2.cell? ⟨b, 1, none⟩ = some (.slice (some ⟨A.eb, 0, none⟩) (2 * n) (2 * n)) := h1.c 1 (by omega)
  have fz := fun i => h1.en.frozen i
  obtain ⟨x0, x1, x2, x3, x4, x5⟩ := h1.ce hx
  have g0 := b1.cell (i := 0) (by omega)
  have g1 := b1.cell (i := 1) (by omega)
  have g2 := b1.cell (i := 2) (by omega)
  have g3 := b1.cell (i := 3) (by omega)
  have g4 := b1.cell (i := 4) (by omega)
  have g5 := b1.cell (i := 5) (by omega)
  have lw2 := h1.hd.lt
  have le2 := h1.en.lt
  have lb2 := b1.lt
  simp only [Array.getD, List.getElem_toArray, List.getElem_cons_zero, List.getElem_cons_succ] at g0 g1 g2 g3 g4 g5
  clear h1 b1
  have HW : Hid (∀ W, Fr NoF w2 W → PC ((((((W.setCell ⟨A.eb, x * 6, none⟩ (.int .u32 (ypg : Nat))).setCell ⟨A.eb, x * 6 + 1, none⟩ (.int .i64 yfr)).setCell ⟨A.eb, x * 6 + 2, none⟩ (.bool yhot)).setCell ⟨A.eb, x * 6 + 3, none⟩ (.bool yref)).setCell ⟨A.eb, x * 6 + 4, none⟩ (.bool ytest)).setCell ⟨A.eb, x * 6 + 5, none⟩ (.bool false)) b n A { r with e := upd r.e x ⟨ypg, yfr, yhot, yref, ytest⟩, v := upd r.v x false } ∧
      Fr (FPr A b) w ((((((W.setCell ⟨A.eb, x * 6, none⟩ (.int .u32 (ypg : Nat))).setCell ⟨A.eb, x * 6 + 1, none⟩ (.int .i64 yfr)).setCell ⟨A.eb, x * 6 + 2, none⟩ (.bool yhot)).setCell ⟨A.eb, x * 6 + 3, none⟩ (.bool yref)).setCell ⟨A.eb, x * 6 + 4, none⟩ (.bool ytest)).setCell ⟨A.eb, x * 6 + 5, none⟩ (.bool false))) := fun W g =>
    ⟨(H1.out.fr0 g).setE x ⟨ypg, yfr, yhot, yref, ytest⟩ false, (((((((F1.out.mono (fun _ q => q.elim)).trans g (fun _ q => q.elim)).setCell (p := ⟨A.eb, x * 6, none⟩) (.inl (.inr (.inl rfl))) _).setCell (p := ⟨A.eb, x * 6 + 1, none⟩) (.inl (.inr (.inl rfl))) _).setCell (p := ⟨A.eb, x * 6 + 2, none⟩) (.inl (.inr (.inl rfl))) _).setCell (p := ⟨A.eb, x * 6 + 3, none⟩) (.inl (.inr (.inl rfl))) _).setCell (p := ⟨A.eb, x * 6 + 4, none⟩) (.inl (.inr (.inl rfl))) _).setCell (p := ⟨A.eb, x * 6 + 5, none⟩) (.inl (.inr (.inl rfl))) _⟩
  clear H1 F1
  go_wp2_with fail
  go_region_with (fail)
  all_goals
    obtain ⟨hp0, fp0⟩ := HW.out w2 (Fr.refl NoF w2)
    have hp := hp0.fr0 (Fr.refl NoF _).drew
    have fp := fp0.drew
    clear hp0 fp0
    have HP := Lib.hid (HLAY.out _ hp)
    have FQ := Lib.hid fp
    clear hp fp HW HLAY e1 fz x0 x1 x2 x3 x4 x5 g0 g1 g2 g3 g4 g5
    go_wp2_with fail
    refine HP.out.mono ?_
    clear HP
    rintro e w3 ⟨rfl, h3, f3⟩
    have H3 := Lib.hid (And.intro h3 (FQ.out.trans f3 (fun i q => .inl (q.elim .inl (fun q => .inr (.inr (.inr (.inr q))))))))
    clear h3 f3
    go_wp2
    go_returns
    exact ⟨rfl, H3.out⟩
end
end Go.Proofs.Ytoainbdkhhblbaa
