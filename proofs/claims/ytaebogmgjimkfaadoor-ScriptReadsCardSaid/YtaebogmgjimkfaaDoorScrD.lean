/-
  Script's Read.
-/
import Derived.Test.YtaebogmgjimkfaaDoorScrC
import Derived.Deep.Cut
namespace Go.Proofs.YtaebogmgjimkfaaDoor
open Go.RowKit Go.Maps
set_option linter.unusedVariables false
set_option linter.unusedSimpArgs false
theorem SlC.empty {w : World} {size m c : Nat} {a : Option Addr} {news : List Value} (h : SlC w size (.slice a m c) m news) : SlC w size (.slice a 0 0) 0 [] := by
  obtain ⟨a', c', e, l1, l2, l3, l4, l5⟩ := h
  simp only [Value.slice.injEq] at e
  obtain ⟨rfl, _, rfl⟩ := e
  refine ⟨_, 0, rfl, by simp, by simp, Nat.le_refl _, by unfold maxLen; omega, ?_⟩
  rcases l5 with ⟨rfl, rfl⟩ | ⟨b, off, rfl, hb, hc⟩
  · exact .inl ⟨rfl, rfl⟩
  · exact .inr ⟨b, off, rfl, hb, fun j u hj => by cases hj⟩
theorem fr_res {n : Nat} {a w : World} (h : Fr (fun i => i = n) a w) (k : Nat) (v : Value) : Fr (fun i => i = n) a (w.setCell ⟨n, k, none⟩ v) := h.setCell (p := ⟨n, k, none⟩) (.inl rfl) v
def polZ (i : Nat) : ByteArray := ⟨([[108, 114, 117], [108, 114, 117, 107], [116, 119, 111, 113], [97, 114, 99], [112, 114, 111]].getD i []).toArray⟩
theorem policies_calls (w : World) : Calls Tryd.prog 15 #[] w fun e w' => e = .returned (.slice (some ⟨w.heap.size, 0, none⟩) 5 5) ∧ Blk w' w.heap.size 5 (fun i => .string (polZ i)) ∧ Fr NoF w w' := by
  go_enter Tryd.func15, Tryd.ntmps15
  go_wp2
  go_returns
  refine ⟨rfl, Blk.new _ _ _ 5 _ _ rfl rfl (fun i hi => ?_), (Fr.refl _ _).alloc _⟩
  match i, hi with
  | 0, _ | 1, _ | 2, _ | 3, _ | 4, _ => rfl
set_option maxHeartbeats 4000000 in
theorem scr_read {w : World} (hT : Tabs w) {v : Value} {l : List Nat} (h : SlK .u8 w v l) (hb : ∀ x ∈ l, x < 256) (hl : l.length ≤ 400) :
    Calls Tryd.prog 5 #[v] w fun e w' => ∃ cv pv vs, e = .returned (.agg #[.int .i64 (1 + l.getD 0 0 % 6 : Nat), .int .i64 (1 + l.getD 1 0 % 12 : Nat), .string (polZ (l.getD 2 0 % 5)), .slice (some ⟨cv, 0, none⟩) 3 3, pv]) ∧ L3 w' cv cv vs (opsK (l.drop 4) (min ((l.drop 4).length / 3) 60)) ∧ w.heap.size ≤ cv ∧ SlK .i64 w' pv (l.drop 4) ∧ (∀ b, pv.ownBlock = some b → w.heap.size ≤ b) ∧ Fr NoF w w' := by
  obtain ⟨a, c, rfl, h1, h2⟩ := h.shape
  unfold maxLen at h2
  have H := Lib.hid h
  have HB := Lib.hid hb
  have HT := Lib.hid hT
  clear h hb hT
  go_enter Tryd.func5, Tryd.ntmps5
  go_wp2_with fail
  refine (policies_calls _).mono ?_
  rintro e w1 ⟨rfl, hP, f1⟩
  have HP := Lib.hid hP
  have F1 := Lib.hid f1
  clear hP f1
  have HSL := Lib.hid (H.out.keep (Fr.trans ((Fr.refl NoF w).alloc _) F1.out (fun _ q => q.elim)))
  have HD0 : Hid (∀ (v' : Value) (n : Nat), l.drop 4 = [] → n = 0 → v' = .slice a n 0 → SlK .u8 w1 v' (l.drop 4)) := fun v' n h1 h2 h3 => by
    subst h2 h3
    unfold SlK
    rw [h1]
    exact SlC.empty HSL.out
  have HD1 : Hid (∀ (v' : Value) (m : Nat), m = min 4 l.length → m < c → v' = .slice (a.map fun x => ⟨x.block, x.off + m, none⟩) (l.length - m) (c - m) → SlK .u8 w1 v' (l.drop 4)) := fun v' m h1 h2 h3 => by
    obtain ⟨b, off, rfl, h4⟩ := SlC.cut (lo := m) (hi := l.length) HSL.out (by omega) (Nat.le_refl _) rfl h2
    subst h3
    have e : l.drop 4 = l.drop m := by
      by_cases q : 4 ≤ l.length
      · rw [show m = 4 by omega]
      · rw [List.drop_eq_nil_of_le (by omega), List.drop_eq_nil_of_le (by omega)]
    rw [e]
    simp only [Nat.mul_one] at h4
    rw [← List.map_drop, List.take_of_length_le (by simp)] at h4
    unfold SlK
    rw [List.length_drop]
    exact h4
  go_upto_region 2 with fail
  go_cut [0, 4] from 5 (fun s0 s4 wx => s0 = .slice a l.length c ∧ SlK .u8 wx s4 (l.drop 4) ∧ wx = w1)
  case first =>
    go_wp2_with fail
    all_goals go_meet
    · next q =>
      rw [if_pos (by omega)] at q
      exact ⟨by congr 1; omega, HD0.out _ 0 (List.drop_eq_nil_of_le (by omega)) rfl rfl, rfl⟩
    · next q =>
      rw [if_neg (by omega)] at q
      exact ⟨by congr 1; omega, HD0.out _ _ (List.drop_eq_nil_of_le (by omega)) (by omega) rfl, rfl⟩
    · next q =>
      rw [if_pos (by omega)] at q
      refine ⟨rfl, HD1.out _ l.length (by omega) (by omega) ?_, rfl⟩
      rw [Nat.sub_self]
      congr 1
      cases a with
      | none => rfl
      | some x =>
        obtain ⟨b, off, e, _⟩ := SlC.cut (lo := l.length) (hi := l.length) HSL.out (Nat.le_refl _) (Nat.le_refl _) rfl (by omega)
        cases e
        cases l.length <;> rfl
    · exact ⟨rfl, HD1.out _ 4 (by omega) (by omega) rfl, rfl⟩
  case rest =>
    obtain ⟨rfl, hS, rfl⟩ := hcut
    have f01 : Fr NoF w wc := Fr.trans ((Fr.refl NoF w).alloc _) F1.out (fun _ q => q.elim)
    have HA : Hid (∀ (i : Nat) W, i < 3 → Fr NoF wc W → Calls Tryd.prog 16 #[.slice a l.length c, .int .i64 i] W fun e w' => e = .returned (.int .i64 (l.getD i 0 : Nat)) ∧ W = w') := fun i W hi f => scr_at (HSL.out.keep f) HB.out i (by omega)
    have HA0 : Hid (∀ W, Fr NoF wc W → Calls Tryd.prog 16 #[.slice a l.length c, .int .i64 0] W fun e w' => e = .returned (.int .i64 (l.getD 0 0 : Nat)) ∧ W = w') := fun W f => HA.out 0 W (by omega) f
    have HA1 : Hid (∀ W, Fr NoF wc W → Calls Tryd.prog 16 #[.slice a l.length c, .int .i64 1] W fun e w' => e = .returned (.int .i64 (l.getD 1 0 : Nat)) ∧ W = w') := fun W f => HA.out 1 W (by omega) f
    have HA2 : Hid (∀ W, Fr NoF wc W → Calls Tryd.prog 16 #[.slice a l.length c, .int .i64 2] W fun e w' => e = .returned (.int .i64 (l.getD 2 0 : Nat)) ∧ W = w') := fun W f => HA.out 2 W (by omega) f
    have hb2 : ∀ x ∈ l.drop 4, x < 256 := fun x hx => HB.out x (List.mem_of_mem_drop hx)
    have hl2 : (l.drop 4).length ≤ 400 := by rw [List.length_drop]; omega
    have HCA : Hid (∀ W, Fr NoF wc W → Calls Tryd.prog 17 #[u4] W fun e w' => ∃ vs, e = .returned (.slice (some ⟨W.heap.size, 0, none⟩) 3 3) ∧ L3 w' W.heap.size W.heap.size vs (opsK (l.drop 4) (min ((l.drop 4).length / 3) 60)) ∧ Fr NoF wc w') := fun W f => (scr_calls (HT.out.fr0 (f01.trans f (fun _ q => q.elim))) (hS.keep f) hb2 hl2).mono fun e w' ⟨vs, he, h1, h2⟩ => ⟨vs, he, h1, f.trans h2 (fun _ q => q.elim)⟩
    have HPI : Hid (∀ W wd, Fr NoF wc W → Fr NoF wd W → Calls Tryd.prog 18 #[u4] W fun e w' => ∃ v', e = .returned v' ∧ SlK .i64 w' v' (l.drop 4) ∧ (∀ b, v'.ownBlock = some b → wc.heap.size ≤ b) ∧ Fr NoF wc w' ∧ Fr NoF wd w') := fun W wd f g => (scr_picks (hS.keep f) hb2 hl2).mono fun e w' ⟨v', he, h1, h2, h3⟩ => ⟨v', he, h1, fun b q => Nat.le_trans f.size (h2 b q), f.trans h3 (fun _ q => q.elim), g.trans h3 (fun _ q => q.elim)⟩
    have hsz := f01.size
    have x0 : l.getD 0 0 < 256 := by
      by_cases q : 0 < l.length
      · have := HB.out _ (List.getElem_mem q); simpa [List.getD, q] using this
      · simp [List.getD, q]
    have x1 : l.getD 1 0 < 256 := by
      by_cases q : 1 < l.length
      · have := HB.out _ (List.getElem_mem q); simpa [List.getD, q] using this
      · simp [List.getD, q]
    have x2 : l.getD 2 0 < 256 := by
      by_cases q : 2 < l.length
      · have := HB.out _ (List.getElem_mem q); simpa [List.getD, q] using this
      · simp [List.getD, q]
    have e0 : Int.tmod (l.getD 0 0 : Nat) 6 = ((l.getD 0 0 % 6 : Nat) : Int) := by rw [Int.tmod_eq_emod_of_nonneg (by omega)]; omega
    have e1 : Int.tmod (l.getD 1 0 : Nat) 12 = ((l.getD 1 0 % 12 : Nat) : Int) := by rw [Int.tmod_eq_emod_of_nonneg (by omega)]; omega
    have e2 : Int.tmod (l.getD 2 0 : Nat) 5 = ((l.getD 2 0 % 5 : Nat) : Int) := by rw [Int.tmod_eq_emod_of_nonneg (by omega)]; omega
    have r0 : l.getD 0 0 % 6 < 6 := Nat.mod_lt _ (by decide)
    have r1 : l.getD 1 0 % 12 < 12 := Nat.mod_lt _ (by decide)
    have r2 : l.getD 2 0 % 5 < 5 := Nat.mod_lt _ (by decide)
    generalize hxm0 : l.getD 0 0 % 6 = m0 at *
    have HXm0 := Lib.hid hxm0
    clear hxm0
    generalize hxm1 : l.getD 1 0 % 12 = m1 at *
    have HXm1 := Lib.hid hxm1
    clear hxm1
    generalize hxm2 : l.getD 2 0 % 5 = m2 at *
    have HXm2 := Lib.hid hxm2
    clear hxm2
    generalize hxy0 : l.getD 0 0 = y0 at *
    have HXy0 := Lib.hid hxy0
    clear hxy0
    generalize hxy1 : l.getD 1 0 = y1 at *
    have HXy1 := Lib.hid hxy1
    clear hxy1
    generalize hxy2 : l.getD 2 0 = y2 at *
    have HXy2 := Lib.hid hxy2
    clear hxy2
    have w0 : IntKind.i64.wrap (1 + (m0 : Int)) = 1 + (m0 : Int) := IntWalk.i64_in _ (by omega)
    have w1 : IntKind.i64.wrap (1 + (m1 : Int)) = 1 + (m1 : Int) := IntWalk.i64_in _ (by omega)
    have r2i : (m2 : Int) < 5 := by omega
    have cP := HP.out.cell r2
    have lP := HP.out.lt
    generalize hxos : opsK (l.drop 4) (min ((l.drop 4).length / 3) 60) = os at *
    have HXos := Lib.hid hxos
    clear hxos
    generalize hxl4 : l.drop 4 = l4 at *
    have HXl4 := Lib.hid hxl4
    clear hxl4
    clear hS HD0 HD1 HSL HA hb2 hl2 x0 x1 x2 H HB HT
    obtain ⟨pb, hpb⟩ : ∃ pb, pb = w.heap.size + 1 := ⟨_, rfl⟩
    have HR0 : Blk (w.alloc (.cells #[.int .i64 0, .int .i64 0, .string ⟨#[]⟩, .slice none 0 0, .slice none 0 0] 26)) w.heap.size 5 (fun i => match i with | 0 => .int .i64 0 | 1 => .int .i64 0 | 2 => .string ⟨#[]⟩ | 3 => .slice none 0 0 | _ => .slice none 0 0) :=
      Blk.new _ _ _ 5 _ _ rfl rfl (fun i hi => by
        match i, hi with
        | 0, _ | 1, _ | 2, _ | 3, _ | 4, _ => rfl)
    have HR : Hid (∀ W, Fr NoF wc W → (W.cell? ⟨w.heap.size, 0, none⟩ = some (.int .i64 0) ∧ W.cell? ⟨w.heap.size, 1, none⟩ = some (.int .i64 0) ∧ W.cell? ⟨w.heap.size, 2, none⟩ = some (.string ⟨#[]⟩) ∧ W.cell? ⟨w.heap.size, 3, none⟩ = some (.slice none 0 0) ∧ W.cell? ⟨w.heap.size, 4, none⟩ = some (.slice none 0 0)) ∧ W.frozen? ⟨w.heap.size, 0, none⟩ = false ∧ W.frozen? ⟨w.heap.size, 1, none⟩ = false ∧ W.frozen? ⟨w.heap.size, 2, none⟩ = false ∧ W.frozen? ⟨w.heap.size, 3, none⟩ = false ∧ W.frozen? ⟨w.heap.size, 4, none⟩ = false ∧ w.heap.size < W.heap.size) := fun W f => by
      have hb := (HR0.fr F1.out id).fr f id
      exact ⟨⟨hb.cell (i := 0) (by omega), hb.cell (i := 1) (by omega), hb.cell (i := 2) (by omega), hb.cell (i := 3) (by omega), hb.cell (i := 4) (by omega)⟩, hb.frozen 0, hb.frozen 1, hb.frozen 2, hb.frozen 3, hb.frozen 4, hb.lt⟩
    have HRB : Hid (∀ W, Fr NoF wc W → Blk W w.heap.size 5 (fun i => match i with | 0 => .int .i64 0 | 1 => .int .i64 0 | 2 => .string ⟨#[]⟩ | 3 => .slice none 0 0 | _ => .slice none 0 0)) := fun W f => (HR0.fr F1.out id).fr f id
    clear HR0
    have HF01 := Lib.hid f01
    clear f01 F1
    go_wp2_with fail
    have KS : Hid (∀ W, Fr (fun i => i = w.heap.size) wc W → W.cell? ⟨w.heap.size + 1, m2, none⟩ = some (.string (polZ m2))) := fun W f => by
      have e : (w.alloc (.cells #[.int .i64 0, .int .i64 0, .string ⟨#[]⟩, .slice none 0 0, .slice none 0 0] 26)).heap.size = w.heap.size + 1 := Array.size_push (xs := w.heap) _
      rw [← e]
      exact (HP.out.fr f (fun q => by have q : _ = w.heap.size := q; omega)).cell r2
    go_region_held3 (fun w' => w'.cell? ⟨w.heap.size + 1, m2, none⟩ = some (.string (polZ m2)))
      (exact KS.out _ (by repeat (first | exact Fr.refl _ _ | exact (H5.out.2.2.1).none | exact (H4.out.2).none | apply Fr.drew | apply Fr.drewN | apply Fr.alloc | apply fr_res)))
      (first
        | (go_at_call 16; (first | (with_reducible refine (HA0.out _ (by repeat (first | exact Fr.refl NoF _ | exact H5.out.2.2.1 | exact H4.out.2 | apply Fr.drew | apply Fr.drewN | apply Fr.alloc))).mono ?_) | (with_reducible refine (HA1.out _ (by repeat (first | exact Fr.refl NoF _ | exact H5.out.2.2.1 | exact H4.out.2 | apply Fr.drew | apply Fr.drewN | apply Fr.alloc))).mono ?_) | (with_reducible refine (HA2.out _ (by repeat (first | exact Fr.refl NoF _ | exact H5.out.2.2.1 | exact H4.out.2 | apply Fr.drew | apply Fr.drewN | apply Fr.alloc))).mono ?_)); rintro e w' ⟨rfl, rfl⟩)
        | (go_at_call 17; (with_reducible refine (HCA.out _ (by repeat (first | exact Fr.refl NoF _ | exact H5.out.2.2.1 | exact H4.out.2 | apply Fr.drew | apply Fr.drewN | apply Fr.alloc))).mono ?_); rintro e w4 ⟨vs, rfl, h4, f4⟩; have H4 := Lib.hid (And.intro h4 f4); clear h4 f4)
        | (go_at_call 18; (with_reducible refine (HPI.out _ w4 (by repeat (first | exact Fr.refl NoF _ | exact H5.out.2.2.1 | exact H4.out.2 | apply Fr.drew | apply Fr.drewN | apply Fr.alloc)) (by repeat (first | exact Fr.refl NoF _ | apply Fr.drew | apply Fr.drewN | apply Fr.alloc))).mono ?_); rintro e w5 ⟨pv, rfl, h5, h5b, f5, g5⟩; obtain ⟨a5, c5, rfl, _, _⟩ := h5.shape; obtain ⟨⟨z0, z1, z2, z3, z4⟩, t0, t1, t2, t3, t4, t5⟩ := HR.out w5 f5; have H5 := Lib.hid (And.intro h5 (And.intro h5b (And.intro f5 g5))); clear h5 h5b f5 g5))
    all_goals
      have g9 : Fr (fun i => i = w.heap.size) w5 (((((w5.setCell ⟨w.heap.size, 0, none⟩ (.int .i64 (1 + (m0 : Int)))).setCell ⟨w.heap.size, 1, none⟩ (.int .i64 (1 + (m1 : Int)))).setCell ⟨w.heap.size, 2, none⟩ (.string (polZ m2))).setCell ⟨w.heap.size, 3, none⟩ (.slice (some ⟨wc.heap.size, 0, none⟩) 3 3)).setCell ⟨w.heap.size, 4, none⟩ (.slice a5 l4.length c5)) := by
        repeat (first | exact Fr.refl _ _ | apply fr_res)
      have hc9 : w.heap.size < wc.heap.size := (HR.out wc (Fr.refl _ _)).2.2.2.2.2.2
      have K1 : Hid (L3 _ wc.heap.size wc.heap.size vs os) := Lib.hid ((H4.out.1.fr0 H5.out.2.2.2).fr g9 (fun q => by have q : wc.heap.size = w.heap.size := q; omega) (fun i h (q : i = w.heap.size) => by have h : wc.heap.size ≤ i := h; omega))
      have K2 := Lib.hid (H5.out.1.fr g9 (fun b q e => by have e : b = w.heap.size := e; have := H5.out.2.1 b q; omega))
      have K3 : Hid (∀ b, (Value.slice a5 l4.length c5).ownBlock = some b → w.heap.size ≤ b) := fun b q => Nat.le_trans (Nat.le_of_lt hc9) (H5.out.2.1 b q)
      have K4 := Lib.hid (Fr.trans (HF01.out.trans H5.out.2.2.1 (fun _ q => q.elim)) g9 (fun i (q : i = w.heap.size) => .inr (by subst q; exact Nat.le_refl _)))
      have hc10 := Nat.le_of_lt hc9
      have HX := Lib.hid (((((((HRB.out w5 H5.out.2.2.1).set 0 (.int .i64 (1 + (m0 : Int)))).set 1 (.int .i64 (1 + (m1 : Int)))).set 2 (.string (polZ m2))).set 3 (.slice (some ⟨wc.heap.size, 0, none⟩) 3 3)).set 4 (.slice a5 l4.length c5)))
      clear g9 H4 H5 HF01 KS HR HCA HPI HA0 HA1 HA2 HP HRB
      go_wp2
      (try simp only [Exit.inBlock, Exit.then])
      refine bodyPost_ret (res_blk Tryd.results5 _ _ HX.out rfl Tryd.underlying26 rfl (by kernel_rfl)) rfl ?_
      have qos := HXos.out
      subst qos
      have qm0 := HXm0.out
      subst qm0
      have qm1 := HXm1.out
      subst qm1
      have qm2 := HXm2.out
      subst qm2
      have ql4 := HXl4.out
      subst ql4
      have qy0 := HXy0.out
      subst qy0
      have qy1 := HXy1.out
      subst qy1
      have qy2 := HXy2.out
      subst qy2
      exact ⟨wc.heap.size, _, vs, rfl, K1.out, hc10, K2.out, K3.out, K4.out⟩
end Go.Proofs.YtaebogmgjimkfaaDoor
