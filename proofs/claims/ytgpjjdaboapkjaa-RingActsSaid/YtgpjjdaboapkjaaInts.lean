/-
  Slices of ints as they are read: what a slice value holds; package hatcheckref02's Same.
-/
import Derived.Test.YtgpjjdaboapkjaaRows
import Derived.Test.YtgpjjdaboapkjaaBase
import Derived.WalkSpells
import Derived.Lib.Hide
import Derived.Deep.DeepMust
import Derived.Deep.QuietTactic
import Derived.BigQuiet
namespace Go.Proofs.Ytgpjjdaboapkjaa
open Go.RowKit
set_option linter.unusedVariables false

def nums (l : List Nat) : List Int := l.map fun (x : Nat) => (x : Int)
/-- The slice v holds the numbers zs. -/
def SlI (w : World) (v : Value) (zs : List Int) : Prop :=
  ∃ a c, v = .slice a zs.length c ∧ zs.length ≤ c ∧ c ≤ maxLen ∧ ((a = none ∧ c = 0) ∨ ∃ b off, a = some ⟨b, off, none⟩ ∧ b < w.heap.size ∧ ∀ (j : Nat) (z : Int), zs[j]? = some z → w.cell? ⟨b, off + j, none⟩ = some (.int .i64 z))
theorem SlI.nil (w : World) : SlI w (.slice none 0 0) [] := ⟨none, 0, rfl, by simp, by unfold maxLen; omega, .inl ⟨rfl, rfl⟩⟩
theorem SlI.len {w : World} {v : Value} {zs : List Int} (h : SlI w v zs) : zs.length ≤ maxLen := by
  obtain ⟨a, c, _, h1, h2, _⟩ := h; omega
theorem SlI.at {w : World} {v : Value} {zs : List Int} (h : SlI w v zs) {k : Nat} (hk : k < zs.length) : ∃ b off c, v = .slice (some ⟨b, off, none⟩) zs.length c ∧ zs.length ≤ c ∧ c ≤ maxLen ∧ b < w.heap.size ∧ ∀ (j : Nat) (z : Int), zs[j]? = some z → w.cell? ⟨b, off + j, none⟩ = some (.int .i64 z) := by
  obtain ⟨a, c, rfl, h1, h2, h3⟩ := h
  rcases h3 with ⟨_, rfl⟩ | ⟨b, off, rfl, hb, hc⟩
  · omega
  · exact ⟨b, off, c, rfl, h1, h2, hb, hc⟩
/-- A slice that came in: its elements are the numbers zs. -/
def ArgI (w : World) (v : Value) (zs : List Int) : Prop :=
  ∃ a c, v = .slice a zs.length c ∧ zs.length ≤ c ∧ c ≤ maxLen ∧ (0 < zs.length → ∃ b off, a = some ⟨b, off, none⟩ ∧ b < w.heap.size ∧ ∀ (j : Nat) (z : Int), zs[j]? = some z → w.cell? ⟨b, off + j, none⟩ = some (.int .i64 z))
theorem ArgI.at {w : World} {v : Value} {zs : List Int} (h : ArgI w v zs) {k : Nat} (hk : k < zs.length) : ∃ b off c, v = .slice (some ⟨b, off, none⟩) zs.length c ∧ zs.length ≤ c ∧ c ≤ maxLen ∧ b < w.heap.size ∧ ∀ (j : Nat) (z : Int), zs[j]? = some z → w.cell? ⟨b, off + j, none⟩ = some (.int .i64 z) := by
  obtain ⟨a, c, rfl, h1, h2, h3⟩ := h
  obtain ⟨b, off, rfl, hb, hc⟩ := h3 (by omega)
  exact ⟨b, off, c, rfl, h1, h2, hb, hc⟩
theorem ArgI.len {w : World} {v : Value} {zs : List Int} (h : ArgI w v zs) : zs.length ≤ maxLen := by
  obtain ⟨a, c, _, h1, h2, _⟩ := h; omega
/-- .. out of the row's own reading of it. -/
theorem ArgI.ofRow {w : World} {a : Addr} {len cap : Nat} {zs : List Int} (hl : len ≤ cap) (hm : cap ≤ maxLen) (hz : len ≤ zs.length) (hcell : ∀ i, i < zs.length → w.cell? (a.add i) = some (.int .i64 (zs.getD i 0))) :
    ArgI w (.slice (some a) len cap) (zs.take len) := by
  have e : (zs.take len).length = len := by simp; omega
  refine ⟨some a, cap, by rw [e], by rw [e]; exact hl, hm, fun h0 => ?_⟩
  rw [e] at h0
  obtain ⟨b, off, spot⟩ := a
  have c0 := hcell 0 (by omega)
  have hs : spot = none := by
    cases spot with
    | none => rfl
    | some q =>
      simp only [Addr.add, World.cell?] at c0
      split at c0 <;> simp at c0
  subst hs
  refine ⟨b, off, rfl, (by have c1 : w.cell? ⟨b, off, none⟩ = some (.int .i64 (zs.getD 0 0)) := c0; have := World.block_lt_of_cell? (w := w) (a := ⟨b, off, none⟩) c1; exact this), fun j z hj => ?_⟩
  have hjl : j < len := by
    have := (List.getElem?_eq_some_iff.1 hj).1
    omega
  have cj := hcell j (by omega)
  have e2 : ({ block := b, off := off, spot := none } : Addr).add j = ⟨b, off + j, none⟩ := by
    cases j with
    | zero => rfl
    | succ j => simp [Addr.add]
  rw [e2] at cj
  rw [cj]
  rw [List.getElem?_take, if_pos hjl] at hj
  simp [hj]
theorem SlI.fr {w w' : World} {v : Value} {zs : List Int} (h : SlI w v zs) {G : Nat → Prop} (f : Fr G w w') (hG : ∀ b, v.ownBlock = some b → ¬ G b) : SlI w' v zs := by
  obtain ⟨a, c, rfl, h1, h2, h3⟩ := h
  refine ⟨a, c, rfl, h1, h2, h3.imp id ?_⟩
  rintro ⟨b, off, rfl, hb, hc⟩
  exact ⟨b, off, rfl, Nat.lt_of_lt_of_le hb f.size, fun j z hj => by rw [f.cell (p := ⟨b, off + j, none⟩) hb (hG b rfl)]; exact hc j z hj⟩
theorem SlI.drewN {w : World} {v : Value} {zs : List Int} (h : SlI w v zs) (d : Nat) : SlI (w.drewN d) v zs := h.fr ((Fr.refl NoF w).drewN d) (fun _ _ q => q)
theorem SlI.ofOwn {w : World} {base e : Nat} {v : Value} {n : Nat} {zs : List Int} (h : w.ownsRow base e 1 v n (zs.map (Value.int .i64))) : SlI w v zs ∧ zs.length = n ∧ ∀ b, v.ownBlock = some b → base ≤ b := by
  obtain ⟨h1, h2⟩ := h
  simp only [List.length_map, Nat.mul_one] at h1
  subst h1
  rcases h2 with ⟨rfl, h2⟩ | ⟨g, cap, cur, rfl, hg, hh, h3, h4, h5, h6⟩
  · have : zs = [] := List.eq_nil_of_length_eq_zero h2
    subst this
    exact ⟨SlI.nil w, rfl, fun b hb => by cases hb⟩
  · refine ⟨⟨_, cap, rfl, h3, h4, .inr ⟨g, 0, rfl, ?_, ?_⟩⟩, rfl, fun b hb => by simp [Value.ownBlock] at hb; omega⟩
    · rcases Nat.lt_or_ge g w.heap.size with h' | h'
      · exact h'
      · simp [Array.getElem?_eq_none h'] at hh
    · intro j z hj
      have hjl : j < zs.length := (List.getElem?_eq_some_iff.1 hj).1
      have e1 : (zs.map (Value.int .i64))[j]? = some (.int .i64 z) := by simp [hj]
      rw [← h6, List.getElem?_take, if_pos (by omega)] at e1
      simpa [World.cell?, hh] using e1

theorem infoInt : (Try.prog.info? 3).map (fun i => (i.zero, i.size, i.bytes)) = some (some (.int .i64 0), 1, 8) := by kernel_rfl

set_option maxHeartbeats 400000 in
theorem same_calls {w : World} {va vb : Value} {xs ys : List Int} (ha : SlI w va xs) (hb : SlI w vb ys) :
    Calls Try.prog 23 #[va, vb] w fun e w' => e = .returned (.bool (decide (xs = ys))) ∧ ∃ d, w.drewN d = w' := by
  have la := ha.len
  have lb := hb.len
  unfold maxLen at la lb
  obtain ⟨aa, ca, ea, _, _, _⟩ := id ha
  obtain ⟨ab, cb, eb, _, _, _⟩ := id hb
  subst ea eb
  by_cases hl : xs.length = ys.length
  · have h1 : (((xs.length : Nat) : Int) != ((ys.length : Nat) : Int)) = false := by simp; omega
    have HL := Lib.hid hl
    clear hl
    go_enter Try.func23, Try.ntmps23
    go_wp2
    go_loopw [5] (fun i wr => ∃ k : Nat, k ≤ xs.length ∧ i = .int .i64 k ∧ (∀ j, j < k → xs[j]? = ys[j]?) ∧ ∃ d, w.drewN d = wr) (fun i _ => xs.length - (intOf i).toNat)
    case atStart => exact ⟨0, Nat.zero_le _, rfl, fun j hj => by omega, 0, rfl⟩
    case round =>
      obtain ⟨k, hk, rfl, heq, d, rfl⟩ := hrel
      have HE := Lib.hid heq
      clear heq
      by_cases hlt : k < xs.length
      · obtain ⟨xb, xo, xc, e1, q1, q2, _, hx⟩ := ha.at hlt
        obtain ⟨yb, yo, yc, e2, q3, q4, _, hy⟩ := hb.at (k := k) (by have := HL.out; omega)
        simp only [Value.slice.injEq] at e1 e2
        obtain ⟨rfl, _, rfl⟩ := e1
        obtain ⟨rfl, _, rfl⟩ := e2
        have hk2 : k < ys.length := by have := HL.out; omega
        have HX := Lib.hid (List.getElem?_eq_getElem hlt)
        have HY := Lib.hid (List.getElem?_eq_getElem hk2)
        have cx : w.cell? ⟨xb, xo + k, none⟩ = some (.int .i64 xs[k]) := hx k _ HX.out
        have cy : w.cell? ⟨yb, yo + k, none⟩ = some (.int .i64 ys[k]) := hy k _ HY.out
        generalize xs[k] = p at cx HX
        generalize ys[k] = q at cy HY
        clear hx hy ha hb
        by_cases hpq : p = q
        · subst hpq
          have HK : Hid (xs[k]? = ys[k]?) := by unfold Hid; rw [HX.out, HY.out]
          clear HX HY
          have h5 : (p != p) = false := by simp
          go_wp2
          go_quiet (fail)
          go_wp2
          go_roundw
          case rel => exact ⟨k + 1, by omega, by go_num, fun j hj => by
            rcases Nat.lt_or_ge j k with h | h
            · exact HE.out j h
            · obtain rfl : j = k := by omega
              exact HK.out, _, rfl⟩
          case measure => simp [intOf]; omega
        · have h5 : (p != q) = true := by simp [hpq]
          have HN : Hid (decide (xs = ys) = false) := by
            unfold Hid
            simp only [decide_eq_false_iff_not]
            intro e
            have h := HX.out
            rw [e, HY.out] at h
            exact hpq (Option.some.inj h).symm
          clear HX HY hpq
          go_wp2
          go_quiet (fail)
          go_wp2
          go_ret
          exact ⟨by rw [HN.out]; rfl, _, (World.drewN_drewN _ _ _).symm⟩
      · obtain rfl : k = xs.length := by omega
        have HN : Hid (decide (xs = ys) = true) := by
          unfold Hid
          simp only [decide_eq_true_eq]
          apply List.ext_getElem?
          intro j
          rcases Nat.lt_or_ge j xs.length with h | h
          · exact HE.out j h
          · rw [List.getElem?_eq_none h, List.getElem?_eq_none (by have := HL.out; omega)]
        clear ha hb
        go_wp2
        go_ret
        exact ⟨by rw [HN.out]; rfl, _, rfl⟩
  · have h1 : (((xs.length : Nat) : Int) != ((ys.length : Nat) : Int)) = true := by simp; omega
    have HN : Hid (decide (xs = ys) = false) := by
      unfold Hid
      simp only [decide_eq_false_iff_not]
      intro e; exact hl (by rw [e])
    clear hl ha hb
    go_enter Try.func23, Try.ntmps23
    go_wp2
    go_ret
    exact ⟨by rw [HN.out]; rfl, 0, rfl⟩
end Go.Proofs.Ytgpjjdaboapkjaa
