/-
  The document's own Disk: its pages as a list; at.
-/
import Derived.Test.YtnideelidfpicaaGreatDoorK03
import Derived.Test.YtnideelidfpicaaGreatDoorK08
namespace Go.Proofs.YtnideelidfpicaaGreatDoor
open Go.RowKit
set_option linter.unusedVariables false

/-- Pages as cells. -/
def plC (l : List (Nat × Nat)) : List Value := l.flatMap fun p => [.int .u32 (p.1 : Nat), .int .u64 (p.2 : Nat)]
theorem plC_len (l : List (Nat × Nat)) : (plC l).length = l.length * 2 := by
  induction l with
  | nil => rfl
  | cons a l ih => simp only [plC, List.flatMap_cons, List.length_append, List.length_cons, List.length_nil]; unfold plC at ih; omega
theorem plC_app (a b : List (Nat × Nat)) : plC (a ++ b) = plC a ++ plC b := by unfold plC; rw [List.flatMap_append]
theorem plC_at : ∀ (l : List (Nat × Nat)) {i : Nat} (h : i < l.length), (plC l)[i * 2]? = some (.int .u32 (l[i].1 : Nat)) ∧ (plC l)[i * 2 + 1]? = some (.int .u64 (l[i].2 : Nat))
  | [], i, h => by simp at h
  | a :: l, 0, h => by simp [plC]
  | a :: l, i + 1, h => by
    have ih := plC_at l (i := i) (by simpa using h)
    have e : plC (a :: l) = [.int .u32 (a.1 : Nat), .int .u64 (a.2 : Nat)] ++ plC l := rfl
    have h0 : ∀ j, ([Value.int .u32 (a.1 : Nat), .int .u64 (a.2 : Nat)] ++ plC l)[j + 2]? = (plC l)[j]? := fun j => by simp
    rw [e, show (i + 1) * 2 = i * 2 + 2 from by omega, h0, show i * 2 + 2 + 1 = (i * 2 + 1) + 2 from by omega, h0]
    exact ih
theorem plC_one (l : List (Nat × Nat)) : ∀ u ∈ plC l, u.oneCell' = true := by
  intro u hu
  obtain ⟨p, _, h⟩ := List.mem_flatMap.1 hu
  simp at h
  rcases h with rfl | rfl <;> rfl
theorem plC_take (l : List (Nat × Nat)) (k : Nat) : (plC l).take (k * 2) = plC (l.take k) := by
  rcases Nat.le_total k l.length with h | h
  · have e : plC l = plC (l.take k) ++ plC (l.drop k) := by rw [← plC_app, List.take_append_drop]
    rw [e, List.take_left' (by rw [plC_len, List.length_take]; omega)]
  · rw [List.take_of_length_le (by rw [plC_len]; omega), List.take_of_length_le h]
theorem plC_drop (l : List (Nat × Nat)) (k : Nat) : (plC l).drop (k * 2) = plC (l.drop k) := by
  rcases Nat.le_total k l.length with h | h
  · have e : plC l = plC (l.take k) ++ plC (l.drop k) := by rw [← plC_app, List.take_append_drop]
    rw [e, List.drop_left' (by rw [plC_len, List.length_take]; omega)]
  · rw [List.drop_of_length_le (by rw [plC_len]; omega), List.drop_of_length_le h]; rfl
/-- A slice of pages. -/
def SlP (w : World) (v : Value) (l : List (Nat × Nat)) : Prop := SlC w 2 v l.length (plC l)
/-- Where an id is. -/
def atP (l : List (Nat × Nat)) (id : Nat) : Option Nat := l.findIdx? (fun p => p.1 == id)
def atZ : Option Nat → Int
  | none => -1
  | some k => k
section
variable {w w' : World} {v : Value} {l : List (Nat × Nat)}
theorem SlP.fr (h : SlP w v l) {G : Nat → Prop} (f : Fr G w w') (hG : ∀ b, v.ownBlock = some b → ¬ G b) : SlP w' v l := SlC.fr h f hG
theorem SlP.fr0 (h : SlP w v l) (f : Fr NoF w w') : SlP w' v l := SlC.keep h f
theorem SlP.shape (h : SlP w v l) : ∃ a c, v = .slice a l.length c ∧ l.length ≤ c ∧ c ≤ maxLen := SlC.shape h
theorem SlP.at (h : SlP w v l) {i : Nat} (hi : i < l.length) : ∃ b off c, v = .slice (some ⟨b, off, none⟩) l.length c ∧ l.length ≤ c ∧ c ≤ maxLen ∧ b < w.heap.size ∧ w.cell? ⟨b, off + i * 2, none⟩ = some (.int .u32 (l[i].1 : Nat)) ∧ w.cell? ⟨b, off + (i * 2 + 1), none⟩ = some (.int .u64 (l[i].2 : Nat)) := by
  obtain ⟨b, off, c, e, h1, h2, h3, h4⟩ := SlC.at h hi (by omega)
  exact ⟨b, off, c, e, h1, h2, h3, h4 _ _ (plC_at l hi).1, h4 _ _ (plC_at l hi).2⟩
theorem atP_none {l : List (Nat × Nat)} {id : Nat} (h : ∀ k (hk : k < l.length), ¬ l[k].1 = id) : atP l id = none := by
  unfold atP
  rw [List.findIdx?_eq_none_iff]
  intro p hp
  obtain ⟨k, hk, rfl⟩ := List.mem_iff_getElem.1 hp
  simpa using h k hk
theorem atP_some {l : List (Nat × Nat)} {id k : Nat} (hk : k < l.length) (h : l[k].1 = id) (hn : ∀ j (hj : j < k), ¬ (l[j]'(by omega)).1 = id) : atP l id = some k := by
  unfold atP
  rw [List.findIdx?_eq_some_iff_getElem]
  exact ⟨hk, by simpa using h, fun j hj => by simpa using hn j hj⟩
set_option maxHeartbeats 1000000 in
theorem at_calls (h : SlP w v l) (id : Nat) : Calls Tryz.prog 49 #[v, .int .u32 id] w fun e w' => e = .returned (.int .i64 (atZ (atP l id))) ∧ w = w' := by
  obtain ⟨a, c, rfl, q1, q2⟩ := h.shape
  unfold maxLen at q2
  have HS := Lib.hid h
  have hll : l.length ≤ 9223372036854775807 := by omega
  clear h
  go_enter Tryz.func49, Tryz.ntmps49
  go_wp2
  go_loopw [5] (fun i wr => ∃ k : Nat, k ≤ l.length ∧ i = .int .i64 k ∧ wr = w ∧ Hid (∀ j (hj : j < l.length), j < k → ¬ l[j].1 = id)) (fun i _ => l.length - (intOf i).toNat)
  case atStart => exact ⟨0, Nat.zero_le _, rfl, rfl, fun j _ hj => (by omega)⟩
  case round =>
    obtain ⟨k, hk, rfl, rfl, HN⟩ := hrel
    by_cases hlt : k < l.length
    · obtain ⟨b, off, c', ev, _, _, hb, cy, _⟩ := HS.out.at hlt
      simp only [Value.slice.injEq] at ev
      obtain ⟨rfl, _, rfl⟩ := ev
      by_cases he : l[k].1 = id
      · have HA : Hid (atP l id = some k) := atP_some hlt he (fun j hj => HN.out j (by omega) hj)
        rw [he] at cy
        clear he HN
        go_wp2
        go_returns
        exact ⟨by rw [HA.out]; rfl, rfl⟩
      · have HE := Lib.hid he
        have hne : ¬ ((l[k].1 : Nat) : Int) = (id : Int) := fun q => he (by omega)
        clear he
        generalize hy : l[k].1 = y at cy hne
        have HY := Lib.hid hy
        have hbq : ((y : Int) == (id : Int)) = false := by simpa using hne
        clear hy
        go_wp2
        go_roundw
        case rel =>
          refine ⟨k + 1, by omega, by go_num, by first | rfl | trivial, fun j hj hjk => ?_⟩
          by_cases e : j = k
          · subst e; exact HE.out
          · exact HN.out j hj (by omega)
        case measure => simp [intOf]; omega
    · obtain rfl : k = l.length := by omega
      have HA : Hid (atP l id = none) := atP_none (fun j hj => HN.out j hj hj)
      clear HN
      go_wp2
      go_returns
      exact ⟨by rw [HA.out]; rfl, rfl⟩
end
end Go.Proofs.YtnideelidfpicaaGreatDoor
