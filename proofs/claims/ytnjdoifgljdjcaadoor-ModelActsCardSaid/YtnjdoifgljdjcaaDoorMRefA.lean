/-
  The document's own Model in memory: its pages as a list; At, full.
-/
import Derived.Test.YtnjdoifgljdjcaaDoorModA
import Derived.Test.YtnjdoifgljdjcaaDoorR4A
namespace Go.Proofs.YtnjdoifgljdjcaaDoor
open Go.RowKit
set_option linter.unusedVariables false

structure Pg where
  id : Nat
  v : Nat
  pins : Nat
instance : Inhabited Pg := ⟨⟨0, 0, 0⟩⟩
def pgCs (p : Pg) : List Value := [.int .u32 (p.id : Nat), .int .u64 (p.v : Nat), .int .i64 (p.pins : Nat)]
/-- Pages as cells. -/
def gC (l : List Pg) : List Value := l.flatMap pgCs
theorem gC_len (l : List Pg) : (gC l).length = l.length * 3 := by
  induction l with
  | nil => rfl
  | cons a l ih => simp only [gC, List.flatMap_cons, List.length_append, List.length_cons, pgCs, List.length_nil]; unfold gC at ih; omega
theorem gC_app (a b : List Pg) : gC (a ++ b) = gC a ++ gC b := by unfold gC; rw [List.flatMap_append]
theorem gC_at : ∀ (l : List Pg) {i : Nat} (h : i < l.length), (gC l)[i * 3]? = some (.int .u32 (l[i].id : Nat)) ∧ (gC l)[i * 3 + 1]? = some (.int .u64 (l[i].v : Nat)) ∧ (gC l)[i * 3 + 2]? = some (.int .i64 (l[i].pins : Nat))
  | [], i, h => by simp at h
  | a :: l, 0, h => by simp [gC, pgCs]
  | a :: l, i + 1, h => by
    have ih := gC_at l (i := i) (by simpa using h)
    have e : gC (a :: l) = [.int .u32 (a.id : Nat), .int .u64 (a.v : Nat), .int .i64 (a.pins : Nat)] ++ gC l := rfl
    have h0 : ∀ j, ([Value.int .u32 (a.id : Nat), .int .u64 (a.v : Nat), .int .i64 (a.pins : Nat)] ++ gC l)[j + 3]? = (gC l)[j]? := fun j => by simp
    rw [e, show (i + 1) * 3 = i * 3 + 3 from by omega, h0, show i * 3 + 3 + 1 = (i * 3 + 1) + 3 from by omega, h0, show i * 3 + 3 + 2 = (i * 3 + 2) + 3 from by omega, h0]
    exact ih
theorem gC_one (l : List Pg) : ∀ u ∈ gC l, u.oneCell' = true := by
  intro u hu
  obtain ⟨p, _, h⟩ := List.mem_flatMap.1 hu
  simp [pgCs] at h
  rcases h with rfl | rfl | rfl <;> rfl
theorem gC_take (l : List Pg) (k : Nat) : (gC l).take (k * 3) = gC (l.take k) := by
  rcases Nat.le_total k l.length with h | h
  · have e : gC l = gC (l.take k) ++ gC (l.drop k) := by rw [← gC_app, List.take_append_drop]
    rw [e, List.take_left' (by rw [gC_len, List.length_take]; omega)]
  · rw [List.take_of_length_le (by rw [gC_len]; omega), List.take_of_length_le h]
theorem gC_drop (l : List Pg) (k : Nat) : (gC l).drop (k * 3) = gC (l.drop k) := by
  rcases Nat.le_total k l.length with h | h
  · have e : gC l = gC (l.take k) ++ gC (l.drop k) := by rw [← gC_app, List.take_append_drop]
    rw [e, List.drop_left' (by rw [gC_len, List.length_take]; omega)]
  · rw [List.drop_of_length_le (by rw [gC_len]; omega), List.drop_of_length_le h]; rfl
def gF (l : List Pg) (i : Nat) : Value := ((gC l)[i]?).getD (.bool false)
theorem gF_list (l : List Pg) : (List.range (l.length * 3)).map (gF l) = gC l := by
  apply List.ext_getElem?
  intro j
  by_cases h : j < l.length * 3
  · have h2 : j < (gC l).length := by rw [gC_len]; exact h
    simp [gF, h, h2]
  · rw [List.getElem?_eq_none (by simp; omega), List.getElem?_eq_none (by rw [gC_len]; omega)]
theorem gF_at (l : List Pg) {k : Nat} (h : k < l.length) : gF l (k * 3) = .int .u32 (l[k].id : Nat) ∧ gF l (k * 3 + 1) = .int .u64 (l[k].v : Nat) ∧ gF l (k * 3 + 2) = .int .i64 (l[k].pins : Nat) := by
  obtain ⟨h1, h2, h3⟩ := gC_at l h
  unfold gF
  rw [h1, h2, h3]
  exact ⟨rfl, rfl, rfl⟩
theorem gF_set (l : List Pg) {k : Nat} (h : k < l.length) (p : Pg) (hid : p.id = l[k].id) {c : Nat} (hc : c = 1 ∧ p.pins = l[k].pins ∨ c = 2 ∧ p.v = l[k].v) :
    ∀ i, i < l.length * 3 → upd (gF l) (k * 3 + c) (if c = 1 then .int .u64 (p.v : Nat) else .int .i64 (p.pins : Nat)) i = gF (l.set k p) i := by
  intro i hi
  have hl : (l.set k p).length = l.length := List.length_set
  have hm : i / 3 < l.length := by omega
  obtain ⟨a1, a2, a3⟩ := gF_at l hm
  obtain ⟨b1, b2, b3⟩ := gF_at (l.set k p) (k := i / 3) (by omega)
  have hr : i % 3 = 0 ∨ i % 3 = 1 ∨ i % 3 = 2 := by omega
  by_cases ek : k = i / 3
  · subst ek
    simp only [List.getElem_set_self] at b1 b2 b3
    rcases hr with q | q | q
    · have ei : i = i / 3 * 3 := by omega
      have hne : ¬ i = i / 3 * 3 + c := by omega
      rw [upd_other _ _ hne]
      rw [← ei] at a1 b1
      rw [a1, b1, hid]
    · have ei : i = i / 3 * 3 + 1 := by omega
      rw [← ei] at a2 b2
      rcases hc with ⟨rfl, h2⟩ | ⟨rfl, h2⟩
      · rw [← ei, upd_same, b2]; rfl
      · rw [upd_other _ _ (by omega), a2, b2, h2]
    · have ei : i = i / 3 * 3 + 2 := by omega
      rw [← ei] at a3 b3
      rcases hc with ⟨rfl, h2⟩ | ⟨rfl, h2⟩
      · rw [upd_other _ _ (by omega), a3, b3, h2]
      · rw [← ei, upd_same, b3]; rfl
  · have hc3 : c ≤ 2 := by omega
    rw [upd_other _ _ (by omega)]
    simp only [List.getElem_set_ne ek] at b1 b2 b3
    rcases hr with q | q | q
    · have ei : i = i / 3 * 3 := by omega
      rw [← ei] at a1 b1
      rw [a1, b1]
    · have ei : i = i / 3 * 3 + 1 := by omega
      rw [← ei] at a2 b2
      rw [a2, b2]
    · have ei : i = i / 3 * 3 + 2 := by omega
      rw [← ei] at a3 b3
      rw [a3, b3]
/-- Where an id is. -/
def atG (l : List Pg) (id : Nat) : Option Nat := l.findIdx? (fun p => p.id == id)
def atGZ : Option Nat → Int
  | none => -1
  | some k => k
theorem atG_none {l : List Pg} {id : Nat} (h : ∀ k (hk : k < l.length), ¬ l[k].id = id) : atG l id = none := by
  unfold atG
  rw [List.findIdx?_eq_none_iff]
  intro p hp
  obtain ⟨k, hk, rfl⟩ := List.mem_iff_getElem.1 hp
  simpa using h k hk
theorem atG_some {l : List Pg} {id k : Nat} (hk : k < l.length) (h : l[k].id = id) (hn : ∀ j (hj : j < k), ¬ (l[j]'(by omega)).id = id) : atG l id = some k := by
  unfold atG
  rw [List.findIdx?_eq_some_iff_getElem]
  exact ⟨hk, by simpa using h, fun j hj => by simpa using hn j hj⟩
theorem atG_is {l : List Pg} {id k : Nat} (h : atG l id = some k) : ∃ hk : k < l.length, l[k].id = id := by
  unfold atG at h
  rw [List.findIdx?_eq_some_iff_getElem] at h
  obtain ⟨hk, h1, _⟩ := h
  exact ⟨hk, by simpa using h1⟩
/-- How many are pinned. -/
def pinL (l : List Pg) : Nat := l.countP (fun p => decide (0 < p.pins))
theorem pinL_le (l : List Pg) : pinL l ≤ l.length := List.countP_le_length
theorem pinL_take (l : List Pg) {k : Nat} (h : k < l.length) : pinL (l.take (k + 1)) = pinL (l.take k) + (if 0 < l[k].pins then 1 else 0) := by
  rw [List.take_succ_eq_append_getElem h]
  unfold pinL
  rw [List.countP_append]
  by_cases q : 0 < l[k].pins <;> simp [q]
theorem EIG : EI Tryd.prog 30 49 3 24 := EI.mk' (z := .agg #[.int .u32 0, .int .u64 0, .int .i64 0]) Tryd.underlying30 (by kernel_rfl) rfl (by decide)

def rgC (n room : Nat) (lv : Value) : Nat → Value
  | 0 => .int .i64 n
  | 1 => .int .i64 room
  | _ => lv
structure RG (w : World) (r n room : Nat) (l : List Pg) (lv : Value) : Prop where
  hd : Blk w r 3 (rgC n room lv)
  hl : SlF w 49 3 lv l.length (gF l)
  nb : ∀ i, lv.ownBlock = some i → ¬ i = r
  b1 : l.length ≤ 65535 ∧ n ≤ 65535 ∧ room ≤ 65535
  ok : ∀ p ∈ l, okId p.id ∧ okV p.v ∧ p.pins < 1000000
def GFr (r : Nat) (lv : Value) : Nat → Prop := fun i => i = r ∨ lv.ownBlock = some i
section
variable {w w' : World} {r n room : Nat} {l : List Pg} {lv : Value}
theorem RG.fr (h : RG w r n room l lv) {G : Nat → Prop} (f : Fr G w w') (hG : ∀ i, GFr r lv i → ¬ G i) : RG w' r n room l lv :=
  ⟨h.hd.fr f (hG r (.inl rfl)), h.hl.fr f (fun b q => hG b (.inr q)), h.nb, h.b1, h.ok⟩
theorem RG.fr0 (h : RG w r n room l lv) (f : Fr NoF w w') : RG w' r n room l lv := h.fr f (fun _ _ q => q)
theorem RG.lt (h : RG w r n room l lv) : ∀ i, GFr r lv i → i < w.heap.size := by
  rintro i (rfl | q)
  · exact h.hd.lt
  · exact h.hl.lt i q
theorem RG.c2 (h : RG w r n room l lv) : w.cell? ⟨r, 2, none⟩ = some lv := h.hd.cell (i := 2) (by omega)
theorem RG.c0 (h : RG w r n room l lv) : w.cell? ⟨r, 0, none⟩ = some (.int .i64 n) := h.hd.cell (i := 0) (by omega)
theorem RG.c1 (h : RG w r n room l lv) : w.cell? ⟨r, 1, none⟩ = some (.int .i64 room) := h.hd.cell (i := 1) (by omega)
/-- A page in memory. -/
theorem RG.at (h : RG w r n room l lv) {k : Nat} (hk : k < l.length) : ∃ g cap, lv = .slice (some ⟨g, 0, none⟩) l.length cap ∧ l.length ≤ cap ∧ cap ≤ 9223372036854775807 ∧ g < w.heap.size ∧
    w.cell? ⟨g, k * 3, none⟩ = some (.int .u32 (l[k].id : Nat)) ∧ w.cell? ⟨g, k * 3 + 1, none⟩ = some (.int .u64 (l[k].v : Nat)) ∧ w.cell? ⟨g, k * 3 + 2, none⟩ = some (.int .i64 (l[k].pins : Nat)) ∧ (∀ i, w.frozen? ⟨g, i, none⟩ = false) := by
  obtain ⟨g, cap, e, h1, h2, h3, h4, h5⟩ := h.hl.at (by omega)
  obtain ⟨a1, a2, a3⟩ := gF_at l hk
  unfold maxLen at h2
  exact ⟨g, cap, e, h1, by omega, h3, by rw [h5 _ (by omega), a1], by rw [h5 _ (by omega), a2], by rw [h5 _ (by omega), a3], h4⟩
set_option maxHeartbeats 1000000 in
theorem atG_calls (h : RG w r n room l lv) (id : Nat) : Calls Tryd.prog 12 #[.pointer (some ⟨r, 0, none⟩), .int .u32 id] w fun e w' => e = .returned (.int .i64 (atGZ (atG l id))) ∧ w = w' := by
  have c2 := h.c2
  have lr := h.hd.lt
  obtain ⟨a, c, rfl, q1, q2⟩ := h.hl.shape
  unfold maxLen at q2
  have HS := Lib.hid h
  have hll : l.length ≤ 65535 := h.b1.1
  clear h
  go_enter Tryd.func12, Tryd.ntmps12
  go_wp2
  go_loopw [5] (fun i wr => ∃ k : Nat, k ≤ l.length ∧ i = .int .i64 k ∧ wr = w ∧ Hid (∀ j (hj : j < l.length), j < k → ¬ l[j].id = id)) (fun i _ => l.length - (intOf i).toNat)
  case atStart => exact ⟨0, Nat.zero_le _, rfl, rfl, fun j _ hj => (by omega)⟩
  case round =>
    obtain ⟨k, hk, rfl, rfl, HN⟩ := hrel
    by_cases hlt : k < l.length
    · obtain ⟨g, cap, ev, _, _, hb, cy, _, _, _⟩ := HS.out.at hlt
      simp only [Value.slice.injEq] at ev
      obtain ⟨rfl, _, rfl⟩ := ev
      by_cases he : l[k].id = id
      · have HA : Hid (atG l id = some k) := atG_some hlt he (fun j hj => HN.out j (by omega) hj)
        rw [he] at cy
        clear he HN
        go_wp2
        go_returns
        exact ⟨by rw [HA.out]; rfl, rfl⟩
      · have HE := Lib.hid he
        have hne : ¬ ((l[k].id : Nat) : Int) = (id : Int) := fun q => he (by omega)
        clear he
        generalize hy : l[k].id = y at cy hne
        have HY := Lib.hid hy
        have hbq : ((y : Int) == (id : Int)) = false := by simpa using hne
        clear hy
        go_wp2
        go_roundw
        case rel =>
          refine ⟨k + 1, by omega, by go_num, by first | rfl | trivial, fun j hj hjk => ?_⟩
          by_cases e : j = k
          · subst e; exact HE.out
          · exact HN.out j hj (by omega)
        case measure => simp [intOf] <;> omega
    · obtain rfl : k = l.length := by omega
      have HA : Hid (atG l id = none) := atG_none (fun j hj => HN.out j hj hj)
      clear HN
      go_wp2
      go_returns
      exact ⟨by rw [HA.out]; rfl, rfl⟩
set_option maxHeartbeats 1000000 in
theorem full_calls' (h : RG w r n room l lv) : Calls Tryd.prog 22 #[.pointer (some ⟨r, 0, none⟩)] w fun e w' => e = .returned (.bool (decide (n ≤ pinL l))) ∧ w = w' := by
  have c2 := h.c2
  have c0 := h.c0
  have lr := h.hd.lt
  obtain ⟨a, c, rfl, q1, q2⟩ := h.hl.shape
  unfold maxLen at q2
  have HS := Lib.hid h
  have hll : l.length ≤ 65535 := h.b1.1
  have hpl := pinL_le l
  clear h
  go_enter Tryd.func22, Tryd.ntmps22
  go_wp2
  go_loopw [3, 4] (fun c i wr => ∃ k : Nat, k ≤ l.length ∧ i = .int .i64 k ∧ wr = w ∧ c = .int .i64 (pinL (l.take k) : Nat)) (fun _ i _ => l.length - (intOf i).toNat)
  case atStart => exact ⟨0, Nat.zero_le _, rfl, rfl, rfl⟩
  case round =>
    obtain ⟨k, hk, rfl, rfl, rfl⟩ := hrel
    by_cases hlt : k < l.length
    · obtain ⟨g, cap, ev, _, _, hb, _, _, cy, _⟩ := HS.out.at hlt
      simp only [Value.slice.injEq] at ev
      obtain ⟨rfl, _, rfl⟩ := ev
      have HP := Lib.hid (pinL_take l hlt)
      have hpk := Nat.le_trans (pinL_le (l.take k)) (List.length_take_le k l)
      by_cases he : 0 < l[k].pins
      · have HE := Lib.hid he
        generalize l[k].pins = y at cy he HP HE
        generalize pinL (l.take k) = z at *
        have hcw : IntKind.i64.wrap ((z : Int) + 1) = (z : Int) + 1 := IntWalk.i64_in _ (by omega)
        have hg : decide (0 < (y : Int)) = true := by simp; omega
        clear he
        go_wp2
        go_roundw
        case rel => exact ⟨k + 1, by omega, by go_num, by first | rfl | trivial, by rw [HP.out, if_pos HE.out]; go_num⟩
        case measure => simp [intOf] <;> omega
      · have HE := Lib.hid he
        generalize l[k].pins = y at cy he HP HE
        generalize pinL (l.take k) = z at *
        have hg : decide (0 < (y : Int)) = false := by simp; omega
        clear he
        go_wp2
        go_roundw
        case rel => exact ⟨k + 1, by omega, by go_num, by first | rfl | trivial, by rw [HP.out, if_neg HE.out]; rfl⟩
        case measure => simp [intOf] <;> omega
    · obtain rfl : k = l.length := by omega
      rw [List.take_length]
      go_wp2
      go_returns
      exact ⟨by simp, rfl⟩
end
end Go.Proofs.YtnjdoifgljdjcaaDoor
