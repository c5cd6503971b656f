/-
  Package hatcheckref02: rows as slices of slices; At, without, thing, row, Beside.
-/
import Derived.Test.YtgpjjdaboapkjaaRingE
import Derived.Test.YtgpjjdaboapkjaaRingF
import Derived.Test.YtgpjjdaboapkjaaSl
import Derived.Deep.RegionHeld3
namespace Go.Proofs.Ytgpjjdaboapkjaa
open Go.RowKit
set_option linter.unusedVariables false

theorem SlI.toC {w : World} {v : Value} {zs : List Int} (h : SlI w v zs) : SlC w 1 v zs.length (zs.map (Value.int .i64)) := by
  obtain ⟨a, c, rfl, h1, h2, h3⟩ := h
  refine ⟨a, c, rfl, by simp, fun u hu => ?_, h1, h2, h3.imp id ?_⟩
  · obtain ⟨z, _, rfl⟩ := List.mem_map.1 hu; rfl
  · rintro ⟨b, off, rfl, hb, hc⟩
    refine ⟨b, off, rfl, hb, fun j u hj => ?_⟩
    rw [List.getElem?_map] at hj
    cases e : zs[j]? with
    | none => rw [e] at hj; cases hj
    | some z => rw [e] at hj; obtain rfl := Option.some.inj hj; exact hc j z e
theorem SlI.ofC {w : World} {v : Value} {zs : List Int} {m : Nat} (h : SlC w 1 v m (zs.map (Value.int .i64))) : SlI w v zs := by
  obtain ⟨a, c, rfl, h1, _, h3, h4, h5⟩ := h
  simp at h1; subst h1
  refine ⟨a, c, rfl, h3, h4, h5.imp id ?_⟩
  rintro ⟨b, off, rfl, hb, hc⟩
  exact ⟨b, off, rfl, hb, fun j z hj => hc j _ (by simp [hj])⟩

/-- The lists are such as rows may be. -/
def RE (N m : Nat) (L : List (List Nat)) : Prop := ∃ rw nx pv ls, RInv N m rw nx pv ls L
theorem RE.ix {N m : Nat} {L : List (List Nat)} (h : RE N m L) (k : Nat) (l : List Nat) (hl : L[k]? = some l) : l.Nodup ∧ ∀ x, x ∈ l → x < N ∧ rowIx L x = some k := by
  obtain ⟨rw, nx, pv, ls, h⟩ := h
  exact ⟨h.nd k l hl, fun x hx => ⟨(h.mem k l hl x hx).1, h.rowIx_of hl hx⟩⟩
theorem RE.len {N m : Nat} {L : List (List Nat)} (h : RE N m L) (k : Nat) (l : List Nat) (hl : L[k]? = some l) : l.length ≤ N := by
  have := List.Nodup.length_le_of_subset (l₁ := l) (l₂ := List.range N) (h.ix k l hl).1 (fun y hy => List.mem_range.2 ((h.ix k l hl).2 y hy).1)
  simpa using this
theorem RE.lenL {N m : Nat} {L : List (List Nat)} (h : RE N m L) : L.length = m := by obtain ⟨rw, nx, pv, ls, h⟩ := h; exact h.len
theorem RE.out {N m : Nat} {L : List (List Nat)} (h : RE N m L) (x : Nat) : RE N m (outL L x) := by
  obtain ⟨rw, nx, pv, ls, h⟩ := h
  cases e : rowIx L x with
  | none => exact ⟨rw, nx, pv, ls, by simpa [outL, e] using h⟩
  | some k =>
    obtain ⟨l1, l2, hl⟩ := h.split e
    exact ⟨_, _, _, _, by rw [h.outL_eq hl]; exact h.take hl⟩
theorem RE.put {N m : Nat} {L : List (List Nat)} (h : RE N m L) {k x : Nat} (hk : k < m) (hx : x < N) (front : Bool) : RE N m (putL L k x front) := by
  have h1 := h.out x
  obtain ⟨rw, nx, pv, ls, h⟩ := h
  obtain ⟨rw1, nx1, pv1, ls1, hi1⟩ := h1
  obtain ⟨l, hl, hl'⟩ := hi1.get_out hk
  have hrx := hi1.row_none hx (h.rowIx_out x)
  cases front with
  | true => exact ⟨_, _, _, _, by have := hi1.give (l1 := []) (l2 := l) (k := k) hl hx hrx rfl rfl; simpa [putL, hl'] using this⟩
  | false => exact ⟨_, _, _, _, by have := hi1.give (l1 := l) (l2 := []) (k := k) (by simpa using hl) hx hrx rfl rfl; simpa [putL, hl'] using this⟩
theorem RE.bef {N m : Nat} {L : List (List Nat)} (h : RE N m L) {x o k : Nat} (hx : x < N) (e : rowIx L o = some k) (hxo : ¬ x = o) : RE N m (befL L x o) := by
  have h1 := h.out x
  obtain ⟨rw, nx, pv, ls, h⟩ := h
  obtain ⟨rw1, nx1, pv1, ls1, hi1⟩ := h1
  obtain ⟨l1, l2, hl, _, hB⟩ := befL_row h e hxo
  have hrx := hi1.row_none hx (h.rowIx_out x)
  exact ⟨_, _, _, _, by rw [hB]; exact hi1.give (l1 := l1) (l2 := o :: l2) (k := k) hl hx hrx rfl rfl⟩
theorem RR.re {w : World} {b n m : Nat} {L : List (List Nat)} {F : Nat → Prop} (h : RR w b n m L F) : RE n m L := by
  obtain ⟨nb, lb, rw, nx, pv, ls, hc, hi, hF⟩ := h.ex
  exact ⟨_, _, _, _, hi⟩

/-- The model's Rows at block r: the head, the rows' block, and each row's slice. -/
structure RefC (w : World) (r lb N m : Nat) (vs : Nat → Value) (L : List (List Nat)) (F : Nat → Prop) : Prop where
  hd : Blk w r 2 (fun i => if i = 0 then .int .i64 N else .slice (some ⟨lb, 0, none⟩) m m)
  rows : Blk w lb m vs
  ne : ¬ r = lb
  lt : m < 1000
  Fr : F r ∧ F lb ∧ ∀ i, F i → i < w.heap.size
  sl : ∀ (k : Nat) (l : List Nat), L[k]? = some l → SlI w (vs k) (nums l) ∧ ∀ b, (vs k).ownBlock = some b → F b ∧ ¬ b = r ∧ ¬ b = lb
  ix : RE N m L
  hN : N < 1000000

section
variable {w : World} {r lb N m : Nat} {vs : Nat → Value} {L : List (List Nat)} {F : Nat → Prop}
theorem RefC.c0 (h : RefC w r lb N m vs L F) : w.cell? ⟨r, 0, none⟩ = some (.int .i64 N) := h.hd.cell (by omega)
theorem RefC.c1 (h : RefC w r lb N m vs L F) : w.cell? ⟨r, 1, none⟩ = some (.slice (some ⟨lb, 0, none⟩) m m) := h.hd.cell (by omega)
theorem RefC.row (h : RefC w r lb N m vs L F) {k : Nat} (hk : k < m) : w.cell? ⟨lb, k, none⟩ = some (vs k) := h.rows.cell hk
theorem RefC.get (h : RefC w r lb N m vs L F) {k : Nat} (hk : k < m) : ∃ l, L[k]? = some l ∧ L[k]?.getD [] = l := by
  have : k < L.length := by have := h.ix.lenL; omega
  exact ⟨L[k], List.getElem?_eq_getElem this, by simp [this]⟩
theorem RefC.fr (h : RefC w r lb N m vs L F) {w' : World} {G : Nat → Prop} (f : Go.Proofs.Ytgpjjdaboapkjaa.Fr G w w') (hd : ∀ i, F i → ¬ G i) : RefC w' r lb N m vs L F :=
  ⟨h.hd.fr f (hd r h.Fr.1), h.rows.fr f (hd lb h.Fr.2.1), h.ne, h.lt, ⟨h.Fr.1, h.Fr.2.1, fun i hi => Nat.lt_of_lt_of_le (h.Fr.2.2 i hi) f.size⟩,
    fun k l hl => ⟨(h.sl k l hl).1.fr f (fun b hb => hd b ((h.sl k l hl).2 b hb).1), (h.sl k l hl).2⟩, h.ix, h.hN⟩

theorem thing_ref (h : RefC w r lb N m vs L F) (hN : N < 1000000) (x : Int) :
    Calls Try.prog 28 #[.pointer (some ⟨r, 0, none⟩), .int .i64 x] w fun e w' => e = .returned (.bool (decide (0 ≤ x ∧ x < N))) ∧ w = w' := by
  have c0 := h.c0
  by_cases h0 : 0 ≤ x
  · by_cases h1 : x < N
    · rw [show decide (0 ≤ x ∧ x < N) = true from by simp [h0, h1]]
      go_enter Try.func28, Try.ntmps28
      go_wp2
      go_ret
      exact ⟨rfl, rfl⟩
    · rw [show decide (0 ≤ x ∧ x < N) = false from by simp [h1]]
      go_enter Try.func28, Try.ntmps28
      go_wp2
      go_ret
      exact ⟨rfl, rfl⟩
  · rw [show decide (0 ≤ x ∧ x < N) = false from by simp [h0]]
    have h2 : decide (0 ≤ x) = false := by simp [h0]
    go_enter Try.func28, Try.ntmps28
    go_wp2
    go_ret
    exact ⟨rfl, rfl⟩
theorem row_ref (h : RefC w r lb N m vs L F) (k : Int) :
    Calls Try.prog 29 #[.pointer (some ⟨r, 0, none⟩), .int .i64 k] w fun e w' => e = .returned (.bool (decide (0 ≤ k ∧ k < m))) ∧ w = w' := by
  have c1 := h.c1
  have hm := h.lt
  by_cases h0 : 0 ≤ k
  · by_cases h1 : k < m
    · rw [show decide (0 ≤ k ∧ k < m) = true from by simp [h0, h1]]
      go_enter Try.func29, Try.ntmps29
      go_wp2
      go_ret
      exact ⟨rfl, rfl⟩
    · rw [show decide (0 ≤ k ∧ k < m) = false from by simp [h1]]
      go_enter Try.func29, Try.ntmps29
      go_wp2
      go_ret
      exact ⟨rfl, rfl⟩
  · rw [show decide (0 ≤ k ∧ k < m) = false from by simp [h0]]
    have h2 : decide (0 ≤ k) = false := by simp [h0]
    go_enter Try.func29, Try.ntmps29
    go_wp2
    go_ret
    exact ⟨rfl, rfl⟩

/-- Where a thing stands in its row; -1: in none. -/
def posZ (L : List (List Nat)) (x : Int) : Int := match ixZ L x with
  | none => -1
  | some k => ((L[k]?.getD []).idxOf x.toNat : Nat)

theorem posZ_at (h : RefC w r lb N m vs L F) {k j : Nat} {l : List Nat} (hl : L[k]? = some l) {x : Int} {y : Nat} (hj : l[j]? = some y) (hx : (y : Int) = x) : ixZ L x = some k ∧ posZ L x = j := by
  subst hx
  have hm := List.mem_of_getElem? hj
  obtain ⟨hnd, hix⟩ := h.ix.ix k l hl
  have e := (hix y hm).2
  have e' : ixZ L (y : Int) = some k := by rw [ixZ_nat]; exact e
  refine ⟨e', ?_⟩
  obtain ⟨hjl, rfl⟩ := List.getElem?_eq_some_iff.1 hj
  simp only [posZ, e', hl, Option.getD_some, Int.toNat_natCast]
  rw [List.Nodup.idxOf_getElem hnd]
theorem ixZ_none_of (x : Int) (H : ∀ (k : Nat) (l : List Nat), L[k]? = some l → ∀ y, y ∈ l → ¬ (y : Int) = x) : ixZ L x = none := by
  unfold ixZ
  split
  · rename_i h0
    cases e : rowIx L x.toNat with
    | none => rfl
    | some k =>
      obtain ⟨l, hl, hm⟩ := rowIx_some e
      exact (H k l hl _ hm (by omega)).elim
  · rfl

set_option maxHeartbeats 1000000 in
theorem At_calls (h : RefC w r lb N m vs L F) (x : Int) :
    Calls Try.prog 30 #[.pointer (some ⟨r, 0, none⟩), .int .i64 x] w fun e w' => e = .returned (.tuple #[.int .i64 (ixI (ixZ L x)), .int .i64 (posZ L x)]) ∧ w = w' := by
  have c1 := h.c1
  have hm := h.lt
  go_enter Try.func30, Try.ntmps30
  go_wp2
  go_loop [6] (fun i => ∃ k : Nat, k ≤ m ∧ i = .int .i64 k ∧ ∀ (j : Nat) (l : List Nat), j < k → L[j]? = some l → ∀ y, y ∈ l → ¬ (y : Int) = x) (fun i => m - (intOf i).toNat)
  case atStart => exact ⟨0, Nat.zero_le _, rfl, fun j l hj => by omega⟩
  case round =>
    obtain ⟨k, hk, rfl, hno⟩ := hrel
    have HN := Lib.hid hno
    clear hno
    by_cases hlt : k < m
    · obtain ⟨l, hl, _⟩ := h.get hlt
      have HL := Lib.hid hl
      have hs := (h.sl k l hl).1
      have ck := h.row hlt
      obtain ⟨a, c, ev, q1, q2, q3⟩ := id hs
      rw [ev] at ck
      have hll : (nums l).length = l.length := by simp [nums]
      rw [hll] at ck q1
      have hs' := Lib.hid hs
      have HE := Lib.hid ev
      unfold maxLen at q2
      clear hl hs ev hll q3
      go_wp2
      go_loop [7] (fun i => ∃ j : Nat, j ≤ l.length ∧ i = .int .i64 j ∧ ∀ (p y : Nat), p < j → l[p]? = some y → ¬ (y : Int) = x) (fun i => l.length - (intOf i).toNat)
      case atStart => exact ⟨0, Nat.zero_le _, rfl, fun p y hp => by omega⟩
      case round =>
        obtain ⟨j, hj, rfl, hno2⟩ := hrel
        have HN2 := Lib.hid hno2
        clear hno2
        by_cases hlt2 : j < l.length
        · obtain ⟨b, off, c', ev', _, _, _, hcell⟩ := hs'.out.at (k := j) (by simp [nums]; exact hlt2)
          rw [HE.out] at ev'
          simp only [Value.slice.injEq] at ev'
          obtain ⟨rfl, _, rfl⟩ := ev'
          have HY := Lib.hid (List.getElem?_eq_getElem hlt2)
          have cy : w.cell? ⟨b, off + j, none⟩ = some (.int .i64 (l[j] : Nat)) := hcell j _ (by simp [nums, HY.out])
          generalize l[j] = y at cy HY
          clear hcell
          by_cases hyx : (y : Int) = x
          · have HF : Hid (ixI (ixZ L x) = k ∧ posZ L x = j) := by
              obtain ⟨e1, e2⟩ := posZ_at h HL.out HY.out hyx
              exact ⟨by rw [e1]; rfl, e2⟩
            have he : ((y : Int) == x) = true := by simp [hyx]
            clear hyx
            go_wp2
            go_ret2
            exact ⟨by rw [HF.out.1, HF.out.2]; rfl, rfl⟩
          · have he : ((y : Int) == x) = false := by simp [hyx]
            have HX := Lib.hid hyx
            clear hyx
            go_wp2
            go_round
            case rel => exact ⟨j + 1, by omega, by go_num, fun p z hp hz => by
              rcases Nat.lt_or_ge p j with q | q
              · exact HN2.out p z q hz
              · obtain rfl : p = j := by omega
                rw [HY.out] at hz
                obtain rfl := Option.some.inj hz
                exact HX.out⟩
            case measure => simp [intOf]; omega
        · obtain rfl : j = l.length := by omega
          go_wp2
          go_round
          case rel => exact ⟨k + 1, by omega, by go_num, fun p l' hp hl' y hy => by
            rcases Nat.lt_or_ge p k with q | q
            · exact HN.out p l' q hl' y hy
            · obtain rfl : p = k := by omega
              rw [HL.out] at hl'
              obtain rfl := Option.some.inj hl'
              obtain ⟨i, hi⟩ := List.getElem?_of_mem hy
              exact HN2.out i y (List.getElem?_eq_some_iff.1 hi).1 hi⟩
          case measure => simp [intOf]; omega
    · obtain rfl : k = m := by omega
      have HF : Hid (ixI (ixZ L x) = -1 ∧ posZ L x = -1) := by
        have e : ixZ L x = none := ixZ_none_of x (fun j l hl y hy => HN.out j l (by have := (List.getElem?_eq_some_iff.1 hl).1; have := h.ix.lenL; omega) hl y hy)
        exact ⟨by rw [e]; rfl, by simp [posZ, e]⟩
      go_wp2
      go_ret2
      exact ⟨by rw [HF.out.1, HF.out.2]; rfl, rfl⟩
end
end Go.Proofs.Ytgpjjdaboapkjaa
