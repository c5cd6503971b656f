/-
  Package hatcheckref04: Without, WithoutPage, First, SamePages.
-/
import Derived.Test.YtoainbdkhhblbaaRows
import Derived.Test.YtoainbdkhhblbaaK02
import Derived.Handy
import Derived.Lib.Hide
import Derived.Deep.LoopGhost
import Derived.WalkSpells
namespace Go.Proofs.Ytoainbdkhhblbaa
open Go.RowKit
set_option linter.unusedVariables false

theorem info_parts' {P : Program} {e : TypeId} {z : Value} {s b : Nat} (h : (P.info? e).map (fun i => (i.zero, i.size, i.bytes)) = some (some z, s, b)) : ∃ i, P.info? e = some i ∧ i.zero = some z ∧ i.size = s ∧ i.bytes = b := by
  cases hi : P.info? e with
  | none => rw [hi] at h; cases h
  | some i =>
    rw [hi] at h
    simp only [Option.map_some, Option.some.injEq, Prod.mk.injEq] at h
    exact ⟨i, rfl, h⟩
theorem EI.mk' {P : Program} {t e : TypeId} {z : Value} {s b : Nat} (ht : P.underlying t = some (.slice e)) (h : (P.info? e).map (fun i => (i.zero, i.size, i.bytes)) = some (some z, s, b)) (hz : z.cells.size = s) (hs : 0 < s) : EI P t e s b := by
  obtain ⟨i, h1, h2, h3, h4⟩ := info_parts' h
  exact ⟨ht, i, z, h1, h2, h3, h4, hz, hs⟩
theorem EIi : EI Try.prog 55 3 1 8 := EI.mk' (z := .int .i64 0) Try.underlying55 (by kernel_rfl) rfl (by decide)
theorem EIu : EI Try.prog 35 34 1 4 := EI.mk' (z := .int .u32 0) Try.underlying35 (by kernel_rfl) rfl (by decide)

/-- A list without a number. -/
def awayN (l : List Nat) (x : Nat) : List Nat := l.filter fun y => !decide (y = x)
theorem awayN_snoc (x : Nat) (l : List Nat) (y : Nat) : awayN (l ++ [y]) x = if y = x then awayN l x else awayN l x ++ [y] := by
  unfold awayN
  rw [List.filter_append]
  split
  · rename_i h; simp [h]
  · rename_i h; simp [h]
theorem awayN_le (x : Nat) (l : List Nat) : (awayN l x).length ≤ l.length := List.length_filter_le _ _
theorem OwK.snoc {k : IntKind} {base : Nat} {e : TypeId} {w : World} {v : Value} {l : List Nat} {y : Nat} (h : w.ownsRow base e 1 v (l.length + 1) ((l.map fun (x : Nat) => Value.int k (x : Int)) ++ [Value.int k (y : Int)])) : OwK k base e w v (l ++ [y]) := by
  unfold OwK; simpa using h
theorem OwK.len {k : IntKind} {base : Nat} {e : TypeId} {w : World} {v : Value} {l : List Nat} (h : OwK k base e w v l) : l.length ≤ maxLen := SlC.len h.sl

set_option maxHeartbeats 1000000 in
theorem WithoutPage_calls {w : World} {v : Value} {l : List Nat} (h : SlK .u32 w v l) (hl : l.length < 1000000) (x : Nat) :
    Calls Try.prog 53 #[v, .int .u32 x] w fun e w' => ∃ v', e = .returned (.tuple #[v', .bool (decide (x ∈ l))]) ∧ OwK .u32 w.heap.size 34 w' v' (awayN l x) ∧ Fr NoF w w' := by
  obtain ⟨a, c, rfl, q1, q2⟩ := h.shape
  unfold maxLen at q2
  have HS := Lib.hid h
  clear h
  go_enter Try.func53, Try.ntmps53
  go_wp2
  go_loopw [6, 7] (fun o i wr => ∃ k : Nat, k ≤ l.length ∧ i = .int .i64 k ∧ OwK .u32 w.heap.size 34 wr o (awayN (l.take k) x) ∧ Fr NoF w wr) (fun _ i _ => l.length - (intOf i).toNat)
  case atStart => exact ⟨0, Nat.zero_le _, rfl, OwK.nil _ _ _ _, Fr.refl _ _⟩
  case round =>
    obtain ⟨k, hk, rfl, ho, hf⟩ := hrel
    have HO := Lib.hid ho
    have HF := Lib.hid hf
    by_cases hlt : k < l.length
    · obtain ⟨b, off, c', ev', _, _, hb, cy⟩ := (HS.out.keep hf).at hlt
      simp only [Value.slice.injEq] at ev'
      obtain ⟨rfl, _, rfl⟩ := ev'
      have HT := Lib.hid (List.take_succ_eq_append_getElem hlt)
      have HB := awayN_le x (l.take k)
      rw [List.length_take] at HB
      have hN := awayN_snoc x (l.take k) l[k]
      generalize l[k] = y at cy HT hN
      have hsz := hf.size
      by_cases hyx : y = x
      · rw [if_pos hyx] at hN
        have HN := Lib.hid hN
        have he : ((y : Int) != (x : Int)) = false := by simp [hyx]
        clear hyx hN ho hf HB
        go_wp2
        go_roundw
        case rel => exact ⟨k + 1, by omega, by go_num, by rw [HT.out, HN.out]; exact HO.out, HF.out⟩
        case measure => simp [intOf]; omega
      · rw [if_neg hyx] at hN
        have HN := Lib.hid hN
        have he : ((y : Int) != (x : Int)) = true := by simp; omega
        clear hyx hN ho hf
        generalize awayN (l.take k) x = m at *
        go_wp2_with (at_builtin; go_must (refine appLB (base := w.heap.size) EIu rfl _ _ rfl (by rfl) (by rfl) (by simp; omega) (own_keep HO.out ((Fr.refl NoF _).alloc _) (fun _ _ q => q)) (SlC.ofOwn (own_new (w0 := wr) (Nat.le_refl _) #[.int .u32 y] 34 1 1 _ rfl rfl (by unfold maxLen; omega)) (by simp [Value.oneCell'])) (by unfold maxLen; omega) (by omega) ?_); intro v' w2 hown' hf' _; have HF' := Lib.hid hf'; have HO' := Lib.hid hown'; clear cy hf' hown')
        go_roundw
        case rel =>
          refine ⟨k + 1, by omega, by go_num, ?_, ?_⟩
          · rw [HT.out, HN.out]; exact OwK.snoc HO'.out
          · refine (HF.out.alloc _).trans HF'.out (fun i hi => .inr ?_)
            exact HO.out.base i hi
        case measure => simp [intOf]; omega
    · obtain rfl : k = l.length := by omega
      rw [List.take_length] at HO
      clear ho hf
      obtain ⟨a2, c2, rfl, _, _⟩ := HO.out.sl.shape
      have hd : decide ((awayN l x).length < l.length) = decide (x ∈ l) := by
        rw [decide_eq_decide]
        unfold awayN
        constructor
        · intro hh
          apply Decidable.byContradiction
          intro hn
          rw [List.filter_eq_self.2 (fun y hy => by have : ¬ y = x := fun e => hn (e ▸ hy); simp [this])] at hh
          omega
        · intro hm
          refine List.length_filter_lt_length_iff_exists.2 ⟨x, hm, by simp⟩
      have HD := Lib.hid hd
      clear hd
      go_wp2
      go_returns
      exact ⟨.slice a2 (awayN l x).length c2, by rw [HD.out]; rfl, HO.out, HF.out⟩

/-- The first one that may go, as a number. -/
def fstI (o : Option Nat) : Int := match o with | none => -1 | some k => k

theorem away_perm {a b : List Nat} {x : Nat} (h : (x :: a).Perm b) (hn : b.Nodup) : a.Perm (awayN b x) ∧ (awayN b x).Nodup := by
  have hn' : (x :: a).Nodup := h.nodup_iff.2 hn
  have hx := (List.nodup_cons.1 hn').1
  have h2 := h.filter (fun y => !decide (y = x))
  have e : (x :: a).filter (fun y => !decide (y = x)) = a := by
    rw [List.filter_cons]
    simp only [decide_true, Bool.not_true, Bool.false_eq_true, if_false]
    rw [List.filter_eq_self]
    intro y hy
    have : ¬ y = x := fun e => hx (e ▸ hy)
    simp [this]
  rw [e] at h2
  exact ⟨h2, hn.filter _⟩

set_option maxHeartbeats 1000000 in
/-- The same pages, in whatever order. -/
theorem SamePages_calls {w : World} {va vb : Value} {a b : List Nat} (ha : SlK .u32 w va a) (hb : SlK .u32 w vb b) (hl : a.length < 1000000) (hp : a.Perm b) (hn : b.Nodup) :
    Calls Try.prog 30 #[va, vb] w fun e w' => e = .returned (.bool true) ∧ Fr NoF w w' := by
  obtain ⟨aa, ca, rfl, q1, q2⟩ := ha.shape
  obtain ⟨ab, cb, rfl, q3, q4⟩ := hb.shape
  unfold maxLen at q2 q4
  have HA := Lib.hid ha
  have HB := Lib.hid hb
  have hlen := hp.length_eq
  have hne : ((a.length : Int) != (b.length : Int)) = false := by simp; omega
  have HP := Lib.hid hp
  have HN := Lib.hid hn
  have HL := Lib.hid hlen
  clear ha hb hp hn hlen
  go_enter Try.func30, Try.ntmps30
  go_wp2
  go_loopw [1, 5] (fun v i wr => ∃ (k : Nat) (r : List Nat), k ≤ a.length ∧ i = .int .i64 k ∧ SlK .u32 wr v r ∧ (a.drop k).Perm r ∧ r.Nodup ∧ Fr NoF w wr) (fun _ i _ => a.length - (intOf i).toNat)
  case atStart => exact ⟨0, b, Nat.zero_le _, rfl, HB.out, by simpa using HP.out, HN.out, Fr.refl _ _⟩
  case round =>
    obtain ⟨k, r, hk, rfl, hr, hpr, hnr, hf⟩ := hrel
    obtain ⟨ar, cr, rfl, q5, q6⟩ := hr.shape
    unfold maxLen at q6
    have HR := Lib.hid hr
    have HF := Lib.hid hf
    by_cases hlt : k < a.length
    · obtain ⟨bk, off, c', ev', _, _, hbl, cy⟩ := (HA.out.keep hf).at hlt
      simp only [Value.slice.injEq] at ev'
      obtain ⟨rfl, _, rfl⟩ := ev'
      have hD : a.drop k = a[k] :: a.drop (k + 1) := List.drop_eq_getElem_cons hlt
      rw [hD] at hpr
      have hlr := hpr.length_eq
      rw [← hD, List.length_drop] at hlr
      have hin : a[k] ∈ r := hpr.mem_iff.1 (List.mem_cons_self ..)
      obtain ⟨g1, g2⟩ := away_perm hpr hnr
      have HC := WithoutPage_calls hr (by omega) a[k]
      rw [show decide (a[k] ∈ r) = true from by simp [hin]] at HC
      have HC' := Lib.hid HC
      have HG := Lib.hid (And.intro g1 g2)
      generalize a[k] = y at *
      clear HC g1 g2 hin hlr hD hpr hnr hr hf
      go_wp2_with fail
      refine HC'.out.mono ?_
      clear HC'
      rintro e w2 ⟨v', rfl, ho, hf2⟩
      have HO := Lib.hid ho
      have HF2 := Lib.hid (HF.out.trans hf2 (fun _ q => q.elim))
      clear ho hf2
      go_wp2
      go_roundw
      case rel => exact ⟨k + 1, _, by omega, by go_num, HO.out.sl, HG.out.1, HG.out.2, HF2.out⟩
      case measure => simp [intOf]; omega
    · obtain rfl : k = a.length := by omega
      clear hpr hnr hr hf
      go_wp2
      go_returns
      exact ⟨rfl, HF.out⟩
end Go.Proofs.Ytoainbdkhhblbaa
