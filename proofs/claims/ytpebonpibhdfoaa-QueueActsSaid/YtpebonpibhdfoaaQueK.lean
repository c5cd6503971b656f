/-
  slices.SortFunc, slices.SortedFunc at things.
-/
import Derived.Shelf.SlSortCmp.NoneTotal
import Derived.Test.YtpebonpibhdfoaaQueJ
namespace Go.Proofs.Ytpebonpibhdfoaa
open Go.RowKit Go.Maps Go.Shelf Go.Lib
open Go.Sort hiding Below
set_option linter.unusedVariables false

section
variable {w w' : World}
theorem uptoT_cells (a : Nat → Th) : ∀ n, (uptoT a n).flatMap thC = (List.range (n * 3)).map (thF a) := by
  intro n
  induction n with
  | zero => rfl
  | succ n ih =>
    rw [uptoT_succ, List.flatMap_append, ih, show (n + 1) * 3 = n * 3 + 1 + 1 + 1 from by omega, List.range_succ, List.range_succ, List.range_succ]
    simp only [List.map_append, List.map_cons, List.map_nil, List.append_assoc, List.flatMap_cons, List.flatMap_nil, thF_0, thF_1, thF_2]
    rfl
theorem uptoT_get (a : Nat → Th) {n k : Nat} (hk : k < n) : (uptoT a n).toArray[k]! = a k := by
  rw [getElem!_pos _ _ (by simpa [uptoT] using hk)]
  simp [uptoT]
theorem thC_at (t : Th) (j : Nat) (a : Nat → Th) (h : a (j / 3) = t) : thF a j = (thC t)[j % 3]! := by
  subst h
  unfold thF
  have h3 : j % 3 < 3 := Nat.mod_lt _ (by omega)
  match e : j % 3, h3 with
  | 0, _ => rfl
  | 1, _ => rfl
  | 2, _ => rfl
theorem holds_of_row {base n b cap : Nat} {a : Nat → Th} (h : w.ownsRow base 54 3 (.slice (some ⟨b, 0, none⟩) n cap) n ((uptoT a n).flatMap thC)) : HoldsK thC 3 w b 0 (uptoT a n).toArray := by
  intro j hj
  rw [uptoT_cells] at h
  have hs : (uptoT a n).toArray.size = n := by simp [uptoT]
  have hj' : j < n * 3 := by
    rw [size_flatK, hs] at hj; exact hj
  obtain ⟨hl, h2⟩ := h
  rcases h2 with ⟨h2, _⟩ | ⟨g, cap', cur, e, hg, hh, h3, h4, h5, h6⟩
  · cases h2
  · simp only [Value.slice.injEq, Option.some.injEq, Addr.mk.injEq] at e
    obtain ⟨⟨rfl, _⟩, _, rfl⟩ := e
    have hc : cur[j]? = some (thF a j) := by
      have hq : (cur.toList.take (n * 3))[j]? = some (thF a j) := by rw [h6]; simp [hj']
      rw [List.getElem?_take, if_pos hj'] at hq
      simpa using hq
    rw [get_flatK _ _ _ _ (by rw [hs]; exact hj'), uptoT_get a (by omega : j / 3 < n), ← thC_at _ _ a rfl]
    constructor
    · simp [World.cell?, hh, hc]
    · simp [World.frozen?, hh]
theorem fr_sorted {blk n : Nat} {d : Array Th} {os : Array Obj} : Fr (fun i => i = blk) w (sortWorldK thC 3 w blk 0 n d os) := by
  refine ⟨rfl, rfl, rfl, size_sortWorldK_c thC 3 w blk 0 n d os, fun k hk hF => ?_⟩
  have e1 : (sortWorldK thC 3 w blk 0 n d os).heap[k]? = (putRowK thC 3 (Go.Sort.ahead w n) blk 0 d).heap[k]? := by
    show ((putRowK thC 3 (Go.Sort.ahead w n) blk 0 d).heap ++ os)[k]? = _
    rw [Array.getElem?_append_left (by rw [size_putRowK]; exact hk)]
  rw [e1]
  show (w.heap.modify blk _)[k]? = _
  rw [Array.getElem?_modify, if_neg (fun q => hF q.symm)]
theorem thAt_of_holds {b : Nat} {d : Array Th} (h : HoldsK thC 3 w b 0 d) : ThAt w b d.size (fun j => d[j]!) := fun j hj => by
  have c0 := (h.cell (c := 0) hj (by omega)).1
  have c1 := (h.cell (c := 1) hj (by omega)).1
  have c2 := (h.cell (c := 2) hj (by omega)).1
  simp only [Nat.zero_add, Nat.add_zero] at c0 c1 c2
  exact ⟨c0, c1, c2⟩
/-- v holds n things: a 0 .. a (n - 1). -/
def ThL (w : World) (v : Value) (n : Nat) (a : Nat → Th) : Prop := ∃ ad cap, v = .slice ad n cap ∧ n ≤ cap ∧ cap ≤ maxLen ∧ (0 < n → ∃ b, ad = some ⟨b, 0, none⟩ ∧ b < w.heap.size ∧ ThAt w b n a)
def SortT (n : Nat) (a a' : Nat → Th) : Prop := (∀ i j, i < j → j < n → ltT (a' j) (a' i) = false) ∧ (uptoT a' n).Perm (uptoT a n)
theorem uptoT_of {d : Array Th} : uptoT (fun j => d[j]!) d.size = d.toList := by
  apply List.ext_getElem
  · simp [uptoT]
  · intro i h1 h2
    have : i < d.size := by simpa using h2
    simp [uptoT, getElem!_pos d i this]
theorem sort_row {base n : Nat} {v : Value} {a : Nat → Th} (hn : n < 1000000) (h : w.ownsRow base 54 3 v n ((uptoT a n).flatMap thC)) :
    Calls Try.prog 26 #[v, .func (.func 21) #[] #[]] w fun e w' =>
      e = .returned (.tuple #[]) ∧ ∃ a', SortT n a a' ∧ ThL w' v n a' ∧ Fr (fun i => v.ownBlock = some i) w w' := by
  have hlt := fun b (hb : v.ownBlock = some b) => (World.ownsRow.lt h b hb).2
  have h0 := h
  obtain ⟨hl, h2⟩ := h
  rcases h2 with ⟨rfl, rfl⟩ | ⟨g, cap, cur, rfl, hg, hh, h3, h4, h5, h6⟩
  · have hS := AnyF.slices_SortFunc_none (P := Try.prog) (ρ := Try.sortTh_ren) { Try.sortTh with } none 0 (.func (.func 21) #[] #[]) w
    change Calls Try.prog 26 _ _ _ at hS
    refine hS.mono ?_
    rintro e w' ⟨rfl, rfl⟩
    exact ⟨rfl, a, ⟨fun i j _ q => by omega, List.Perm.refl _⟩, ⟨none, 0, rfl, by omega, by unfold maxLen; omega, fun q => by omega⟩, Fr.refl _ _⟩
  · have hs : (uptoT a n).toArray.size = n := by simp [uptoT]
    have hH := holds_of_row h0
    have hb : g < w.heap.size := hlt g rfl
    have hS := sort_raw g cap (uptoT a n).toArray w hH hb (by omega)
    rw [hs] at hS
    refine hS.mono ?_
    rintro e w' ⟨rfl, d', m, os, ⟨p1, p2, p3⟩, ho, rfl⟩
    have hs' : d'.size = n := by rw [p1, hs]
    have hH' := holdsK_sortWorldK thC 3 w g 0 m (uptoT a n).toArray d' os hb hH p1
    have hT := thAt_of_holds hH'
    refine ⟨rfl, fun j => d'[j]!, ⟨fun i j hij hj => ho i j (by omega) hij hj, ?_⟩, ⟨some ⟨g, 0, none⟩, cap, rfl, h3, h4, fun _ => ⟨g, rfl, Nat.lt_of_lt_of_le hb (size_sortWorldK_c thC 3 w g 0 m d' os), by rw [hs'] at hT; exact hT⟩⟩, fr_sorted.mono (fun i q => by rw [q]; rfl)⟩
    rw [← hs', uptoT_of, hs']
    have e1 : (d'.extract 0 n).toList = d'.toList := by
      rw [← hs']; simp
    have e2 : ((uptoT a n).toArray.extract 0 n).toList = uptoT a n := by
      simp [uptoT, List.take_of_length_le]
    rw [e1, e2] at p3
    exact p3
theorem collect_calls {n₀ n : Nat} {Bs : Nat} {sv : Value} {a : Nat → Th} (hn : n < 1000000) (hn₀ : n₀ ≤ w.heap.size) (hBs : Bs < w.heap.size) (hc : w.cell? ⟨Bs, 0, none⟩ = some sv) (hI : ThSl n₀ w sv n a) :
    Calls Try.prog 25 #[.func (.func 27) #[] #[.pointer (some ⟨Bs, 0, none⟩)]] w fun e w' =>
      ∃ v, e = .returned v ∧ w'.ownsRow w.heap.size 54 3 v n ((uptoT a n).flatMap thC) ∧ Fr NoF w w' := by
  have h := collect_in (w := w) Fence.wide 10 trivial trivial rfl (by omega) 27 #[.pointer (some ⟨Bs, 0, none⟩)] trivial (enters_of Try.func27 (by kernel_rfl) rfl) (fun ys => ys = uptoT a n) n hn n₀ hn₀
    (values_stops Fence.wide 8 trivial rfl (by omega) Bs n₀ n sv a hn w hBs hn₀ hc hI)
  refine (callsIn_wide.1 h).mono ?_
  rintro e w' ⟨v, ts, rfl, rfl, hrow, hb⟩
  rw [uptoT_length] at hrow
  exact ⟨v, rfl, hrow, Fr.ofBelow hb⟩
theorem values_calls (ad : Option Addr) (len cap : Nat) (w : World) :
    Calls Try.prog 20 #[.slice ad len cap] w fun e w' => e = .returned (.func (.func 27) #[] #[.pointer (some ⟨w.heap.size, 0, none⟩)]) ∧ w' = w.alloc (.cells #[.slice ad len cap] 47) :=
  callsIn_wide.1 (values_in Fence.wide 10 trivial rfl ad len cap w)
set_option maxHeartbeats 1000000 in
theorem sorted_calls {n₀ n : Nat} {Bs : Nat} {sv : Value} {a : Nat → Th} (hn : n < 1000000) (hn₀ : n₀ ≤ w.heap.size) (hBs : Bs < w.heap.size) (hc : w.cell? ⟨Bs, 0, none⟩ = some sv) (hI : ThSl n₀ w sv n a) :
    Calls Try.prog 19 #[.func (.func 27) #[] #[.pointer (some ⟨Bs, 0, none⟩)], .func (.func 21) #[] #[]] w fun e w' =>
      ∃ v a', e = .returned v ∧ SortT n a a' ∧ ThL w' v n a' ∧ Fr NoF w w' ∧ ∀ i, v.ownBlock = some i → w.heap.size ≤ i := by
  have HC := Lib.hid (collect_calls hn hn₀ hBs hc hI)
  clear hc hI
  go_enter Try.func19, Try.ntmps19
  go_wp2_with fail
  refine HC.out.mono ?_
  rintro e w1 ⟨v, rfl, hrow, hf⟩
  have HS := Lib.hid (sort_row hn hrow)
  have hbl := Lib.hid (fun b (hb : v.ownBlock = some b) => (World.ownsRow.lt hrow b hb).1)
  have HF := Lib.hid hf
  obtain ⟨va, vc, rfl, _, _⟩ : ∃ va vc, v = .slice va n vc ∧ n ≤ vc ∧ vc ≤ maxLen := by
    obtain ⟨_, h2⟩ := hrow
    rcases h2 with ⟨h2, h3⟩ | ⟨g, cap, cur, h2, _, _, h3, h4, _⟩
    · exact ⟨none, 0, by rw [h2, h3], by omega, by unfold maxLen; omega⟩
    · exact ⟨_, cap, h2, h3, h4⟩
  clear hrow hf
  go_wp2_with fail
  refine HS.out.mono ?_
  rintro e w2 ⟨rfl, a', hS, hT, hf2⟩
  have HA := Lib.hid hS
  have HT := Lib.hid hT
  have HF2 := Lib.hid hf2
  clear hS hT hf2
  go_wp2
  go_returns
  exact ⟨_, a', rfl, HA.out, HT.out, HF.out.trans HF2.out (fun i q => .inr (hbl.out i q)), hbl.out⟩
end
end Go.Proofs.Ytpebonpibhdfoaa
