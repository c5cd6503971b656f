/-
  Package hatcheckref02: without, Out, Put.
-/
import Derived.Test.YtgpjjdaboapkjaaRefA
import Derived.Deep.RegionLaw
namespace Go.Proofs.Ytgpjjdaboapkjaa
open Go.RowKit
set_option linter.unusedVariables false

theorem EIint : EI Try.prog 41 3 1 8 := by
  obtain ⟨i0, hi, hz0, hz1, hz2⟩ := info_parts infoInt
  exact ⟨Try.underlying41, i0, _, hi, hz0, hz1, hz2, rfl, by decide⟩
def notX (x : Int) (l : List Nat) : List Nat := l.filter fun y => !decide ((y : Int) = x)
def ownI (w0 w : World) (v : Value) (l : List Nat) : Prop := w.ownsRow w0.heap.size 3 1 v l.length ((nums l).map (Value.int .i64))
theorem ownI.sl {w0 w : World} {v : Value} {l : List Nat} (h : ownI w0 w v l) : SlI w v (nums l) := (SlI.ofOwn h).1
theorem nums_one (l : List Nat) : ∀ u ∈ (nums l).map (Value.int .i64), u.oneCell' = true := by
  intro u hu; obtain ⟨z, _, rfl⟩ := List.mem_map.1 hu; rfl
theorem ownI.lenV {w0 w : World} {v : Value} {l : List Nat} (h : ownI w0 w v l) : lenV v = l.length := lenV_own h
theorem notX_snoc (x : Int) (l : List Nat) (y : Nat) : notX x (l ++ [y]) = if (y : Int) = x then notX x l else notX x l ++ [y] := by
  unfold notX
  rw [List.filter_append]
  split
  · rename_i h; simp [h]
  · rename_i h; simp [h]
theorem notX_le (x : Int) (l : List Nat) : (notX x l).length ≤ l.length := List.length_filter_le _ _

set_option maxHeartbeats 1000000 in
theorem without_calls {w : World} {v : Value} {l : List Nat} (h : SlI w v (nums l)) (hl : l.length < 1000000) (x : Int) :
    Calls Try.prog 31 #[v, .int .i64 x] w fun e w' => ∃ v', e = .returned v' ∧ ownI w w' v' (notX x l) ∧ Fr NoF w w' := by
  obtain ⟨a, c, ev, q1, q2, _⟩ := id h
  have hll : (nums l).length = l.length := by simp [nums]
  rw [hll] at ev q1
  subst ev
  unfold maxLen at q2
  have HS : Hid (SlI w (.slice a l.length c) (nums l)) := h
  clear hll h
  go_enter Try.func31, Try.ntmps31
  go_wp2
  go_loopw [5, 6] (fun o i wr => ∃ k : Nat, k ≤ l.length ∧ i = .int .i64 k ∧ ownI w wr o (notX x (l.take k)) ∧ Fr NoF w wr) (fun _ i _ => l.length - (intOf i).toNat)
  case atStart => exact ⟨0, Nat.zero_le _, rfl, World.ownsRow_nil _ _ _ _, Fr.refl _ _⟩
  case round =>
    obtain ⟨k, hk, rfl, ho, hf⟩ := hrel
    by_cases hlt : k < l.length
    · obtain ⟨b, off, c', ev', _, _, hb, hcell⟩ := HS.out.at (k := k) (by simp [nums]; exact hlt)
      simp only [Value.slice.injEq] at ev'
      obtain ⟨rfl, _, rfl⟩ := ev'
      have HT := Lib.hid (List.take_succ_eq_append_getElem hlt)
      have HY := Lib.hid (List.getElem?_eq_getElem hlt)
      have cy : wr.cell? ⟨b, off + k, none⟩ = some (.int .i64 (l[k] : Nat)) := by
        rw [hf.cell (p := ⟨b, off + k, none⟩) hb id]; exact hcell k _ (by simp [nums, HY.out])
      generalize l[k] = y at cy HT HY
      have HB := Lib.hid (notX_le x (l.take k))
      have hbl : (notX x (l.take k)).length < 1000000 := by
        have := HB.out; rw [List.length_take] at this; omega
      have hNS := notX_snoc x (l.take k) y
      clear hcell HB
      by_cases hyx : (y : Int) = x
      · rw [if_pos hyx] at hNS
        have HN := Lib.hid hNS
        have he : ((y : Int) != x) = false := by simp [hyx]
        have HO := Lib.hid ho
        clear hyx hNS ho
        go_wp2
        go_roundw
        case rel => exact ⟨k + 1, by omega, by go_num, by rw [HT.out, HN.out]; exact HO.out, hf⟩
        case measure => simp [intOf]; omega
      · rw [if_neg hyx] at hNS
        have HN := Lib.hid hNS
        have he : ((y : Int) != x) = true := by simp [hyx]
        have HO := Lib.hid ho
        clear hyx hNS ho
        generalize notX x (l.take k) = m at *
        go_wp2_with (at_builtin; go_must (refine appL (w0 := w) EIint rfl _ _ rfl (by rfl) (by rfl) (hf.alloc _) (own_keep HO.out ((Fr.refl NoF _).alloc _) (fun _ _ q => q)) (SlC.ofOwn (own_new (w0 := wr) (Nat.le_refl _) #[.int .i64 y] 3 1 1 _ rfl rfl (by unfold maxLen; omega)) (by simp [Value.oneCell'])) (by unfold maxLen; omega) (by omega) ?_); intro v' w2 hown' hf' _; have HF' := Lib.hid hf'; have HO' := Lib.hid hown'; clear hf HO cy hf' hown')
        go_roundw
        case rel =>
          refine ⟨k + 1, by omega, by go_num, ?_, HF'.out⟩
          rw [HT.out, HN.out]; have := HO'.out; unfold ownI; simpa [nums] using this
        case measure => simp [intOf]; omega
    · obtain rfl : k = l.length := by omega
      rw [List.take_length] at ho
      have HO := Lib.hid ho
      clear ho
      go_wp2
      go_ret
      exact ⟨_, rfl, HO.out, hf⟩

/-- One row is put anew. -/
theorem RefC.setRow {w w1 : World} {r lb N m : Nat} {vs : Nat → Value} {L : List (List Nat)} {F : Nat → Prop} (h : RefC w r lb N m vs L F) (f : Go.Proofs.Ytgpjjdaboapkjaa.Fr NoF w w1) {k : Nat} (hk : k < m) {v' : Value} {l' : List Nat} (hv : ownI w w1 v' l') (hE : RE N m (L.set k l')) :
    ∃ vs' F', RefC (w1.setCell ⟨lb, k, none⟩ v') r lb N m vs' (L.set k l') F' ∧ Go.Proofs.Ytgpjjdaboapkjaa.Fr F w (w1.setCell ⟨lb, k, none⟩ v') ∧ ∀ i, F' i → F i ∨ w.heap.size ≤ i := by
  have h1 := h.fr f (fun _ _ q => q)
  have hob := ownBlock_own hv
  have hlt := (SlC.ofOwn hv (nums_one l')).lt
  have hr := h.hd.lt
  have hlb := h.rows.lt
  refine ⟨upd vs k v', fun i => F i ∨ v'.ownBlock = some i, ⟨h1.hd.other h1.ne _, h1.rows.set k v', h.ne, h.lt, ⟨.inl h.Fr.1, .inl h.Fr.2.1, ?_⟩, ?_, hE, h.hN⟩, (f.mono (fun _ q => q.elim)).setCell (.inl h.Fr.2.1) _, ?_⟩
  · intro i hi
    have hs := f.size
    rcases hi with hi | hi
    · have := h.Fr.2.2 i hi; simp; omega
    · have := hlt i hi; simpa using this
  · intro j l hj
    have fset : Go.Proofs.Ytgpjjdaboapkjaa.Fr (fun i => i = lb) w1 (w1.setCell ⟨lb, k, none⟩ v') := (Fr.refl (fun i => i = lb) w1).setCell (p := ⟨lb, k, none⟩) (.inl rfl) v'
    rcases RInv.set_get hj with ⟨rfl, rfl⟩ | ⟨hjk, hj'⟩
    · rw [upd_same]
      refine ⟨hv.sl.fr fset (fun b hb e => ?_), fun b hb => ⟨.inr hb, ?_, ?_⟩⟩
      · have := hob b hb; omega
      · have := hob b hb; omega
      · have := hob b hb; omega
    · rw [upd_other _ _ hjk]
      have hs := h1.sl j l hj'
      exact ⟨hs.1.fr fset (fun b hb => (hs.2 b hb).2.2), fun b hb => ⟨.inl (hs.2 b hb).1, (hs.2 b hb).2⟩⟩
  · intro i hi
    rcases hi with hi | hi
    · exact .inl hi
    · exact .inr (hob i hi)

def RefR (w : World) (r N m : Nat) (L : List (List Nat)) (F : Nat → Prop) : Prop := ∃ lb vs, RefC w r lb N m vs L F
theorem outZ_eq {L : List (List Nat)} {x : Int} {k : Nat} (e : ixZ L x = some k) : outZ L x = L.set k (notX x (L[k]?.getD [])) := by
  unfold ixZ at e
  split at e
  · rename_i h0
    obtain ⟨x, rfl⟩ := Int.eq_ofNat_of_zero_le h0
    simp only [Int.toNat_natCast] at e
    simp only [outZ, h0, if_true, Int.toNat_natCast, outL, e, notX, List.getD_eq_getElem?_getD]
    congr 2
    funext y
    congr 1
    simp only [decide_eq_decide]
    omega
  · cases e
theorem outZ_none {L : List (List Nat)} {x : Int} (e : ixZ L x = none) : outZ L x = L := by
  unfold ixZ at e
  split at e
  · rename_i h0; simp [outZ, h0, outL, e]
  · rename_i h0; simp [outZ, h0]
theorem RE.outZ {N m : Nat} {L : List (List Nat)} (h : RE N m L) (x : Int) : RE N m (outZ L x) := by
  unfold Go.Proofs.Ytgpjjdaboapkjaa.outZ; split
  · exact h.out _
  · exact h

set_option maxHeartbeats 1000000 in
theorem out_ref {w : World} {r N m : Nat} {L : List (List Nat)} {F : Nat → Prop} (h : RefR w r N m L F) (x : Int) :
    Calls Try.prog 14 #[.pointer (some ⟨r, 0, none⟩), .int .i64 x] w fun e w' => e = .returned (.bool (ixZ L x).isSome) ∧ ∃ F', RefR w' r N m (outZ L x) F' ∧ Fr F w w' ∧ ∀ i, F' i → F i ∨ w.heap.size ≤ i := by
  obtain ⟨lb, vs, h⟩ := h
  have HA := Lib.hid (At_calls h x)
  cases e : ixZ L x with
  | none =>
    rw [e] at HA
    have hR : Hid (RefR w r N m (outZ L x) F) := by unfold Hid; rw [outZ_none e]; exact ⟨lb, vs, h⟩
    rw [show ixI none = -1 from rfl] at HA
    clear h e
    go_enter Try.func14, Try.ntmps14
    go_wp2_with (go_at_call 30; refine HA.out.mono ?_; rintro e w' ⟨rfl, rfl⟩)
    go_ret
    exact ⟨rfl, F, hR.out, Fr.refl _ _, fun i q => .inl q⟩
  | some k =>
    rw [e] at HA
    rw [show ixI (some k) = (k : Int) from rfl] at HA
    have hk : k < m := by
      have h0 := e
      unfold ixZ at h0
      split at h0
      · obtain ⟨l, hl, _⟩ := rowIx_some h0
        have := (List.getElem?_eq_some_iff.1 hl).1
        have := h.ix.lenL; omega
      · cases h0
    obtain ⟨l, hl, hl'⟩ := h.get hk
    have HE : Hid (outZ L x = L.set k (notX x l)) := by unfold Hid; rw [outZ_eq e, hl']
    have HRE : Hid (RE N m (L.set k (notX x l))) := by unfold Hid; rw [← HE.out]; exact h.ix.outZ x
    have hlen := h.ix.len k l hl
    have hN := h.hN
    have c1 := h.c1
    have ck := h.row hk
    have hlbs := h.rows.lt
    have hm := h.lt
    have HS := Lib.hid (h.sl k l hl)
    have fz := h.rows.frozen k
    have HH := Lib.hid h
    have hwo : ∀ d, Hid (Calls Try.prog 31 #[vs k, .int .i64 x] (w.drewN d) fun e w' => ∃ v', e = .returned v' ∧ ownI (w.drewN d) w' v' (notX x l) ∧ Fr NoF (w.drewN d) w') := fun d => without_calls (HS.out.1.drewN d) (by omega) x
    have HW := hwo 1
    have hrs := h.hd.lt
    clear hl hl' e h hwo
    go_enter Try.func14, Try.ntmps14
    go_wp2_with (go_at_call 30; refine HA.out.mono ?_; rintro e w' ⟨rfl, rfl⟩)
    go_region_law (first
        | (go_simp; go_at_call 31; refine HW.out.mono ?_; rintro e w1 ⟨v', rfl, ho, hf⟩; obtain ⟨a', c', hv', _⟩ := SlC.ofOwn ho (nums_one _); subst hv'; have HO := Lib.hid ho; clear ho; have q0 : w1.cell? ⟨r, 1, none⟩ = some (.slice (some ⟨lb, 0, none⟩) m m) := (hf.cell (p := ⟨r, 1, none⟩) hrs id).trans c1; have q1 : w1.cell? ⟨lb, k, none⟩ = some (vs k) := (hf.cell (p := ⟨lb, k, none⟩) hlbs id).trans ck; have q2 : w1.frozen? ⟨lb, k, none⟩ = false := (hf.frozen (p := ⟨lb, k, none⟩) hlbs id).trans fz; go_simp))
    all_goals
      go_wp2
      go_ret
      have hf0 : Fr NoF w w1 := ((Fr.refl NoF w).drewN 1).trans hf (fun _ q => .inl q)
      obtain ⟨vs', F', h1, h2, h3⟩ := HH.out.setRow hf0 hk HO.out HRE.out
      exact ⟨rfl, F', by rw [HE.out]; exact ⟨lb, vs', h1⟩, h2, h3⟩
end Go.Proofs.Ytgpjjdaboapkjaa
