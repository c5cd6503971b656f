/-
  arc's remembered pages: all of a side.
-/
import Derived.Test.YtebhpihickmekaaArcB
namespace Go.Proofs.Ytebhpihickmekaa
open Go.RowKit Go.Maps
set_option linter.unusedVariables false

section
variable {w w' : World} {b gr gpb mb out : Nat} {k1 k2 sp : List Nat} {gp : Nat → Nat} {b1 b2 : List Nat} {FG : Nat → Prop}
set_option maxHeartbeats 1000000 in
theorem ga_all (h : GA w gr gpb mb out k1 k2 sp gp b1 b2 FG) (g : GH w b gr gpb mb out FG) (kz : Int) {tk gh : List Nat} (htk : rowZ [k1, k2, sp] kz = tk) (hgh : gh = tk.map gp) (hlo : tk.length ≤ out) (hlt : ∀ p ∈ tk, p < out)
    (hL : Calls Try.prog 52 #[.pointer (some ⟨b, 5, none⟩), .int .i64 kz] w fun e w' => e = .returned (.int .i64 (tk.length : Nat)) ∧ w = w') :
    Calls Try.prog 41 #[.pointer (some ⟨b, 5, none⟩), .int .i64 kz] w fun e w' => ∃ v, e = .returned v ∧ OwK .u32 w.heap.size 34 w' v gh ∧ Fr NoF w w' := by
  obtain ⟨i0, hi, hz0, hz1, hz2⟩ := info_parts' (P := Try.prog) (e := 34) (z := .int .u32 0) (s := 1) (b := 4) (by kernel_rfl)
  have c5 := g.c5
  have hgl : gh.length = tk.length := by rw [hgh, List.length_map]
  have hon := h.hn
  have lb := g.lb
  have HL := Lib.hid hL
  have HA : Hid (∀ w', Fr NoF w w' → Calls Try.prog 56 #[.pointer (some ⟨gr, 0, none⟩), .int .i64 kz] w' fun e w'' => ∃ v, e = .returned v ∧ w''.ownsRow w'.heap.size 3 1 v tk.length (ints tk) ∧ Fr NoF w' w'') := by
    intro w' f
    have := All_all (h.rr.fr f (fun _ _ q => q)) kz
    rw [htk] at this
    exact this.mono fun e w'' ⟨v, he, h1, _, h3⟩ => ⟨v, he, h1, h3⟩
  have HP : Hid (∀ w', Fr NoF w w' → w'.cell? ⟨b, 5, none⟩ = some (.pointer (some ⟨gr, 0, none⟩)) ∧ w'.cell? ⟨b, 6, none⟩ = some (.slice (some ⟨gpb, 0, none⟩) out out) ∧ ∀ p, p < out → w'.cell? ⟨gpb, p, none⟩ = some (.int .u32 (gp p : Nat))) := fun w' f => ⟨(g.fr f id).c5, (g.fr f id).c6, fun p hp => (h.pg.fr f id).cell hp⟩
  have HT : Hid (∀ p ∈ tk, p < out) := hlt
  have HG := Lib.hid hgh
  have HLB : Hid (∀ w', Fr NoF w w' → b < w'.heap.size ∧ gpb < w'.heap.size) := fun w' f => ⟨Nat.lt_of_lt_of_le g.lb f.size, Nat.lt_of_lt_of_le h.pg.lt f.size⟩
  clear h g hlt hgh hL htk
  go_enter Try.func41, Try.ntmps41
  go_wp2_with (first
    | (go_at_call 52; refine HL.out.mono ?_; rintro e w' ⟨rfl, rfl⟩)
    | (at_make; refine wpList_make_own _ rfl _ _ 35 rfl w.heap.size 34 i0 (.int .u32 0) 1 Try.underlying35 hi hz0 hz1 .i64 .i64 _ tk.length rfl rfl rfl (by rw [hz2]; omega) (by unfold maxLen; omega) (Nat.le_refl _) ?_; intro w1 hown hgrow; have hf1 := (Fr.refl NoF w).grown hgrow (by intro k hk; cases hk); have e5 := (HP.out w1 hf1).1; have HOW := Lib.hid hown; have HF1 := Lib.hid hf1; clear hown hgrow hf1)
    | (go_at_call 56; refine (HA.out _ HF1.out).mono ?_; rintro e w2 ⟨v2, rfl, ho2, hf2⟩; obtain ⟨a2, k2, rfl, _, _⟩ := SlC.shape (SlC.ofOwn ho2 (by intro u hu; obtain ⟨z, _, rfl⟩ := List.mem_map.1 hu; rfl)); have HO2 := Lib.hid ho2; have HF2 := Lib.hid hf2; clear ho2 hf2))
  have hF2 := HF1.out.trans HF2.out (fun _ q => q.elim)
  have hs2 : SlK .i64 w2 (.slice a2 tk.length k2) tk := SlC.ofOwn HO2.out (by intro u hu; obtain ⟨z, _, rfl⟩ := List.mem_map.1 hu; rfl)
  have hst : OwK .u32 w.heap.size 34 w2 (.slice (some ⟨w.heap.size, 0, none⟩) 0 tk.length) (gh.take 0) := own_keep HOW.out HF2.out (fun _ _ q => q)
  have hdj : ∀ i, (Value.slice (some ⟨w.heap.size, 0, none⟩) 0 tk.length).ownBlock = some i → ¬ (Value.slice a2 tk.length k2).ownBlock = some i := by
    intro i h1 h2
    have h3 := ownBlock_own HO2.out i h2
    have h4 := HOW.out
    obtain ⟨_, h4 | ⟨g, cap, cur, _, _, h5, _⟩⟩ := h4
    · simp at h4
    · simp [Value.ownBlock] at h1
      have h6 := World.ownsRow.lt HOW.out w.heap.size (by simp [Value.ownBlock])
      omega
  have HS2 := Lib.hid hs2
  have HST := Lib.hid (And.intro hst (And.intro hF2 (And.intro hs2 hdj)))
  clear hF2 hs2 hst hdj HOW HO2 HF1 HF2 HL HA e5
  go_loopw [5, 19] (fun v i wr => ∃ k : Nat, k ≤ tk.length ∧ i = .int .i64 k ∧ OwK .u32 w.heap.size 34 wr v (gh.take k) ∧ Fr NoF w wr ∧ SlK .i64 wr (.slice a2 tk.length k2) tk ∧ ∀ i, v.ownBlock = some i → ¬ (Value.slice a2 tk.length k2).ownBlock = some i) (fun _ i _ => tk.length - (intOf i).toNat)
  case atStart => exact ⟨0, Nat.zero_le _, rfl, HST.out⟩
  case round =>
    obtain ⟨k, hk, rfl, ho, hf0, hs, hdj⟩ := hrel
    have HO := Lib.hid ho
    have HF := Lib.hid hf0
    have HS := Lib.hid hs
    have HDJ := Lib.hid hdj
    by_cases hlt : k < tk.length
    · obtain ⟨bb, off, c', ev', _, _, hbb, cy⟩ := hs.at hlt
      simp only [Value.slice.injEq] at ev'
      obtain ⟨rfl, _, rfl⟩ := ev'
      have hkg : k < gh.length := by omega
      have HTK := Lib.hid (List.take_succ_eq_append_getElem hkg)
      have hgk : gh[k] = gp tk[k] := by simp [HG.out]
      rw [hgk] at HTK
      have hpk : tk[k] < out := HT.out _ (List.getElem_mem hlt)
      obtain ⟨r5, r6, rp⟩ := HP.out wr hf0
      obtain ⟨rl, rl2⟩ := HLB.out wr hf0
      have rp' := rp _ hpk
      clear rp
      have hlk : (gh.take k).length = k := by rw [List.length_take]; omega
      have hsz := hf0.size
      generalize tk[k] = y at *
      generalize gp y = z at *
      have HLK := Lib.hid hlk
      clear ho hf0 HST hgk hlk hs hdj
      go_wp2_with (at_builtin; go_must (refine appLB (base := w.heap.size) EIu rfl _ _ rfl (by rfl) (by rfl) (by simp; omega) (own_keep HO.out ((Fr.refl NoF _).alloc _) (fun _ _ q => q)) (SlC.ofOwn (own_new (w0 := wr) (Nat.le_refl _) #[.int .u32 z] 34 1 1 _ rfl rfl (by unfold maxLen; omega)) (by simp [Value.oneCell'])) (by rw [HLK.out]; unfold maxLen; omega) (by rw [HLK.out]; omega) ?_); intro v' w6 hown' hf6 hob6; have HN := Lib.hid (OwK.snoc hown'); have HF6 := Lib.hid hf6; have HOB := Lib.hid hob6; clear hown' hf6 hob6)
      go_roundw
      case rel =>
        refine ⟨k + 1, hlt, by go_num, by rw [HTK.out]; exact HN.out, (HF.out.alloc _).trans HF6.out (fun i hi => .inr (HO.out.base i hi)), (HS.out.keep ((Fr.refl NoF _).alloc _)).fr HF6.out (fun i h1 h2 => HDJ.out i h2 h1), fun i h1 h2 => ?_⟩
        rcases HOB.out i h1 with q | q
        · exact HDJ.out i q h2
        · have := HS.out.lt i h2
          simp at q; omega
      case measure => first | (simp [intOf]; done) | (simp [intOf]; omega)
    · obtain rfl : k = tk.length := by omega
      have ht : gh.take tk.length = gh := List.take_of_length_le (by omega)
      rw [ht] at ho
      obtain ⟨va, vc, rfl, _, _⟩ := ho.sl.shape
      have HO2 := Lib.hid ho
      clear ho hf0 hs hdj HST HO HDJ ht
      go_wp2
      go_returns
      exact ⟨_, rfl, HO2.out, HF.out⟩

theorem ga_all01 (h : GA w gr gpb mb out k1 k2 sp gp b1 b2 FG) (g : GH w b gr gpb mb out FG) :
    (Calls Try.prog 41 #[.pointer (some ⟨b, 5, none⟩), .int .i64 0] w fun e w' => ∃ v, e = .returned v ∧ OwK .u32 w.heap.size 34 w' v b1 ∧ Fr NoF w w') ∧
    Calls Try.prog 41 #[.pointer (some ⟨b, 5, none⟩), .int .i64 1] w fun e w' => ∃ v, e = .returned v ∧ OwK .u32 w.heap.size 34 w' v b2 ∧ Fr NoF w w' := by
  have hl := h.len
  have ht := h.tl
  have hr := h.rr.row3
  have h0 := ga_len0 h g
  have h1 := ga_len1 h g
  rw [hl.1] at h0
  rw [hl.2] at h1
  exact ⟨ga_all (tk := k1) h g 0 rfl h.h1 (by omega) hr.bl h0, ga_all (tk := k2) h g 1 rfl h.h2 (by omega) hr.bm h1⟩
end
end Go.Proofs.Ytebhpihickmekaa
