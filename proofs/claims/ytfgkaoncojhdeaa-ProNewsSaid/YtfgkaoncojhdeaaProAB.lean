/-
  Pro's Ghosts, said of the ring of entries.
-/
import Derived.Test.YtfgkaoncojhdeaaProAA
namespace Go.Proofs.Ytfgkaoncojhdeaa
open Go.RowKit Go.Maps
set_option linter.unusedVariables false
set_option linter.unusedSimpArgs false

def ghF (l : List En) : List Nat := (l.filter (fun e => decide (e.fr < 0))).map (fun e => e.pg)
theorem ghF_snoc (l : List En) (y : En) : ghF (l ++ [y]) = ghF l ++ (if y.fr < 0 then [y.pg] else []) := by
  unfold ghF
  rw [List.filter_append, List.map_append]
  congr 1
  by_cases h : y.fr < 0
  · simp [List.filter_cons, h]
  · simp [List.filter_cons, h]
section
variable {w w' : World} {b n m : Nat} {A : AP} {r : Raw} {s : PrS} {i x f id : Nat} {y : En}
set_option maxRecDepth 100000 in
set_option maxHeartbeats 8000000 in
theorem pa_ghosts (h : PA n b A w s) (hk : PK n m s) (hn : n ≤ 30000) : Calls Try.prog 22 #[.pointer (some ⟨b, 0, none⟩)] w fun e w' => ∃ v, e = .returned v ∧ SlK .u32 w' v s.ghR ∧ Fr NoF w w' := by
  obtain ⟨r, h1, h2⟩ := h
  obtain ⟨i0, hi0, hz0, hz1, hz2⟩ := info_parts' (P := Try.prog) (e := 34) (z := .int .u32 0) (s := 1) (b := 4) (by kernel_rfl)
  have hmc : r.mc ≤ 70000 := by
    rw [h2.mc]
    have := List.countP_le_length (p := fun e : En => decide (e.fr < 0)) (l := s.L)
    have := h2.len
    have := h2.tot
    unfold PrS.gone
    omega
  have mk1 : ∀ (w : World), (Instr.makeSlice 35 (.int .i64 0) (.int .i64 (r.mc : Int))).run Try.prog w =
      .ok (.slice (some ⟨w.heap.size, 0, none⟩) 0 r.mc) (w.alloc (.cells (madeCells #[.int .u32 0] r.mc) 34)) := by
    intro w
    have := run_make (P := Try.prog) w 35 34 i0 _ Try.underlying35 hi0 hz0 .i64 .i64 (0 : Int) (r.mc : Int) (by omega) (by omega) (by rw [hz2]; omega) (by omega)
    rw [show (r.mc : Int).toNat = r.mc from by omega, hz1, Nat.mul_one] at this
    exact this
  have hle := h2.len
  have hll : r.ids.length ≤ 70000 := by have := h2.tot; omega
  have c6 : w.cell? ⟨b, 6, none⟩ = some (.map (some A.mb)) := h1.c 6 (by omega)
  have hlr := MpV.len_run MVg h1.mp 3
  have H1 := Lib.hid h1
  have HL := Lib.hid (fun W (g : Fr NoF w W) => ck_len (h1.fr0 g))
  -- what stands k steps on
  have HAT : Hid (∀ k, k < s.L.length → ∃ x, r.ids[(s.hd 0 + k) % s.L.length]? = some x ∧ x < 2 * n ∧ x ∈ r.ids ∧ (s.rot 0)[k]? = some (r.e x) ∧ (r.e x).pg < 4294967296 ∧ -1 ≤ (r.e x).fr) := by
    intro k hkl
    have hlt : (s.hd 0 + k) % s.L.length < r.ids.length := by rw [← hle]; exact Nat.mod_lt _ (by omega)
    have hg := h2.get (List.getElem?_eq_getElem hlt)
    have hd0 := hk.lt (by omega : 0 < s.L.length) (j := 0) (by omega)
    obtain ⟨q1, q2, _, _⟩ := hk.el _ (mem_get hg)
    exact ⟨r.ids[(s.hd 0 + k) % s.L.length], List.getElem?_eq_getElem hlt, h1.lists.2.2.1 _ (List.getElem_mem hlt), List.getElem_mem hlt, by rw [rot_get hd0 hkl]; exact hg, q2.2, q1.1⟩
  have HN : Hid (∀ k x, r.ids[(s.hd 0 + k) % s.L.length]? = some x → r.ids[(s.hd 0 + (k + 1)) % s.L.length]? = some (nxt r.ids x)) := by
    intro k x hx
    have := nxt_at h2.rl.nd hx
    rw [← hle, Nat.mod_add_mod] at this
    rw [← Nat.add_assoc]; exact this
  have HX0 : Hid (0 < s.L.length → r.ids[(s.hd 0 + 0) % s.L.length]? = some (r.h 0)) := by
    intro hp
    have hd0 := hk.lt hp (j := 0) (by omega)
    rw [Nat.add_zero, Nat.mod_eq_of_lt hd0]
    exact h2.rl.hands (by omega) (fun c => by rw [c] at hle; simp at hle; rw [hle] at hp; simp at hp)
  have HRL : Hid ((s.rot 0).length = s.L.length) := by
    unfold Hid PrS.rot
    rw [List.length_append, List.length_drop, List.length_take]
    rcases hk.hl 0 (by omega) with q | ⟨q, q2⟩
    · omega
    · rw [q, q2]; rfl
  have HGR : Hid (s.ghR = ghF (s.rot 0)) := rfl
  have HHL : Hid (s.L.length = r.ids.length) := hle
  have lb := h1.hd.lt
  clear h1 h2 hk hle
  generalize s.rot 0 = rt at *
  generalize s.L.length = sl at *
  generalize s.hd 0 = hd at *
  rw [HHL.out] at HAT HN HX0 HRL
  clear HHL
  generalize r.mc = mc at *
  have mk := mk1 w
  clear mk1
  go_enter Try.func22, Try.ntmps22
  go_upto_region 4 with fail
  have fA : Fr NoF w (w.alloc (.cells (madeCells #[.int .u32 0] mc) 34)) := (Fr.refl NoF w).alloc _
  have hro : (w.alloc (.cells (madeCells #[.int .u32 0] mc) 34)).ownsRow w.heap.size 34 1 (.slice (some ⟨w.heap.size, 0, none⟩) 0 mc) 0 [] :=
    ⟨rfl, .inr ⟨w.heap.size, mc, _, rfl, Nat.le_refl _, heap_alloc_new _ _ _ rfl, Nat.zero_le _, by unfold maxLen; omega, by simp [size_madeCells], by simp⟩⟩
  have FA := Lib.hid fA
  have HRO := Lib.hid hro
  clear fA hro mk c6 hlr
  generalize w.alloc (.cells (madeCells #[.int .u32 0] mc) 34) = wA at *
  have c2 : wA.cell? ⟨b, 2, none⟩ = some (.int .i64 (r.h 0 : Nat)) := (H1.out.fr0 FA.out).hand (j := 0) (by omega)
  have lbA := (H1.out.fr0 FA.out).hd.lt
  go_wp2_with (go_at_call 38; refine (HL.out _ FA.out).mono ?_; rintro e w' ⟨rfl, rfl⟩)
  clear c2 lbA HL
  have HLEN := Lib.hid hll
  generalize hlen : r.ids.length = len at *
  have HLN := Lib.hid hlen
  clear hlen hll
  go_loopw [3, 4, 24] (fun o v i wr => ∃ k x : Nat, k ≤ len ∧ i = .int .i64 k ∧ v = .int .i64 x ∧ (k < len → r.ids[(hd + k) % len]? = some x) ∧ wr.ownsRow w.heap.size 34 1 o (ghF (rt.take k)).length ((ghF (rt.take k)).map fun (x : Nat) => Value.int .u32 (x : Int)) ∧ Fr NoF w wr) (fun _ _ i _ => len - (intOf i).toNat)
  case atStart => exact ⟨0, r.h 0, Nat.zero_le _, rfl, rfl, fun q => HX0.out q, HRO.out, FA.out⟩
  case round =>
    obtain ⟨k, x, hkl, rfl, rfl, hx, ho, hf⟩ := hrel
    clear HX0 HRO FA
    have HO := Lib.hid ho
    have HF := Lib.hid hf
    by_cases hlt : k < len
    · have HX := Lib.hid (HN.out k x (hx hlt))
      obtain ⟨x', hx', hx2, hxm, hrt, hpg, hfr⟩ := HAT.out k hlt
      rw [hx hlt] at hx'
      simp only [Option.some.injEq] at hx'
      subst hx'
      have hc := H1.out.fr0 hf
      have c1 : wr.cell? ⟨b, 1, none⟩ = some (.slice (some ⟨A.eb, 0, none⟩) (2 * n) (2 * n)) := hc.c 1 (by omega)
      obtain ⟨x0, x1, x2, x3, x4, x5⟩ := hc.ce hx2
      have lbr := hc.hd.lt
      have ler := hc.en.lt
      have g0 : (0 : Int) ≤ (x : Int) := by omega
      have g1 : (x : Int) < 2 * (n : Int) := by omega
      have hgl : (ghF (rt.take k)).length ≤ k := by unfold ghF; rw [List.length_map]; exact Nat.le_trans (List.length_filter_le _ _) (List.length_take_le _ _)
      have HT : Hid (rt.take (k + 1) = rt.take k ++ [r.e x]) := by
        unfold Hid
        have hl : k < rt.length := (List.getElem?_eq_some_iff.1 hrt).1
        rw [List.take_succ_eq_append_getElem hl]
        rw [List.getElem?_eq_getElem hl] at hrt
        simp only [Option.some.injEq] at hrt
        rw [hrt]
      have HNE : Hid (∀ W, Fr NoF w W → Calls Try.prog 44 #[.pointer (some ⟨b, 0, none⟩), .int .i64 x] W fun e w' => e = .returned (.int .i64 (nxt r.ids x : Nat)) ∧ ∃ d, W.drewN d = w') := fun W g => ck_next (H1.out.fr0 g) hxm
      have HB : Hid (∀ u0 u1 u2 u3 u4 u5 : Value, Blk (wr.alloc (.cells #[u0, u1, u2, u3, u4, u5] 79)) wr.heap.size 6 (fun i => #[u0, u1, u2, u3, u4, u5].getD i undef)) := fun u0 u1 u2 u3 u4 u5 => Blk.new _ _ _ 6 _ _ rfl rfl (fun i hi => by
        match i, hi with
        | 0, _ => rfl
        | 1, _ => rfl
        | 2, _ => rfl
        | 3, _ => rfl
        | 4, _ => rfl
        | 5, _ => rfl)
      have HLT := Lib.hid hlt
      have HTG : Hid (ghF (rt.take (k + 1)) = ghF (rt.take k) ++ (if (r.e x).fr < 0 then [(r.e x).pg] else [])) := by unfold Hid; rw [HT.out, ghF_snoc]
      clear hc hx hxm hrt ho hf HT
      generalize ghF (rt.take k) = gl at *
      go_upto_region 8 with fail
      have b3 := HB.out (.int .u32 ((r.e x).pg : Nat)) (.int .i64 (r.e x).fr) (.bool (r.e x).hot) (.bool (r.e x).ref) (.bool (r.e x).test) (.bool (r.v x))
      have f3 : Fr NoF w (wr.alloc (.cells #[.int .u32 ((r.e x).pg : Nat), .int .i64 (r.e x).fr, .bool (r.e x).hot, .bool (r.e x).ref, .bool (r.e x).test, .bool (r.v x)] 79)) := HF.out.alloc _
      have o3 : (wr.alloc (.cells #[.int .u32 ((r.e x).pg : Nat), .int .i64 (r.e x).fr, .bool (r.e x).hot, .bool (r.e x).ref, .bool (r.e x).test, .bool (r.v x)] 79)).ownsRow w.heap.size 34 1 u3 gl.length (gl.map fun (x : Nat) => Value.int .u32 (x : Int)) := HO.out.alloc _
      clear HB c1 x0 x1 x2 x3 x4 x5 HO HF
      generalize wr.alloc (.cells #[.int .u32 ((r.e x).pg : Nat), .int .i64 (r.e x).fr, .bool (r.e x).hot, .bool (r.e x).ref, .bool (r.e x).test, .bool (r.v x)] 79) = w3 at *
      have d0 := b3.cell (i := 0) (by omega)
      have d1 := b3.cell (i := 1) (by omega)
      simp only [Array.getD, List.getElem_toArray, List.getElem_cons_zero, List.getElem_cons_succ] at d0 d1
      have ld := b3.lt
      have O3 := Lib.hid o3
      have F3 := Lib.hid f3
      clear b3 o3 f3
      generalize hgg : (r.e x).pg = pg at *
      generalize hff : (r.e x).fr = fr at *
      have HGG := Lib.hid hgg
      have HFF := Lib.hid hff
      clear hgg hff
      have hkb : k ≤ 70000 := by have := HLT.out; have := HLEN.out; omega
      have hgl2 : gl.length ≤ 70000 := by have := HLT.out; have := HLEN.out; omega
      by_cases hg : fr < 0
      · obtain rfl : fr = -1 := by omega
        have HU : Hid (ghF (rt.take (k + 1)) = gl ++ [pg]) := by have := HTG.out; rw [if_pos (show (-1 : Int) < 0 by omega)] at this; exact this
        clear HTG
        go_wp2_with (first
          | (at_builtin; go_must (refine app1 (w0 := w) rfl _ _ 35 rfl 34 i0 (.int .u32 0) 1 4 Try.underlying35 hi0 hz0 hz1 hz2 rfl (by decide) u3 gl.length _ (by rfl) F3.out #[.int .u32 (pg : Nat)] O3.out w3.heap.size rfl (by rfl) rfl (by simp [Value.oneCell']) (by omega) (by omega) 34 ?_); intro v' w2 hown' hf'; clear F3 O3)
          | (go_at_call 44; (refine (HNE.out _ hf').mono ?_); rintro e w' ⟨rfl, d, rfl⟩))
        go_roundw
        case rel => exact ⟨k + 1, _, HLT.out, by go_num, rfl, fun _ => HX.out, by rw [HU.out, List.length_append, List.map_append]; exact own_keep hown' ((Fr.refl NoF _).drewN d) (fun _ _ q => q), hf'.drewN d⟩
        case measure => have := HLT.out; simp [intOf]; omega
      · have HU : Hid (ghF (rt.take (k + 1)) = gl) := by have := HTG.out; rw [if_neg hg, List.append_nil] at this; exact this
        have hne : (fr == -1) = false := by simp; omega
        clear HTG
        go_wp2_with (go_at_call 44; (refine (HNE.out _ F3.out).mono ?_); rintro e w' ⟨rfl, d, rfl⟩)
        go_roundw
        case rel => exact ⟨k + 1, _, HLT.out, by go_num, rfl, fun _ => HX.out, by rw [HU.out]; exact own_keep O3.out ((Fr.refl NoF _).drewN d) (fun _ _ q => q), F3.out.drewN d⟩
        case measure => have := HLT.out; simp [intOf]; omega
    · obtain rfl : k = len := by omega
      have HV : Hid (SlK .u32 wr u3 (ghF rt)) := by
        have e1 : rt.take k = rt := List.take_of_length_le (by have := HRL.out; have := HLN.out; omega)
        have := HO.out
        rw [e1] at this
        exact OwK.sl this
      clear ho hf hx hlt hkl
      go_wp2
      go_returns
      exact ⟨_, rfl, by rw [HGR.out]; exact HV.out, HF.out⟩
end
end Go.Proofs.Ytfgkaoncojhdeaa
