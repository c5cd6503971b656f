/-
  Run: what is called of a policy, as it stands in memory behind it: the walk, over whatever the policy's own calls are told to do.
  Package hatcheckref08's P is what Run is told of; New.
  Pro: the law's own told.
  Numbers that are cut: int(uint64(z) % k), and their like. No program in sight.
  Fix: things that may happen, out of any that came in.
  ProPlays: whatever happens to pages, of however many frames, the one that goes is told, and those that are remembered; no more than there are frames. The walk.
  A slice of things that may happen, that came in, out of a row's own reading of it.
  ProPlays: whatever happens to pages, of however many frames, the one that goes is told, and those that are remembered: the row. No condition.
  ProTargets: whatever happens: the target is from 1 to the greatest, and no more are hot than there are frames. The walk.
-/
import Derived.Test.YtoainbdkhhblbaaK07
import Derived.Test.YtoainbdkhhblbaaK39
import Derived.Test.YtoainbdkhhblbaaK02
import Derived.IntWalk
import Derived.Deep.RegionLaw
import Derived.Deep.RegionWith
import Derived.ProofKit
import Derived.OpenShut
import Derived.ChangeOld
import Derived.ChangeSame
import Derived.Below
import Derived.Deep.Slices
import Derived.Deep.Strs
namespace Go.Proofs.Ytoainbdkhhblbaa
open Go.RowKit
set_option linter.unusedVariables false

/-- What is told of the policy: P as functions, PR in memory at block pb; co: how it hangs together with the frames. -/
structure RefSys {σ : Type} (P : Pol σ) (PR : PRel σ) (pb n : Nat) (co : σ → List Nat → Prop) : Prop where
  pf : PFr PR
  cN : ∀ {w : World} {s : σ} {F D : Nat → Prop}, PR w s F D → w.cell? ⟨pb, 0, none⟩ = some (.int .i64 n)
  miss : ∀ {w : World} {s : σ} {F D : Nat → Prop} {fr : List Nat} {id : Nat}, PR w s F D → co s fr → ¬ id ∈ fr → 1 ≤ id → id < 4294967296 →
    co (P.miss s id) fr ∧ Calls Try.prog 24 #[.pointer (some ⟨pb, 0, none⟩), .int .u32 id] w fun e w' => e = .returned (.tuple #[]) ∧ Left PR w (P.miss s id) F D w'
  access : ∀ {w : World} {s : σ} {F D : Nat → Prop} {fr : List Nat} {a id : Nat}, PR w s F D → co s fr → a < n → (fr[a]? = some id ∨ fr[a]? = some 0 ∧ ¬ id ∈ fr) → 1 ≤ id → id < 4294967296 →
    co (P.access s a id) (fr.set a id) ∧ Calls Try.prog 27 #[.pointer (some ⟨pb, 0, none⟩), .int .i64 a, .int .u32 id] w fun e w' => e = .returned (.tuple #[]) ∧ Left PR w (P.access s a id) F D w'
  set : ∀ {w : World} {s : σ} {F D : Nat → Prop} {fr : List Nat} {a x : Nat} (v : Bool), PR w s F D → co s fr → a < n → fr[a]? = some x → 1 ≤ x →
    co (P.set s a v) fr ∧ Calls Try.prog 28 #[.pointer (some ⟨pb, 0, none⟩), .int .i64 a, .bool v] w fun e w' => e = .returned (.tuple #[]) ∧ Left PR w (P.set s a v) F D w'
  victimNo : ∀ {w : World} {s : σ} {F D : Nat → Prop} {fr : List Nat} {id : Nat}, PR w s F D → co s fr → ¬ id ∈ fr → 1 ≤ id → id < 4294967296 → P.victim s id = none →
    Calls Try.prog 26 #[.pointer (some ⟨pb, 0, none⟩), .int .u32 id] w fun e w' => e = .returned (.int .i64 (-1)) ∧ Left PR w s F D w'
  victimYes : ∀ {w : World} {s : σ} {F D : Nat → Prop} {fr : List Nat} {id a : Nat}, PR w s F D → co s fr → ¬ id ∈ fr → 1 ≤ id → id < 4294967296 → P.victim s id = some a →
    a < n ∧ co (P.gone s id) (fr.set a 0) ∧ Calls Try.prog 26 #[.pointer (some ⟨pb, 0, none⟩), .int .u32 id] w fun e w' => e = .returned (.int .i64 a) ∧ Left PR w (P.gone s id) F D w'
  remove : ∀ {w : World} {s : σ} {F D : Nat → Prop} {fr : List Nat} {a x : Nat}, PR w s F D → co s fr → a < n → fr[a]? = some x → 1 ≤ x →
    co (P.remove s a) (fr.set a 0) ∧ Calls Try.prog 29 #[.pointer (some ⟨pb, 0, none⟩), .int .i64 a] w fun e w' => e = .returned (.tuple #[]) ∧ Left PR w (P.remove s a) F D w'
  seen : ∀ {w : World} {s : σ} {F D : Nat → Prop} {c : Cl}, PR w s F D → c.size = 0 → c.ghosts = [] →
    Calls Try.prog 25 #[.pointer (some ⟨pb, 0, none⟩), .agg (clCells c (.slice none 0 0)).toArray] w fun e w' => ∃ gv, e = .returned (.agg (clCells (P.see s c) gv).toArray) ∧ SlK .u32 w' gv (P.ghosts s) ∧ (∀ b, gv.ownBlock = some b → (D b ∧ ¬ F b) ∨ w.heap.size ≤ b) ∧ Fr NoF w w'

/-- Things that may happen, that came in: kinds and pages. -/
def ArgP (w : World) (v : Value) (ops : List (Nat × Nat)) : Prop :=
  SlC w 2 v ops.length (ops.flatMap fun o => [.int .i64 o.1, .int .u32 o.2])
theorem ops_get : ∀ {ops : List (Nat × Nat)} {i : Nat} {o : Nat × Nat}, ops[i]? = some o → (ops.flatMap fun o => [Value.int .i64 o.1, Value.int .u32 o.2])[i * 2]? = some (.int .i64 o.1) ∧ (ops.flatMap fun o => [Value.int .i64 o.1, Value.int .u32 o.2])[i * 2 + 1]? = some (.int .u32 o.2)
  | a :: ops, 0, o, h => by simp at h; subst h; simp
  | a :: ops, i + 1, o, h => by
    have := ops_get (ops := ops) (i := i) (o := o) (by simpa using h)
    simp only [List.flatMap_cons, show (i + 1) * 2 = i * 2 + 1 + 1 from by omega]
    exact this
  | [], _, _, h => by simp at h

/-- What Run has done behind k things. -/
def RunRel {σ : Type} (P : Pol σ) (PR : PRel σ) (co : σ → List Nat → Prop) (w0 : World) (F0 : Nat → Prop) (n fb hb : Nat) (s0 : σ) (fr0 : List Nat) (ops : List (Nat × Nat)) (out i : Value) (wr : World) : Prop :=
  ∃ (k : Nat) (hd : Nat → Bool), k ≤ ops.length ∧ i = .int .i64 k ∧ St PR w0 F0 n fb hb wr (P.run s0 fr0 (ops.take k)).1 (P.run s0 fr0 (ops.take k)).2.1 hd (P.run s0 fr0 (ops.take k)).2.2 out ∧ co (P.run s0 fr0 (ops.take k)).1 (P.run s0 fr0 (ops.take k)).2.1

theorem set_same {fr : List Nat} {a x : Nat} (h : fr[a]? = some x) : fr.set a x = fr := by
  apply List.ext_getElem?
  intro i
  rw [List.getElem?_set]
  by_cases e : a = i
  · subst e; rw [if_pos rfl, if_pos (List.getElem?_eq_some_iff.1 h).1, h]
  · rw [if_neg e]
theorem RunRel_step {σ : Type} {P : Pol σ} {PR : PRel σ} {co : σ → List Nat → Prop} {w0 : World} {F0 : Nat → Prop} {n fb hb : Nat} {s0 : σ} {fr0 : List Nat} {ops : List (Nat × Nat)} {k q id : Nat} {s1 s' : σ} {fr1 fr' : List Nat} {cs1 cs' new : List Cl} {hd : Nat → Bool} {out : Value} {wr : World}
    (hX : P.run s0 fr0 (ops.take (k + 1)) = ((P.step s1 fr1 q id).1, (P.step s1 fr1 q id).2.1, cs1 ++ (P.step s1 fr1 q id).2.2)) (hS : P.step s1 fr1 q id = (s', fr', new)) (hk : k < ops.length)
    (hst : St PR w0 F0 n fb hb wr s' fr' hd cs' out) (hcs : cs' = cs1 ++ new) (hco : co s' fr') : RunRel P PR co w0 F0 n fb hb s0 fr0 ops out (.int .i64 ((k : Int) + 1)) wr := by
  rw [hS] at hX
  subst hcs
  exact ⟨k + 1, hd, hk, rfl, by rw [hX]; exact hst, by rw [hX]; exact hco⟩

set_option maxRecDepth 100000 in
set_option maxHeartbeats 4000000 in
theorem Run_walk {σ : Type} {P : Pol σ} {PR : PRel σ} {pb n : Nat} {co : σ → List Nat → Prop} (R : RefSys P PR pb n co) {w : World} {s : σ} {F D : Nat → Prop} {v : Value} {ops : List (Nat × Nat)}
    (h : PR w s F D) (hco : co s (List.replicate n 0)) (hn : n < 1000) (hv : ArgP w v ops) (hvF : ∀ b, v.ownBlock = some b → ¬ D b) (hl : ops.length < 1000) (hops : ∀ o ∈ ops, o.1 < 4 ∧ 1 ≤ o.2 ∧ o.2 < 4294967296) :
    Calls Try.prog 9 #[.pointer (some ⟨pb, 0, none⟩), v] w fun e w' => ∃ out, e = .returned out ∧ ∃ fb hb fr hd, St PR w D n fb hb w' (P.run s (List.replicate n 0) ops).1 fr hd (P.run s (List.replicate n 0) ops).2.2 out := by
  obtain ⟨i0, hi0, hz0, hz1, hz2⟩ := info_parts' (P := Try.prog) (e := 34) (z := .int .u32 0) (s := 1) (b := 4) (by kernel_rfl)
  obtain ⟨i1, hi1, hy0, hy1, hy2⟩ := info_parts' (P := Try.prog) (e := 4) (z := .bool false) (s := 1) (b := 1) (by kernel_rfl)
  have mk1 : ∀ w : World, (Instr.makeSlice 35 (.int .i64 (n : Int)) (.int .i64 (n : Int))).run Try.prog w =
      .ok (.slice (some ⟨w.heap.size, 0, none⟩) n n) (w.alloc (.cells (madeCells #[.int .u32 0] n) 34)) := by
    intro w
    have := run_make (P := Try.prog) w 35 34 i0 _ Try.underlying35 hi0 hz0 .i64 .i64 (n : Int) (n : Int) (by omega) (Int.le_refl _) (by rw [hz2]; omega) (by omega)
    rw [show ((n : Int)).toNat = n from by omega, hz1, Nat.mul_one] at this
    exact this
  have mk2 : ∀ w : World, (Instr.makeSlice 41 (.int .i64 (n : Int)) (.int .i64 (n : Int))).run Try.prog w =
      .ok (.slice (some ⟨w.heap.size, 0, none⟩) n n) (w.alloc (.cells (madeCells #[.bool false] n) 4)) := by
    intro w
    have := run_make (P := Try.prog) w 41 4 i1 _ Try.underlying41 hi1 hy0 .i64 .i64 (n : Int) (n : Int) (by omega) (Int.le_refl _) (by rw [hy2]; omega) (by omega)
    rw [show ((n : Int)).toNat = n from by omega, hy1, Nat.mul_one] at this
    exact this
  obtain ⟨av, cv, rfl, q1, q2⟩ := hv.shape
  unfold maxLen at q2
  have cN := R.cN h
  have hpb : pb < w.heap.size := World.block_lt_of_cell? (w := w) (a := ⟨pb, 0, none⟩) cN
  have HV := Lib.hid hv
  have HH := Lib.hid h
  have HCO := Lib.hid hco
  have HVF := Lib.hid hvF
  have HOPS := Lib.hid hops
  have HR := Lib.hid R
  clear hi0 hz0 hz1 hz2 hi1 hy0 hy1 hy2 hv h hco hvF hops R
  go_enter Try.func9, Try.ntmps9
  go_wp2
  have f01 : Fr NoF w ((w.alloc (.cells (madeCells #[.int .u32 0] n) 34)).alloc (.cells (madeCells #[.bool false] n) 4)) := ((Fr.refl NoF w).alloc _).alloc _
  have hst0 : St PR w D n w.heap.size (w.heap.size + 1) ((w.alloc (.cells (madeCells #[.int .u32 0] n) 34)).alloc (.cells (madeCells #[.bool false] n) 4)) s (List.replicate n 0) (fun _ => false) [] (.slice none 0 0) := by
    have hlt := HR.out.pf.lt HH.out
    refine ⟨F, D, [], HR.out.pf.fr HH.out f01 (fun _ _ q => q), ?_, ?_, by simp, World.ownsRow_nil _ _ _ _, rfl, fun i c g h1 => by simp at h1, fun q => by have := hlt _ q; omega, fun q => by have := hlt _ q; omega, by omega, fun b hb => (by cases hb), fun i hi => .inl hi, Nat.le_refl _, by omega, f01.none⟩
    · refine (Blk.new _ _ _ n _ _ rfl (by simp [size_madeCells]) (fun i hi => ?_)).alloc _
      rw [made_at hi, show (#[Value.int .u32 0] : Array Value).size = 1 from rfl, Nat.mod_one]
      simp [uF, hi]
    · refine Blk.new _ _ _ n _ _ (by simp) (by simp [size_madeCells]) (fun i hi => ?_)
      rw [made_at hi, show (#[Value.bool false] : Array Value).size = 1 from rfl, Nat.mod_one]
      rfl
  have HST0 := Lib.hid hst0
  clear f01 hst0 mk1 mk2 cN
  generalize (w.alloc (.cells (madeCells #[.int .u32 0] n) 34)).alloc (.cells (madeCells #[.bool false] n) 4) = w1 at *
  generalize w.heap.size + 1 = hb at *
  obtain ⟨fb, hfb⟩ : ∃ b, b = w.heap.size := ⟨_, rfl⟩
  rw [← hfb]
  rw [← hfb] at HST0
  have HFB := Lib.hid hfb
  clear hfb
  go_loopw [5, 8] (RunRel P PR co w D n fb hb s (List.replicate n 0) ops) (fun _ i _ => ops.length - (intOf i).toNat)
  case atStart => exact ⟨0, _, Nat.zero_le _, rfl, by simpa [Pol.run] using HST0.out, by simpa [Pol.run] using HCO.out⟩
  case round =>
    obtain ⟨k, hd, hk, rfl, hst, hco⟩ := hrel
    clear HST0
    by_cases hlt : k < ops.length
    · have HRN := Lib.hid (P.run_snoc s (List.replicate n 0) (ops.take k) ops[k])
      have HTK := Lib.hid (List.take_succ_eq_append_getElem hlt)
      have hcl := P.run_len s (List.replicate n 0) (ops.take k)
      rw [List.length_take] at hcl
      obtain ⟨hq, h1, h2⟩ := HOPS.out ops[k] (List.getElem_mem hlt)
      obtain ⟨bv, off, cv', ev', _, _, hbv, hcell⟩ := SlC.at HV.out hlt (by omega)
      simp only [Value.slice.injEq] at ev'
      obtain ⟨rfl, _, rfl⟩ := ev'
      obtain ⟨g1, g2⟩ := ops_get (List.getElem?_eq_getElem hlt)
      have cq := hcell _ _ g1
      have cid := hcell _ _ g2
      have HX : Hid (P.run s (List.replicate n 0) (ops.take (k + 1)) = ((P.step (P.run s (List.replicate n 0) (ops.take k)).1 (P.run s (List.replicate n 0) (ops.take k)).2.1 ops[k].1 ops[k].2).1, (P.step (P.run s (List.replicate n 0) (ops.take k)).1 (P.run s (List.replicate n 0) (ops.take k)).2.1 ops[k].1 ops[k].2).2.1, (P.run s (List.replicate n 0) (ops.take k)).2.2 ++ (P.step (P.run s (List.replicate n 0) (ops.take k)).1 (P.run s (List.replicate n 0) (ops.take k)).2.1 ops[k].1 ops[k].2).2.2)) := by
        unfold Hid; rw [HTK.out]; exact HRN.out
      clear HRN HTK g1 g2 hcell
      generalize P.run s (List.replicate n 0) (ops.take k) = x at *
      obtain ⟨s1, fr1, cs1⟩ := x
      simp only at hst hco hcl HX
      generalize ops[k] = o at *
      obtain ⟨q, id⟩ := o
      simp only at hq h1 h2 cq cid HX
      have hvF := HVF.out bv rfl
      have hff : Fr D w wr := by obtain ⟨_, _, _, h⟩ := hst; exact h.ff
      rw [← hff.cell (p := ⟨bv, off + k * 2, none⟩) hbv hvF] at cq
      rw [← hff.cell (p := ⟨bv, off + (k * 2 + 1), none⟩) hbv hvF] at cid
      have cid' : wr.cell? ⟨bv, off + k * 2 + 1, none⟩ = some (.int .u32 id) := cid
      have cN : wr.cell? ⟨pb, 0, none⟩ = some (.int .i64 n) := by obtain ⟨_, _, _, h⟩ := hst; exact HR.out.cN h.pr
      have HS0 := Lib.hid hst
      have HC0 := Lib.hid hco
      have hfrn : fr1.length = n := by obtain ⟨_, _, _, h⟩ := hst; exact h.frn
      have HFN := Lib.hid hfrn
      have HCF := Lib.hid (HS0.out.cells).1
      have HLEN : Hid (cs1.length < 900000) := by unfold Hid; omega
      have H2 := Lib.hid h2
      clear hst hco hcl hvF hff cid hfrn h2
      go_wp2
      go_hide hQ
      go_loop [10, 11, 12] (fun a e i => ∃ j : Nat, j ≤ n ∧ i = .int .i64 ((j : Int) - 1) ∧ a = .int .i64 (fromL fr1 id j) ∧ e = .int .i64 (fromL fr1 0 j)) (fun _ _ i => (intOf i + 1).toNat)
      case atStart =>
        have h0 := fromL_end fr1 id
        have h1 := fromL_end fr1 0
        rw [HFN.out] at h0 h1
        exact ⟨n, Nat.le_refl _, rfl, by rw [h0], by rw [h1]⟩
      case round =>
        obtain ⟨j, hj, rfl, rfl, rfl⟩ := hrel
        cases j with
        | succ j =>
          rw [show ((j + 1 : Nat) : Int) - 1 = (j : Int) from by omega]
          have hjl : j < fr1.length := by rw [HFN.out]; omega
          have hf1 := fromL_step fr1 id j hjl
          have hf2 := fromL_step fr1 0 j hjl
          have ce := HCF.out j (by omega)
          rw [show fr1.getD j 0 = fr1[j] from by simp [hjl]] at ce
          generalize fr1[j] = y at *
          generalize fromL fr1 id (j + 1) = z1 at *
          generalize fromL fr1 0 (j + 1) = z2 at *
          clear hjl
          by_cases e1 : y = id
          · rw [if_pos e1] at hf1
            rw [if_neg (by omega)] at hf2
            have b1 : ((y : Int) == (id : Int)) = true := by simp; omega
            have b2 : ((y : Int) == 0) = false := by simp; omega
            have HF1 := Lib.hid hf1
            have HF2 := Lib.hid hf2
            clear hf1 hf2 e1
            go_wp2
            go_round
            case rel => exact ⟨j, by omega, rfl, by rw [HF1.out], by rw [HF2.out]⟩
            case measure => first | (simp [intOf]; done) | (simp [intOf]; omega)
          · rw [if_neg e1] at hf1
            have b1 : ((y : Int) == (id : Int)) = false := by simp; omega
            by_cases e2 : y = 0
            · rw [if_pos e2] at hf2
              have b2 : ((y : Int) == 0) = true := by simp; omega
              have HF1 := Lib.hid hf1
              have HF2 := Lib.hid hf2
              clear hf1 hf2 e1 e2
              go_wp2
              go_round
              case rel => exact ⟨j, by omega, rfl, by rw [HF1.out], by rw [HF2.out]⟩
              case measure => first | (simp [intOf]; done) | (simp [intOf]; omega)
            · rw [if_neg e2] at hf2
              have b2 : ((y : Int) == 0) = false := by simp; omega
              have HF1 := Lib.hid hf1
              have HF2 := Lib.hid hf2
              clear hf1 hf2 e1 e2
              go_wp2
              go_round
              case rel => exact ⟨j, by omega, rfl, by rw [HF1.out], by rw [HF2.out]⟩
              case measure => first | (simp [intOf]; done) | (simp [intOf]; omega)
        | zero =>
          rename wr = wr => hww
          clear hww
          rw [show ((0 : Nat) : Int) - 1 = -1 from rfl]
          have ez1 := fromL_zero fr1 id
          have ez2 := fromL_zero fr1 0
          generalize fromL fr1 id 0 = z1 at *
          generalize fromL fr1 0 0 = z2 at *
          clear HCF
          obtain rfl | rfl | rfl | rfl : q = 0 ∨ q = 1 ∨ q = 2 ∨ q = 3 := by omega
          · replace cq : wr.cell? ⟨bv, off + k * 2, none⟩ = some (.int .i64 0) := cq
            cases e : atL fr1 id with
            | some a =>
              rw [e] at ez1
              replace ez1 : z1 = (a : Int) := ez1
              subst ez1
              obtain ⟨ha, hfa⟩ := atL_some e
              have ha' : a < n := by have := HFN.out; omega
              have HFA := Lib.hid hfa
              clear ez2
              have HSTEP : Hid (P.step s1 fr1 0 id = (P.access s1 a id, fr1, [P.see (P.access s1 a id) (clAcc a id)])) := by simp [Hid, Pol.step, e]
              clear e hfa ha
              have HCO1 : Hid (co (P.access s1 a id) fr1) := by
                obtain ⟨_, _, _, hr⟩ := HS0.out
                have h := (HR.out.access hr.pr HC0.out ha' (.inl HFA.out) h1 H2.out).1
                rw [set_same HFA.out] at h; exact h
              have HC1 : Hid (Calls Try.prog 27 #[.pointer (some ⟨pb, 0, none⟩), .int .i64 a, .int .u32 id] (wr) fun e w' => e = .returned (.tuple #[]) ∧ St PR w D n fb hb w' (P.access s1 a id) (fr1) (hd) (cs1) u5) := HS0.out.calls HR.out.pf (fun F' D' hp => (HR.out.access hp HC0.out ha' (.inl HFA.out) h1 H2.out).2)
              go_wp2
              subst hQ
              go_wp2_with fail
              refine HC1.out.mono ?_
              clear HC1
              rintro e w1 ⟨rfl, hst1⟩
              have HS1 := Lib.hid hst1
              clear hst1
              have HC2 : Hid (Calls Try.prog 25 #[.pointer (some ⟨pb, 0, none⟩), .agg #[.int .i64 1, .int .i64 a, .int .u32 id, .bool false, .int .i64 0, .int .i64 0, .slice none 0 0]] (w1) fun e w' => ∃ gv, e = .returned (.agg #[.int .i64 1, .int .i64 a, .int .u32 id, .bool false, .int .i64 0, .int .i64 (P.size (P.access s1 a id) : Nat), gv]) ∧ StG PR w D n fb hb w' (P.access s1 a id) (fr1) (hd) (cs1) u5 gv (P.see (P.access s1 a id) (clAcc a id)).ghosts) := HS1.out.seen HR.out.pf (fun F' D' hp => HR.out.seen (c := clAcc a id) hp rfl rfl)
              go_wp2_with fail
              refine HC2.out.mono ?_
              clear HC2
              rintro e w2 ⟨gv2, rfl, hsg2⟩
              have HL2 : Hid ((cs1).length < 1000000) := by have := HLEN.out; unfold Hid; first | omega | (simp; omega)
              have HG2 := Lib.hid hsg2
              clear hsg2
              go_wp2_with (at_builtin; go_must (refine HG2.out.append HR.out.pf HL2.out rfl _ _ rfl (by rfl) rfl (by rfl) rfl ?_); intro o2 x2 hs2; have HS2 := Lib.hid hs2; clear hs2)
              go_wp2
              go_roundw
              case rel => exact RunRel_step (new := [P.see (P.access s1 a id) (clAcc a id)]) HX.out HSTEP.out hlt HS2.out (by simp) HCO1.out
              case measure => first | (simp [intOf]; done) | (simp [intOf]; omega)
            | none =>
              rw [e] at ez1
              replace ez1 : z1 = -1 := ez1
              subst ez1
              have HNI := Lib.hid (atL_none e)
              cases e0 : atL fr1 0 with
              | some a =>
                rw [e0] at ez2
                replace ez2 : z2 = (a : Int) := ez2
                subst ez2
                obtain ⟨ha, hfa⟩ := atL_some e0
                have ha' : a < n := by have := HFN.out; omega
                have HFA := Lib.hid hfa
                have HSTEP : Hid (P.step s1 fr1 0 id = P.come (P.miss s1 id) fr1 a id [P.see (P.miss s1 id) (clMiss id)]) := by simp [Hid, Pol.step, e, e0]
                clear e e0 hfa ha
                have HCO1 : Hid (co (P.miss s1 id) fr1) := by
                  obtain ⟨_, _, _, hr⟩ := HS0.out
                  have h := (HR.out.miss hr.pr HC0.out HNI.out h1 H2.out).1
                  exact h
                have HC1 : Hid (Calls Try.prog 24 #[.pointer (some ⟨pb, 0, none⟩), .int .u32 id] (wr) fun e w' => e = .returned (.tuple #[]) ∧ St PR w D n fb hb w' (P.miss s1 id) (fr1) (hd) (cs1) u5) := HS0.out.calls HR.out.pf (fun F' D' hp => (HR.out.miss hp HC0.out HNI.out h1 H2.out).2)
                go_wp2
                subst hQ
                go_wp2_with fail
                refine HC1.out.mono ?_
                clear HC1
                rintro e w1 ⟨rfl, hst1⟩
                have HS1 := Lib.hid hst1
                clear hst1
                have HC2 : Hid (Calls Try.prog 25 #[.pointer (some ⟨pb, 0, none⟩), .agg #[.int .i64 0, .int .i64 0, .int .u32 id, .bool false, .int .i64 0, .int .i64 0, .slice none 0 0]] (w1) fun e w' => ∃ gv, e = .returned (.agg #[.int .i64 0, .int .i64 0, .int .u32 id, .bool false, .int .i64 0, .int .i64 (P.size (P.miss s1 id) : Nat), gv]) ∧ StG PR w D n fb hb w' (P.miss s1 id) (fr1) (hd) (cs1) u5 gv (P.see (P.miss s1 id) (clMiss id)).ghosts) := HS1.out.seen HR.out.pf (fun F' D' hp => HR.out.seen (c := clMiss id) hp rfl rfl)
                go_wp2_with fail
                refine HC2.out.mono ?_
                clear HC2
                rintro e w2 ⟨gv2, rfl, hsg2⟩
                have HL2 : Hid ((cs1).length < 1000000) := by have := HLEN.out; unfold Hid; first | omega | (simp; omega)
                have HG2 := Lib.hid hsg2
                clear hsg2
                go_wp2_with (at_builtin; go_must (refine HG2.out.append HR.out.pf HL2.out rfl _ _ rfl (by rfl) rfl (by rfl) rfl ?_); intro o2 x2 hs2; have HS2 := Lib.hid hs2; clear hs2; obtain ⟨cf101, ff101, fh101, lf101, lh101, ch101, _, dfh101⟩ := HS2.out.cells; have cf101' := cf101 a ha'; have ch101' := ch101 a ha'; have dhf101 : ¬ hb = fb := fun e => dfh101 e.symm; clear cf101 ch101; generalize fr1.getD a 0 = y101 at cf101'; generalize hd a = t101 at ch101')
                have HS401 := Lib.hid ((HS2.out.setF HR.out.pf ha' (id := id)).setH HR.out.pf a false)
                have HCO3 : Hid (co (P.access (P.miss s1 id) a id) (fr1.set a id)) := by
                  obtain ⟨_, _, _, hr⟩ := HS401.out
                  have h := (HR.out.access hr.pr HCO1.out ha' (.inr ⟨HFA.out, HNI.out⟩) h1 H2.out).1
                  first | exact h | (rw [List.set_set] at h; exact h)
                have HC3 : Hid (Calls Try.prog 27 #[.pointer (some ⟨pb, 0, none⟩), .int .i64 a, .int .u32 id] (((x2).setCell ⟨fb, a, none⟩ (.int .u32 id)).setCell ⟨hb, a, none⟩ (.bool false)) fun e w' => e = .returned (.tuple #[]) ∧ St PR w D n fb hb w' (P.access (P.miss s1 id) a id) ((fr1).set a id) (upd (hd) a false) (cs1 ++ [P.see (P.miss s1 id) (clMiss id)]) o2) := HS401.out.calls HR.out.pf (fun F' D' hp => (HR.out.access hp HCO1.out ha' (.inr ⟨HFA.out, HNI.out⟩) h1 H2.out).2)
                go_wp2_with fail
                refine HC3.out.mono ?_
                clear HC3
                rintro e w3 ⟨rfl, hst3⟩
                have HS3 := Lib.hid hst3
                clear hst3
                clear cf101' ff101 fh101 lf101 lh101 ch101' dfh101 dhf101
                have HC4 : Hid (Calls Try.prog 25 #[.pointer (some ⟨pb, 0, none⟩), .agg #[.int .i64 1, .int .i64 a, .int .u32 id, .bool false, .int .i64 0, .int .i64 0, .slice none 0 0]] (w3) fun e w' => ∃ gv, e = .returned (.agg #[.int .i64 1, .int .i64 a, .int .u32 id, .bool false, .int .i64 0, .int .i64 (P.size (P.access (P.miss s1 id) a id) : Nat), gv]) ∧ StG PR w D n fb hb w' (P.access (P.miss s1 id) a id) ((fr1).set a id) (upd (hd) a false) (cs1 ++ [P.see (P.miss s1 id) (clMiss id)]) o2 gv (P.see (P.access (P.miss s1 id) a id) (clAcc a id)).ghosts) := HS3.out.seen HR.out.pf (fun F' D' hp => HR.out.seen (c := clAcc a id) hp rfl rfl)
                go_wp2_with fail
                refine HC4.out.mono ?_
                clear HC4
                rintro e w4 ⟨gv4, rfl, hsg4⟩
                have HL4 : Hid ((cs1 ++ [P.see (P.miss s1 id) (clMiss id)]).length < 1000000) := by have := HLEN.out; unfold Hid; first | omega | (simp; omega)
                have HG4 := Lib.hid hsg4
                clear hsg4
                go_wp2_with (at_builtin; go_must (refine HG4.out.append HR.out.pf HL4.out rfl _ _ rfl (by rfl) rfl (by rfl) rfl ?_); intro o4 x4 hs4; have HS4 := Lib.hid hs4; clear hs4)
                have HCO5 : Hid (co (P.set (P.access (P.miss s1 id) a id) a true) (fr1.set a id)) := by
                  obtain ⟨_, _, _, hr⟩ := HS4.out
                  have h := (HR.out.set true hr.pr HCO3.out ha' (x := id) (by rw [List.getElem?_set, if_pos rfl, if_pos (by have := HFN.out; omega)]) h1).1
                  exact h
                have HC5 : Hid (Calls Try.prog 28 #[.pointer (some ⟨pb, 0, none⟩), .int .i64 a, .bool true] (x4) fun e w' => e = .returned (.tuple #[]) ∧ St PR w D n fb hb w' (P.set (P.access (P.miss s1 id) a id) a true) ((fr1).set a id) (upd (hd) a false) (cs1 ++ [P.see (P.miss s1 id) (clMiss id)] ++ [P.see (P.access (P.miss s1 id) a id) (clAcc a id)]) o4) := HS4.out.calls HR.out.pf (fun F' D' hp => (HR.out.set true hp HCO3.out ha' (x := id) (by rw [List.getElem?_set, if_pos rfl, if_pos (by have := HFN.out; omega)]) h1).2)
                go_wp2_with fail
                refine HC5.out.mono ?_
                clear HC5
                rintro e w5 ⟨rfl, hst5⟩
                have HS5 := Lib.hid hst5
                clear hst5
                have HC6 : Hid (Calls Try.prog 25 #[.pointer (some ⟨pb, 0, none⟩), .agg #[.int .i64 2, .int .i64 a, .int .u32 0, .bool true, .int .i64 0, .int .i64 0, .slice none 0 0]] (w5) fun e w' => ∃ gv, e = .returned (.agg #[.int .i64 2, .int .i64 a, .int .u32 0, .bool true, .int .i64 0, .int .i64 (P.size (P.set (P.access (P.miss s1 id) a id) a true) : Nat), gv]) ∧ StG PR w D n fb hb w' (P.set (P.access (P.miss s1 id) a id) a true) ((fr1).set a id) (upd (hd) a false) (cs1 ++ [P.see (P.miss s1 id) (clMiss id)] ++ [P.see (P.access (P.miss s1 id) a id) (clAcc a id)]) o4 gv (P.see (P.set (P.access (P.miss s1 id) a id) a true) (clSet a true)).ghosts) := HS5.out.seen HR.out.pf (fun F' D' hp => HR.out.seen (c := clSet a true) hp rfl rfl)
                go_wp2_with fail
                refine HC6.out.mono ?_
                clear HC6
                rintro e w6 ⟨gv6, rfl, hsg6⟩
                have HL6 : Hid ((cs1 ++ [P.see (P.miss s1 id) (clMiss id)] ++ [P.see (P.access (P.miss s1 id) a id) (clAcc a id)]).length < 1000000) := by have := HLEN.out; unfold Hid; first | omega | (simp; omega)
                have HG6 := Lib.hid hsg6
                clear hsg6
                go_wp2_with (at_builtin; go_must (refine HG6.out.append HR.out.pf HL6.out rfl _ _ rfl (by rfl) rfl (by rfl) rfl ?_); intro o6 x6 hs6; have HS6 := Lib.hid hs6; clear hs6)
                go_wp2
                go_roundw
                case rel => exact RunRel_step (new := [P.see (P.miss s1 id) (clMiss id), P.see (P.access (P.miss s1 id) a id) (clAcc a id), P.see (P.set (P.access (P.miss s1 id) a id) a true) (clSet a true)]) HX.out HSTEP.out hlt HS6.out (by simp) HCO5.out
                case measure => first | (simp [intOf]; done) | (simp [intOf]; omega)
              | none =>
                rw [e0] at ez2
                replace ez2 : z2 = -1 := ez2
                subst ez2
                cases ev : P.victim (P.miss s1 id) id with
                | none =>
                  have HSTEP : Hid (P.step s1 fr1 0 id = (P.miss s1 id, fr1, [P.see (P.miss s1 id) (clMiss id), P.see (P.miss s1 id) (clVic id (-1))])) := by simp [Hid, Pol.step, e, e0, ev]
                  have HEV := Lib.hid ev
                  clear e e0 ev
                  have HCO1 : Hid (co (P.miss s1 id) fr1) := by
                    obtain ⟨_, _, _, hr⟩ := HS0.out
                    have h := (HR.out.miss hr.pr HC0.out HNI.out h1 H2.out).1
                    exact h
                  have HC1 : Hid (Calls Try.prog 24 #[.pointer (some ⟨pb, 0, none⟩), .int .u32 id] (wr) fun e w' => e = .returned (.tuple #[]) ∧ St PR w D n fb hb w' (P.miss s1 id) (fr1) (hd) (cs1) u5) := HS0.out.calls HR.out.pf (fun F' D' hp => (HR.out.miss hp HC0.out HNI.out h1 H2.out).2)
                  go_wp2
                  subst hQ
                  go_wp2_with fail
                  refine HC1.out.mono ?_
                  clear HC1
                  rintro e w1 ⟨rfl, hst1⟩
                  have HS1 := Lib.hid hst1
                  clear hst1
                  have HC2 : Hid (Calls Try.prog 25 #[.pointer (some ⟨pb, 0, none⟩), .agg #[.int .i64 0, .int .i64 0, .int .u32 id, .bool false, .int .i64 0, .int .i64 0, .slice none 0 0]] (w1) fun e w' => ∃ gv, e = .returned (.agg #[.int .i64 0, .int .i64 0, .int .u32 id, .bool false, .int .i64 0, .int .i64 (P.size (P.miss s1 id) : Nat), gv]) ∧ StG PR w D n fb hb w' (P.miss s1 id) (fr1) (hd) (cs1) u5 gv (P.see (P.miss s1 id) (clMiss id)).ghosts) := HS1.out.seen HR.out.pf (fun F' D' hp => HR.out.seen (c := clMiss id) hp rfl rfl)
                  go_wp2_with fail
                  refine HC2.out.mono ?_
                  clear HC2
                  rintro e w2 ⟨gv2, rfl, hsg2⟩
                  have HL2 : Hid ((cs1).length < 1000000) := by have := HLEN.out; unfold Hid; first | omega | (simp; omega)
                  have HG2 := Lib.hid hsg2
                  clear hsg2
                  go_wp2_with (at_builtin; go_must (refine HG2.out.append HR.out.pf HL2.out rfl _ _ rfl (by rfl) rfl (by rfl) rfl ?_); intro o2 x2 hs2; have HS2 := Lib.hid hs2; clear hs2)
                  have HC3 : Hid (Calls Try.prog 26 #[.pointer (some ⟨pb, 0, none⟩), .int .u32 id] (x2) fun e w' => e = .returned (.int .i64 (-1)) ∧ St PR w D n fb hb w' (P.miss s1 id) (fr1) (hd) (cs1 ++ [P.see (P.miss s1 id) (clMiss id)]) o2) := HS2.out.calls HR.out.pf (fun F' D' hp => (HR.out.victimNo hp HCO1.out HNI.out h1 H2.out HEV.out))
                  go_wp2_with fail
                  refine HC3.out.mono ?_
                  clear HC3
                  rintro e w3 ⟨rfl, hst3⟩
                  have HS3 := Lib.hid hst3
                  clear hst3
                  have HC4 : Hid (Calls Try.prog 25 #[.pointer (some ⟨pb, 0, none⟩), .agg #[.int .i64 3, .int .i64 0, .int .u32 id, .bool false, .int .i64 (-1), .int .i64 0, .slice none 0 0]] (w3) fun e w' => ∃ gv, e = .returned (.agg #[.int .i64 3, .int .i64 0, .int .u32 id, .bool false, .int .i64 (-1), .int .i64 (P.size (P.miss s1 id) : Nat), gv]) ∧ StG PR w D n fb hb w' (P.miss s1 id) (fr1) (hd) (cs1 ++ [P.see (P.miss s1 id) (clMiss id)]) o2 gv (P.see (P.miss s1 id) (clVic id (-1))).ghosts) := HS3.out.seen HR.out.pf (fun F' D' hp => HR.out.seen (c := clVic id (-1)) hp rfl rfl)
                  go_wp2_with fail
                  refine HC4.out.mono ?_
                  clear HC4
                  rintro e w4 ⟨gv4, rfl, hsg4⟩
                  have HL4 : Hid ((cs1 ++ [P.see (P.miss s1 id) (clMiss id)]).length < 1000000) := by have := HLEN.out; unfold Hid; first | omega | (simp; omega)
                  have HG4 := Lib.hid hsg4
                  clear hsg4
                  go_wp2_with (at_builtin; go_must (refine HG4.out.append HR.out.pf HL4.out rfl _ _ rfl (by rfl) rfl (by rfl) rfl ?_); intro o4 x4 hs4; have HS4 := Lib.hid hs4; clear hs4)
                  go_wp2
                  go_roundw
                  case rel => exact RunRel_step (new := [P.see (P.miss s1 id) (clMiss id), P.see (P.miss s1 id) (clVic id (-1))]) HX.out HSTEP.out hlt HS4.out (by simp) HCO1.out
                  case measure => first | (simp [intOf]; done) | (simp [intOf]; omega)
                | some a =>
                  have HSTEP : Hid (P.step s1 fr1 0 id = P.come (P.gone (P.miss s1 id) id) fr1 a id [P.see (P.miss s1 id) (clMiss id), P.see (P.gone (P.miss s1 id) id) (clVic id a)]) := by simp [Hid, Pol.step, e, e0, ev]
                  have HEV := Lib.hid ev
                  clear e e0 ev
                  have HCO1 : Hid (co (P.miss s1 id) fr1) := by
                    obtain ⟨_, _, _, hr⟩ := HS0.out
                    have h := (HR.out.miss hr.pr HC0.out HNI.out h1 H2.out).1
                    exact h
                  have HC1 : Hid (Calls Try.prog 24 #[.pointer (some ⟨pb, 0, none⟩), .int .u32 id] (wr) fun e w' => e = .returned (.tuple #[]) ∧ St PR w D n fb hb w' (P.miss s1 id) (fr1) (hd) (cs1) u5) := HS0.out.calls HR.out.pf (fun F' D' hp => (HR.out.miss hp HC0.out HNI.out h1 H2.out).2)
                  go_wp2
                  subst hQ
                  go_wp2_with fail
                  refine HC1.out.mono ?_
                  clear HC1
                  rintro e w1 ⟨rfl, hst1⟩
                  have HS1 := Lib.hid hst1
                  clear hst1
                  have ha' : a < n := by
                    obtain ⟨_, _, _, hr⟩ := HS1.out
                    exact (HR.out.victimYes hr.pr HCO1.out HNI.out h1 H2.out HEV.out).1
                  have HC2 : Hid (Calls Try.prog 25 #[.pointer (some ⟨pb, 0, none⟩), .agg #[.int .i64 0, .int .i64 0, .int .u32 id, .bool false, .int .i64 0, .int .i64 0, .slice none 0 0]] (w1) fun e w' => ∃ gv, e = .returned (.agg #[.int .i64 0, .int .i64 0, .int .u32 id, .bool false, .int .i64 0, .int .i64 (P.size (P.miss s1 id) : Nat), gv]) ∧ StG PR w D n fb hb w' (P.miss s1 id) (fr1) (hd) (cs1) u5 gv (P.see (P.miss s1 id) (clMiss id)).ghosts) := HS1.out.seen HR.out.pf (fun F' D' hp => HR.out.seen (c := clMiss id) hp rfl rfl)
                  go_wp2_with fail
                  refine HC2.out.mono ?_
                  clear HC2
                  rintro e w2 ⟨gv2, rfl, hsg2⟩
                  have HL2 : Hid ((cs1).length < 1000000) := by have := HLEN.out; unfold Hid; first | omega | (simp; omega)
                  have HG2 := Lib.hid hsg2
                  clear hsg2
                  go_wp2_with (at_builtin; go_must (refine HG2.out.append HR.out.pf HL2.out rfl _ _ rfl (by rfl) rfl (by rfl) rfl ?_); intro o2 x2 hs2; have HS2 := Lib.hid hs2; clear hs2)
                  have HCO3 : Hid (co (P.gone (P.miss s1 id) id) (fr1.set a 0)) := by
                    obtain ⟨_, _, _, hr⟩ := HS2.out
                    have h := (HR.out.victimYes hr.pr HCO1.out HNI.out h1 H2.out HEV.out).2.1
                    exact h
                  have HC3 : Hid (Calls Try.prog 26 #[.pointer (some ⟨pb, 0, none⟩), .int .u32 id] (x2) fun e w' => e = .returned (.int .i64 (a : Int)) ∧ St PR w D n fb hb w' (P.gone (P.miss s1 id) id) (fr1) (hd) (cs1 ++ [P.see (P.miss s1 id) (clMiss id)]) o2) := HS2.out.calls HR.out.pf (fun F' D' hp => (HR.out.victimYes hp HCO1.out HNI.out h1 H2.out HEV.out).2.2)
                  go_wp2_with fail
                  refine HC3.out.mono ?_
                  clear HC3
                  rintro e w3 ⟨rfl, hst3⟩
                  have HS3 := Lib.hid hst3
                  clear hst3
                  have HC4 : Hid (Calls Try.prog 25 #[.pointer (some ⟨pb, 0, none⟩), .agg #[.int .i64 3, .int .i64 0, .int .u32 id, .bool false, .int .i64 a, .int .i64 0, .slice none 0 0]] (w3) fun e w' => ∃ gv, e = .returned (.agg #[.int .i64 3, .int .i64 0, .int .u32 id, .bool false, .int .i64 a, .int .i64 (P.size (P.gone (P.miss s1 id) id) : Nat), gv]) ∧ StG PR w D n fb hb w' (P.gone (P.miss s1 id) id) (fr1) (hd) (cs1 ++ [P.see (P.miss s1 id) (clMiss id)]) o2 gv (P.see (P.gone (P.miss s1 id) id) (clVic id a)).ghosts) := HS3.out.seen HR.out.pf (fun F' D' hp => HR.out.seen (c := clVic id a) hp rfl rfl)
                  go_wp2_with fail
                  refine HC4.out.mono ?_
                  clear HC4
                  rintro e w4 ⟨gv4, rfl, hsg4⟩
                  have HL4 : Hid ((cs1 ++ [P.see (P.miss s1 id) (clMiss id)]).length < 1000000) := by have := HLEN.out; unfold Hid; first | omega | (simp; omega)
                  have HG4 := Lib.hid hsg4
                  clear hsg4
                  go_wp2_with (at_builtin; go_must (refine HG4.out.append HR.out.pf HL4.out rfl _ _ rfl (by rfl) rfl (by rfl) rfl ?_); intro o4 x4 hs4; have HS4 := Lib.hid hs4; clear hs4; obtain ⟨cf102, ff102, fh102, lf102, lh102, ch102, _, dfh102⟩ := HS4.out.cells; have cf102' := cf102 a ha'; have ch102' := ch102 a ha'; have dhf102 : ¬ hb = fb := fun e => dfh102 e.symm; clear cf102 ch102; generalize fr1.getD a 0 = y102 at cf102'; generalize hd a = t102 at ch102')
                  have HF0 : Hid ((fr1.set a 0)[a]? = some 0 ∧ ¬ id ∈ fr1.set a 0) := ⟨by rw [List.getElem?_set, if_pos rfl, if_pos (by have := HFN.out; omega)], fun q => by
                    rcases List.mem_or_eq_of_mem_set q with q | q
                    · exact HNI.out q
                    · omega⟩
                  have HS402 := Lib.hid ((HS4.out.setF HR.out.pf ha' (id := id)).setH HR.out.pf a false)
                  have HCO5 : Hid (co (P.access (P.gone (P.miss s1 id) id) a id) (fr1.set a id)) := by
                    obtain ⟨_, _, _, hr⟩ := HS402.out
                    have h := (HR.out.access hr.pr HCO3.out ha' (.inr HF0.out) h1 H2.out).1
                    first | exact h | (rw [List.set_set] at h; exact h)
                  have HC5 : Hid (Calls Try.prog 27 #[.pointer (some ⟨pb, 0, none⟩), .int .i64 a, .int .u32 id] (((x4).setCell ⟨fb, a, none⟩ (.int .u32 id)).setCell ⟨hb, a, none⟩ (.bool false)) fun e w' => e = .returned (.tuple #[]) ∧ St PR w D n fb hb w' (P.access (P.gone (P.miss s1 id) id) a id) ((fr1).set a id) (upd (hd) a false) (cs1 ++ [P.see (P.miss s1 id) (clMiss id)] ++ [P.see (P.gone (P.miss s1 id) id) (clVic id a)]) o4) := HS402.out.calls HR.out.pf (fun F' D' hp => (HR.out.access hp HCO3.out ha' (.inr HF0.out) h1 H2.out).2)
                  go_wp2_with fail
                  refine HC5.out.mono ?_
                  clear HC5
                  rintro e w5 ⟨rfl, hst5⟩
                  have HS5 := Lib.hid hst5
                  clear hst5
                  clear cf102' ff102 fh102 lf102 lh102 ch102' dfh102 dhf102
                  have HC6 : Hid (Calls Try.prog 25 #[.pointer (some ⟨pb, 0, none⟩), .agg #[.int .i64 1, .int .i64 a, .int .u32 id, .bool false, .int .i64 0, .int .i64 0, .slice none 0 0]] (w5) fun e w' => ∃ gv, e = .returned (.agg #[.int .i64 1, .int .i64 a, .int .u32 id, .bool false, .int .i64 0, .int .i64 (P.size (P.access (P.gone (P.miss s1 id) id) a id) : Nat), gv]) ∧ StG PR w D n fb hb w' (P.access (P.gone (P.miss s1 id) id) a id) ((fr1).set a id) (upd (hd) a false) (cs1 ++ [P.see (P.miss s1 id) (clMiss id)] ++ [P.see (P.gone (P.miss s1 id) id) (clVic id a)]) o4 gv (P.see (P.access (P.gone (P.miss s1 id) id) a id) (clAcc a id)).ghosts) := HS5.out.seen HR.out.pf (fun F' D' hp => HR.out.seen (c := clAcc a id) hp rfl rfl)
                  go_wp2_with fail
                  refine HC6.out.mono ?_
                  clear HC6
                  rintro e w6 ⟨gv6, rfl, hsg6⟩
                  have HL6 : Hid ((cs1 ++ [P.see (P.miss s1 id) (clMiss id)] ++ [P.see (P.gone (P.miss s1 id) id) (clVic id a)]).length < 1000000) := by have := HLEN.out; unfold Hid; first | omega | (simp; omega)
                  have HG6 := Lib.hid hsg6
                  clear hsg6
                  go_wp2_with (at_builtin; go_must (refine HG6.out.append HR.out.pf HL6.out rfl _ _ rfl (by rfl) rfl (by rfl) rfl ?_); intro o6 x6 hs6; have HS6 := Lib.hid hs6; clear hs6)
                  have HCO7 : Hid (co (P.set (P.access (P.gone (P.miss s1 id) id) a id) a true) (fr1.set a id)) := by
                    obtain ⟨_, _, _, hr⟩ := HS6.out
                    have h := (HR.out.set true hr.pr HCO5.out ha' (x := id) (by rw [List.getElem?_set, if_pos rfl, if_pos (by have := HFN.out; omega)]) h1).1
                    exact h
                  have HC7 : Hid (Calls Try.prog 28 #[.pointer (some ⟨pb, 0, none⟩), .int .i64 a, .bool true] (x6) fun e w' => e = .returned (.tuple #[]) ∧ St PR w D n fb hb w' (P.set (P.access (P.gone (P.miss s1 id) id) a id) a true) ((fr1).set a id) (upd (hd) a false) (cs1 ++ [P.see (P.miss s1 id) (clMiss id)] ++ [P.see (P.gone (P.miss s1 id) id) (clVic id a)] ++ [P.see (P.access (P.gone (P.miss s1 id) id) a id) (clAcc a id)]) o6) := HS6.out.calls HR.out.pf (fun F' D' hp => (HR.out.set true hp HCO5.out ha' (x := id) (by rw [List.getElem?_set, if_pos rfl, if_pos (by have := HFN.out; omega)]) h1).2)
                  go_wp2_with fail
                  refine HC7.out.mono ?_
                  clear HC7
                  rintro e w7 ⟨rfl, hst7⟩
                  have HS7 := Lib.hid hst7
                  clear hst7
                  have HC8 : Hid (Calls Try.prog 25 #[.pointer (some ⟨pb, 0, none⟩), .agg #[.int .i64 2, .int .i64 a, .int .u32 0, .bool true, .int .i64 0, .int .i64 0, .slice none 0 0]] (w7) fun e w' => ∃ gv, e = .returned (.agg #[.int .i64 2, .int .i64 a, .int .u32 0, .bool true, .int .i64 0, .int .i64 (P.size (P.set (P.access (P.gone (P.miss s1 id) id) a id) a true) : Nat), gv]) ∧ StG PR w D n fb hb w' (P.set (P.access (P.gone (P.miss s1 id) id) a id) a true) ((fr1).set a id) (upd (hd) a false) (cs1 ++ [P.see (P.miss s1 id) (clMiss id)] ++ [P.see (P.gone (P.miss s1 id) id) (clVic id a)] ++ [P.see (P.access (P.gone (P.miss s1 id) id) a id) (clAcc a id)]) o6 gv (P.see (P.set (P.access (P.gone (P.miss s1 id) id) a id) a true) (clSet a true)).ghosts) := HS7.out.seen HR.out.pf (fun F' D' hp => HR.out.seen (c := clSet a true) hp rfl rfl)
                  go_wp2_with fail
                  refine HC8.out.mono ?_
                  clear HC8
                  rintro e w8 ⟨gv8, rfl, hsg8⟩
                  have HL8 : Hid ((cs1 ++ [P.see (P.miss s1 id) (clMiss id)] ++ [P.see (P.gone (P.miss s1 id) id) (clVic id a)] ++ [P.see (P.access (P.gone (P.miss s1 id) id) a id) (clAcc a id)]).length < 1000000) := by have := HLEN.out; unfold Hid; first | omega | (simp; omega)
                  have HG8 := Lib.hid hsg8
                  clear hsg8
                  go_wp2_with (at_builtin; go_must (refine HG8.out.append HR.out.pf HL8.out rfl _ _ rfl (by rfl) rfl (by rfl) rfl ?_); intro o8 x8 hs8; have HS8 := Lib.hid hs8; clear hs8)
                  go_wp2
                  go_roundw
                  case rel => exact RunRel_step (new := [P.see (P.miss s1 id) (clMiss id), P.see (P.gone (P.miss s1 id) id) (clVic id a), P.see (P.access (P.gone (P.miss s1 id) id) a id) (clAcc a id), P.see (P.set (P.access (P.gone (P.miss s1 id) id) a id) a true) (clSet a true)]) HX.out HSTEP.out hlt HS8.out (by simp) HCO7.out
                  case measure => first | (simp [intOf]; done) | (simp [intOf]; omega)
          · replace cq : wr.cell? ⟨bv, off + k * 2, none⟩ = some (.int .i64 1) := cq
            clear ez2
            cases e : atL fr1 id with
            | none =>
              rw [e] at ez1
              replace ez1 : z1 = -1 := ez1
              subst ez1
              have HSTEP : Hid (P.step s1 fr1 1 id = (s1, fr1, [])) := by simp [Hid, Pol.step, e]
              clear e
              go_wp2
              subst hQ
              go_wp2
              go_roundw
              case rel => exact RunRel_step (new := []) HX.out HSTEP.out hlt HS0.out (by simp) HC0.out
              case measure => first | (simp [intOf]; done) | (simp [intOf]; omega)
            | some a =>
              rw [e] at ez1
              replace ez1 : z1 = (a : Int) := ez1
              subst ez1
              obtain ⟨ha, hfa⟩ := atL_some e
              have ha' : a < n := by have := HFN.out; omega
              have HFA := Lib.hid hfa
              have HSTEP : Hid (P.step s1 fr1 1 id = (P.set s1 a false, fr1, [P.see (P.set s1 a false) (clSet a false)])) := by simp [Hid, Pol.step, e]
              clear e hfa ha
              obtain ⟨cf1, ff1, fh1, lf1, lh1, ch1, _, dfh1⟩ := HS0.out.cells
              have cf1' := cf1 a ha'
              have ch1' := ch1 a ha'
              have dhf1 : ¬ hb = fb := fun e => dfh1 e.symm
              clear cf1 ch1
              generalize hd a = t1 at ch1'
              have HS1 := Lib.hid (HS0.out.setH HR.out.pf a true)
              have HCO2 : Hid (co (P.set s1 a false) fr1) := by
                obtain ⟨_, _, _, hr⟩ := HS1.out
                have h := (HR.out.set false hr.pr HC0.out ha' HFA.out h1).1
                exact h
              have HC2 : Hid (Calls Try.prog 28 #[.pointer (some ⟨pb, 0, none⟩), .int .i64 a, .bool false] (wr.setCell ⟨hb, a, none⟩ (.bool true)) fun e w' => e = .returned (.tuple #[]) ∧ St PR w D n fb hb w' (P.set s1 a false) (fr1) (upd hd a true) (cs1) u5) := HS1.out.calls HR.out.pf (fun F' D' hp => (HR.out.set false hp HC0.out ha' HFA.out h1).2)
              go_wp2
              subst hQ
              go_wp2_with fail
              refine HC2.out.mono ?_
              clear HC2
              rintro e w2 ⟨rfl, hst2⟩
              have HS2 := Lib.hid hst2
              clear hst2
              clear cf1' ff1 fh1 lf1 lh1 ch1' dfh1 dhf1
              obtain ⟨cf3, ff3, fh3, lf3, lh3, ch3, _, dfh3⟩ := HS2.out.cells
              have cf3' := cf3 a ha'
              have ch3' := ch3 a ha'
              have dhf3 : ¬ hb = fb := fun e => dfh3 e.symm
              clear cf3 ch3
              rw [upd_same] at ch3'
              have HC4 : Hid (Calls Try.prog 25 #[.pointer (some ⟨pb, 0, none⟩), .agg #[.int .i64 2, .int .i64 a, .int .u32 0, .bool false, .int .i64 0, .int .i64 0, .slice none 0 0]] (w2) fun e w' => ∃ gv, e = .returned (.agg #[.int .i64 2, .int .i64 a, .int .u32 0, .bool false, .int .i64 0, .int .i64 (P.size (P.set s1 a false) : Nat), gv]) ∧ StG PR w D n fb hb w' (P.set s1 a false) (fr1) (upd hd a true) (cs1) u5 gv (P.see (P.set s1 a false) (clSet a false)).ghosts) := HS2.out.seen HR.out.pf (fun F' D' hp => HR.out.seen (c := clSet a false) hp rfl rfl)
              go_wp2_with fail
              refine HC4.out.mono ?_
              clear HC4
              rintro e w4 ⟨gv4, rfl, hsg4⟩
              have HL4 : Hid ((cs1).length < 1000000) := by have := HLEN.out; unfold Hid; first | omega | (simp; omega)
              have HG4 := Lib.hid hsg4
              clear hsg4
              go_wp2_with (at_builtin; go_must (refine HG4.out.append HR.out.pf HL4.out rfl _ _ rfl (by rfl) rfl (by rfl) rfl ?_); intro o4 x4 hs4; have HS4 := Lib.hid hs4; clear hs4)
              go_wp2
              go_roundw
              case rel => exact RunRel_step (new := [P.see (P.set s1 a false) (clSet a false)]) HX.out HSTEP.out hlt HS4.out (by simp) HCO2.out
              case measure => first | (simp [intOf]; done) | (simp [intOf]; omega)
          · replace cq : wr.cell? ⟨bv, off + k * 2, none⟩ = some (.int .i64 2) := cq
            clear ez2
            cases e : atL fr1 id with
            | none =>
              rw [e] at ez1
              replace ez1 : z1 = -1 := ez1
              subst ez1
              have HSTEP : Hid (P.step s1 fr1 2 id = (s1, fr1, [])) := by simp [Hid, Pol.step, e]
              clear e
              go_wp2
              subst hQ
              go_wp2
              go_roundw
              case rel => exact RunRel_step (new := []) HX.out HSTEP.out hlt HS0.out (by simp) HC0.out
              case measure => first | (simp [intOf]; done) | (simp [intOf]; omega)
            | some a =>
              rw [e] at ez1
              replace ez1 : z1 = (a : Int) := ez1
              subst ez1
              obtain ⟨ha, hfa⟩ := atL_some e
              have ha' : a < n := by have := HFN.out; omega
              have HFA := Lib.hid hfa
              have HSTEP : Hid (P.step s1 fr1 2 id = (P.set s1 a true, fr1, [P.see (P.set s1 a true) (clSet a true)])) := by simp [Hid, Pol.step, e]
              clear e hfa ha
              obtain ⟨cf1, ff1, fh1, lf1, lh1, ch1, _, dfh1⟩ := HS0.out.cells
              have cf1' := cf1 a ha'
              have ch1' := ch1 a ha'
              have dhf1 : ¬ hb = fb := fun e => dfh1 e.symm
              clear cf1 ch1
              generalize hd a = t1 at ch1'
              have HS1 := Lib.hid (HS0.out.setH HR.out.pf a false)
              have HCO2 : Hid (co (P.set s1 a true) fr1) := by
                obtain ⟨_, _, _, hr⟩ := HS1.out
                have h := (HR.out.set true hr.pr HC0.out ha' HFA.out h1).1
                exact h
              have HC2 : Hid (Calls Try.prog 28 #[.pointer (some ⟨pb, 0, none⟩), .int .i64 a, .bool true] (wr.setCell ⟨hb, a, none⟩ (.bool false)) fun e w' => e = .returned (.tuple #[]) ∧ St PR w D n fb hb w' (P.set s1 a true) (fr1) (upd hd a false) (cs1) u5) := HS1.out.calls HR.out.pf (fun F' D' hp => (HR.out.set true hp HC0.out ha' HFA.out h1).2)
              go_wp2
              subst hQ
              go_wp2_with fail
              refine HC2.out.mono ?_
              clear HC2
              rintro e w2 ⟨rfl, hst2⟩
              have HS2 := Lib.hid hst2
              clear hst2
              clear cf1' ff1 fh1 lf1 lh1 ch1' dfh1 dhf1
              obtain ⟨cf3, ff3, fh3, lf3, lh3, ch3, _, dfh3⟩ := HS2.out.cells
              have cf3' := cf3 a ha'
              have ch3' := ch3 a ha'
              have dhf3 : ¬ hb = fb := fun e => dfh3 e.symm
              clear cf3 ch3
              rw [upd_same] at ch3'
              have HC4 : Hid (Calls Try.prog 25 #[.pointer (some ⟨pb, 0, none⟩), .agg #[.int .i64 2, .int .i64 a, .int .u32 0, .bool true, .int .i64 0, .int .i64 0, .slice none 0 0]] (w2) fun e w' => ∃ gv, e = .returned (.agg #[.int .i64 2, .int .i64 a, .int .u32 0, .bool true, .int .i64 0, .int .i64 (P.size (P.set s1 a true) : Nat), gv]) ∧ StG PR w D n fb hb w' (P.set s1 a true) (fr1) (upd hd a false) (cs1) u5 gv (P.see (P.set s1 a true) (clSet a true)).ghosts) := HS2.out.seen HR.out.pf (fun F' D' hp => HR.out.seen (c := clSet a true) hp rfl rfl)
              go_wp2_with fail
              refine HC4.out.mono ?_
              clear HC4
              rintro e w4 ⟨gv4, rfl, hsg4⟩
              have HL4 : Hid ((cs1).length < 1000000) := by have := HLEN.out; unfold Hid; first | omega | (simp; omega)
              have HG4 := Lib.hid hsg4
              clear hsg4
              go_wp2_with (at_builtin; go_must (refine HG4.out.append HR.out.pf HL4.out rfl _ _ rfl (by rfl) rfl (by rfl) rfl ?_); intro o4 x4 hs4; have HS4 := Lib.hid hs4; clear hs4)
              go_wp2
              go_roundw
              case rel => exact RunRel_step (new := [P.see (P.set s1 a true) (clSet a true)]) HX.out HSTEP.out hlt HS4.out (by simp) HCO2.out
              case measure => first | (simp [intOf]; done) | (simp [intOf]; omega)
          · replace cq : wr.cell? ⟨bv, off + k * 2, none⟩ = some (.int .i64 3) := cq
            clear ez2
            cases e : atL fr1 id with
            | none =>
              rw [e] at ez1
              replace ez1 : z1 = -1 := ez1
              subst ez1
              have HSTEP : Hid (P.step s1 fr1 3 id = (s1, fr1, [])) := by simp [Hid, Pol.step, e]
              clear e
              go_wp2
              subst hQ
              go_wp2
              go_roundw
              case rel => exact RunRel_step (new := []) HX.out HSTEP.out hlt HS0.out (by simp) HC0.out
              case measure => first | (simp [intOf]; done) | (simp [intOf]; omega)
            | some a =>
              rw [e] at ez1
              replace ez1 : z1 = (a : Int) := ez1
              subst ez1
              obtain ⟨ha, hfa⟩ := atL_some e
              have ha' : a < n := by have := HFN.out; omega
              have HFA := Lib.hid hfa
              have HSTEP : Hid (P.step s1 fr1 3 id = (P.remove s1 a, fr1.set a 0, [P.see (P.remove s1 a) (clRem a)])) := by simp [Hid, Pol.step, e]
              clear e hfa ha
              obtain ⟨cf201, ff201, fh201, lf201, lh201, ch201, _, dfh201⟩ := HS0.out.cells
              have cf201' := cf201 a ha'
              have ch201' := ch201 a ha'
              have dhf201 : ¬ hb = fb := fun e => dfh201 e.symm
              clear cf201 ch201
              generalize fr1.getD a 0 = y201 at cf201'
              generalize hd a = t201 at ch201'
              have HS501 := Lib.hid ((HS0.out.setF HR.out.pf ha' (id := 0)).setH HR.out.pf a false)
              have HCO2 : Hid (co (P.remove s1 a) (fr1.set a 0)) := by
                obtain ⟨_, _, _, hr⟩ := HS501.out
                have h := (HR.out.remove hr.pr HC0.out ha' HFA.out h1).1
                exact h
              have HC2 : Hid (Calls Try.prog 29 #[.pointer (some ⟨pb, 0, none⟩), .int .i64 a] (((wr).setCell ⟨fb, a, none⟩ (.int .u32 0)).setCell ⟨hb, a, none⟩ (.bool false)) fun e w' => e = .returned (.tuple #[]) ∧ St PR w D n fb hb w' (P.remove s1 a) ((fr1).set a 0) (upd (hd) a false) (cs1) u5) := HS501.out.calls HR.out.pf (fun F' D' hp => (HR.out.remove hp HC0.out ha' HFA.out h1).2)
              go_wp2
              subst hQ
              go_wp2_with fail
              refine HC2.out.mono ?_
              clear HC2
              rintro e w2 ⟨rfl, hst2⟩
              have HS2 := Lib.hid hst2
              clear hst2
              clear cf201' ff201 fh201 lf201 lh201 ch201' dfh201 dhf201
              have HC3 : Hid (Calls Try.prog 25 #[.pointer (some ⟨pb, 0, none⟩), .agg #[.int .i64 4, .int .i64 a, .int .u32 0, .bool false, .int .i64 0, .int .i64 0, .slice none 0 0]] (w2) fun e w' => ∃ gv, e = .returned (.agg #[.int .i64 4, .int .i64 a, .int .u32 0, .bool false, .int .i64 0, .int .i64 (P.size (P.remove s1 a) : Nat), gv]) ∧ StG PR w D n fb hb w' (P.remove s1 a) ((fr1).set a 0) (upd (hd) a false) (cs1) u5 gv (P.see (P.remove s1 a) (clRem a)).ghosts) := HS2.out.seen HR.out.pf (fun F' D' hp => HR.out.seen (c := clRem a) hp rfl rfl)
              go_wp2_with fail
              refine HC3.out.mono ?_
              clear HC3
              rintro e w3 ⟨gv3, rfl, hsg3⟩
              have HL3 : Hid ((cs1).length < 1000000) := by have := HLEN.out; unfold Hid; first | omega | (simp; omega)
              have HG3 := Lib.hid hsg3
              clear hsg3
              go_wp2_with (at_builtin; go_must (refine HG3.out.append HR.out.pf HL3.out rfl _ _ rfl (by rfl) rfl (by rfl) rfl ?_); intro o3 x3 hs3; have HS3 := Lib.hid hs3; clear hs3)
              go_wp2
              go_roundw
              case rel => exact RunRel_step (new := [P.see (P.remove s1 a) (clRem a)]) HX.out HSTEP.out hlt HS3.out (by simp) HCO2.out
              case measure => first | (simp [intOf]; done) | (simp [intOf]; omega)
    · obtain rfl : k = ops.length := by omega
      rw [List.take_length] at hst hco
      have HS0 := Lib.hid hst
      clear hst hco
      go_wp2
      go_returns
      exact ⟨u5, rfl, fb, hb, _, _, HS0.out⟩
end Go.Proofs.Ytoainbdkhhblbaa
namespace Go.Proofs.Ytoainbdkhhblbaa
open Go.RowKit
set_option linter.unusedVariables false
set_option linter.unusedSimpArgs false

/-- Its blocks. -/
def B8 (pb gb ob : Nat) (lv : Value) : Nat → Prop := fun i => i = pb ∨ i = gb ∨ i = ob ∨ lv.ownBlock = some i
def PR8 (pb n : Nat) : PRel PrS := fun w s F D => ∃ gb ob lv, RQ w pb gb ob n s lv ∧ PK n n s ∧ PM n s ∧ (∀ i, F i ↔ B8 pb gb ob lv i) ∧ ∀ i, D i ↔ B8 pb gb ob lv i
def co8 (n : Nat) : PrS → List Nat → Prop := fun s fr => fr.length = n ∧ ∀ g, g < n → fr[g]? = some (s.pg g)
section
variable {w w' : World} {pb gb ob n : Nat} {lv : Value} {s s' : PrS} {F D : Nat → Prop}
theorem RQ.lt (h : RQ w pb gb ob n s lv) : ∀ i, B8 pb gb ob lv i → i < w.heap.size := by
  rintro i (rfl | rfl | rfl | q)
  · exact h.hd.lt
  · exact h.pg.lt
  · exact h.on.lt
  · exact h.sl.lt i q
theorem PR8_fr : PFr (PR8 pb n) where
  fr := by
    rintro w w' s F D G ⟨gb, ob, lv, h, hk, hm, hF, hD⟩ f hd
    exact ⟨gb, ob, lv, h.fr f (hd _ ((hD _).2 (.inl rfl))) (hd _ ((hD _).2 (.inr (.inl rfl)))) (hd _ ((hD _).2 (.inr (.inr (.inl rfl))))) (fun b q => hd _ ((hD _).2 (.inr (.inr (.inr q))))), hk, hm, hF, hD⟩
  sub := by
    rintro w s F D ⟨gb, ob, lv, h, hk, hm, hF, hD⟩ i hi
    exact (hD i).2 ((hF i).1 hi)
  lt := by
    rintro w s F D ⟨gb, ob, lv, h, hk, hm, hF, hD⟩ i hi
    exact h.lt i ((hD i).1 hi)
theorem RQ.toRS (h : RQ w pb gb ob n s lv) (hF : ∀ i, F i ↔ B8 pb gb ob lv i) : RS w F pb gb ob n w s :=
  ⟨⟨lv, h, fun b q => .inl ((hF b).2 (.inr (.inr (.inr q))))⟩, Fr.refl _ _, (hF _).2 (.inl rfl), (hF _).2 (.inr (.inl rfl)), (hF _).2 (.inr (.inr (.inl rfl)))⟩
theorem RS.left (h : RS w F pb gb ob n w' s') (hk : PK n n s') (hm : PM n s') (hD : ∀ i, D i ↔ F i) : Left (PR8 pb n) w s' F D w' := by
  obtain ⟨⟨lv, a1, a2⟩, a3, a4⟩ := h
  have key : ∀ i, B8 pb gb ob lv i → F i ∨ w.heap.size ≤ i := by
    rintro i (rfl | rfl | rfl | q)
    · exact .inl a4.1
    · exact .inl a4.2.1
    · exact .inl a4.2.2
    · exact a2 i q
  exact ⟨_, _, ⟨gb, ob, lv, a1, hk, hm, fun _ => Iff.rfl, fun _ => Iff.rfl⟩, a3, key, fun i q => (key i q).imp (fun q => (hD i).2 q) id⟩
theorem q_miss (w : World) (v : Value) (id : Nat) : Calls Try.prog 24 #[v, .int .u32 id] w fun e w' => e = .returned (.tuple #[]) ∧ w' = w := by
  go_enter Try.func24, Try.ntmps24
  go_wp2
  go_returns
  exact ⟨rfl, rfl⟩
theorem cnt8 (s : PrS) (n : Nat) : cntF ((List.range n).map s.pg) s.on n = s.sizeN n := by
  unfold cntF PrS.sizeN
  rw [List.countP_eq_length_filter]
  congr 1
  apply List.filter_congr
  intro k hk
  have hk := List.mem_range.1 hk
  unfold okF
  rw [List.getD_eq_getElem?_getD, List.getElem?_map, List.getElem?_range hk]
  by_cases q : s.pg k = 0 <;> simp [q]
theorem RQ.toPG (h : RQ w pb gb ob n s lv) : PG w pb 8 gb ob n (hdQ n gb ob lv s) (fun _ => none) ((List.range n).map s.pg) s.on :=
  ⟨h.hd, h.pg.congr (fun i hi => by unfold uN uF; rw [List.getD_eq_getElem?_getD, List.getElem?_map, List.getElem?_range hi]; rfl), h.on, fun i k l e => (by cases e), h.d1, h.d2, h.d3, by simp, h.hn⟩
end
theorem co8_at {n : Nat} {s : PrS} {fr : List Nat} {a x : Nat} (h : co8 n s fr) (ha : a < n) (q : fr[a]? = some x) : s.pg a = x := by
  have := h.2 a ha
  rw [q] at this
  simpa using this.symm
theorem co8_set {n : Nat} {s s' : PrS} {fr : List Nat} {a x : Nat} (h : co8 n s fr) (ha : a < n) (e : s'.pg = upd s.pg a x) : co8 n s' (fr.set a x) := by
  refine ⟨by rw [List.length_set]; exact h.1, fun g hg => ?_⟩
  rw [e, List.getElem?_set]
  by_cases q : a = g
  · subst q; rw [if_pos rfl, if_pos (by have := h.1; omega), upd_same]
  · rw [if_neg q, upd_other _ _ (fun r => q r.symm)]; exact h.2 g hg
theorem sys8 {pb n : Nat} : RefSys (polP n) (PR8 pb n) pb n (co8 n) where
  pf := PR8_fr
  cN := by
    rintro w s F D ⟨gb, ob, lv, h, _⟩
    exact h.c 0 (by omega)
  miss := by
    rintro w s F D fr id ⟨gb, ob, lv, h, hk, hm, hF, hD⟩ hco _ _ _
    exact ⟨hco, (q_miss w _ id).mono fun e w' ⟨he, hw⟩ => ⟨he, by rw [hw]; exact (h.toRS hF).left hk hm (fun i => (hD i).trans (hF i).symm)⟩⟩
  access := by
    rintro w s F D fr a id ⟨gb, ob, lv, h, hk, hm, hF, hD⟩ hco ha hx h1 h2
    have hq : s.pg a = id ∨ s.pg a = 0 ∧ ∀ g, g < n → ¬ s.pg g = id := by
      rcases hx with q | ⟨q, q2⟩
      · exact .inl (co8_at hco ha q)
      · refine .inr ⟨co8_at hco ha q, fun g hg e => q2 ?_⟩
        have := hco.2 g hg
        rw [e] at this
        exact List.mem_of_getElem? this
    have key : PK n n (s.access n a id) ∧ PM n (s.access n a id) ∧ (s.access n a id).pg = upd s.pg a id := by
      rcases hq with q | ⟨q, q2⟩
      · obtain ⟨k1, k2, k3, _⟩ := access_old hk hm ha q h1
        exact ⟨k1, k2, k3⟩
      · obtain ⟨k1, k2, k3, _⟩ := access_new hk hm ha q h1 h2 q2
        exact ⟨k1, k2, k3⟩
    exact ⟨co8_set hco ha key.2.2, (q_access (h.toRS hF) hk hm ha h1 h2 hq).mono fun e w' ⟨he, hr⟩ => ⟨he, hr.left key.1 key.2.1 (fun i => (hD i).trans (hF i).symm)⟩⟩
  set := by
    rintro w s F D fr a x v ⟨gb, ob, lv, h, hk, hm, hF, hD⟩ hco ha hx h1
    have hp : ¬ s.pg a = 0 := by have := co8_at hco ha hx; omega
    obtain ⟨k1, k2⟩ := set_ok hk hm ha hp v
    exact ⟨hco, (q_set (h.toRS hF) ha v).mono fun e w' ⟨he, hr⟩ => ⟨he, hr.left k1 k2 (fun i => (hD i).trans (hF i).symm)⟩⟩
  victimNo := by
    rintro w s F D fr id ⟨gb, ob, lv, h, hk, hm, hF, hD⟩ hco _ _ _ hv
    have hz : s.sizeN n = 0 := by
      rw [(vicP s id).1] at hv
      by_cases q : s.sizeN n = 0
      · exact q
      · rw [if_neg q] at hv; cases hv
    exact (q_victim_no (h.toRS hF) hz id).mono fun e w' ⟨he, d, hd⟩ => ⟨he, ((h.toRS hF).fr0 (by rw [← hd]; exact (Fr.refl NoF w).drewN d)).left hk hm (fun i => (hD i).trans (hF i).symm)⟩
  victimYes := by
    rintro w s F D fr id a ⟨gb, ob, lv, h, hk, hm, hF, hD⟩ hco _ _ _ hv
    rw [(vicP s id).1] at hv
    by_cases q : s.sizeN n = 0
    · rw [if_pos q] at hv; cases hv
    · rw [if_neg q] at hv
      simp only [Option.some.injEq] at hv
      obtain ⟨k1, k2, k3, k4, k5, k6, k7⟩ := resS_ok hk hm q
      rw [hv] at k3 k6
      have hg : (polP n).gone s id = resS (s.vic n) := (vicP s id).2
      rw [hg]
      refine ⟨k3, co8_set hco k3 k6, ?_⟩
      have hvy := q_victim_yes (h.toRS hF) hk hm q id
      rw [hv] at hvy
      exact hvy.mono fun e w' ⟨he, hr⟩ => ⟨he, hr.left k1 k2 (fun i => (hD i).trans (hF i).symm)⟩
  remove := by
    rintro w s F D fr a x ⟨gb, ob, lv, h, hk, hm, hF, hD⟩ hco ha hx h1
    have hp : ¬ s.pg a = 0 := by have := co8_at hco ha hx; omega
    obtain ⟨k1, k2, k3, k4⟩ := rem_ok hk hm ha hp
    exact ⟨co8_set hco ha k3, (q_remove (h.toRS hF) hk ha).mono fun e w' ⟨he, hr⟩ => ⟨he, hr.left k1 k2 (fun i => (hD i).trans (hF i).symm)⟩⟩
  seen := by
    rintro w s F D c ⟨gb, ob, lv, h, hk, hm, hF, hD⟩ h0 hg
    have hsee : (polP n).see s c = { c with size := cntF ((List.range n).map s.pg) s.on n, ghosts := s.gh } := by
      rw [cnt8]; rfl
    rw [hsee]
    refine (seen_gen h.toPG (by omega) rfl rfl rfl (by omega) (gh := s.gh) (fun wr f => ?_) c h0 hg).mono fun e w' ⟨gv, he, hs, hb, hf⟩ => ⟨gv, he, hs, fun b q => ?_, hf⟩
    · exact (q_ghosts ((h.fr0 f).toRS (F := B8 pb gb ob lv) (fun _ => Iff.rfl)) (fun e he => (hk.el e he).2.1.2)).mono fun e w' ⟨gv, he, hs, hb, hf⟩ => ⟨gv, he, hs, fun b q => .inr (hb b q), hf⟩
    · rcases hb b q with ⟨q1, q2⟩ | q1
      · rcases q1 with q1 | ⟨j, k, l, e', _⟩
        · exact (q2 q1).elim
        · cases e'
      · exact .inr q1
set_option maxHeartbeats 1000000 in
theorem q_new (n : Nat) (w : World) (h1 : 1 ≤ n) (hn : n < 1000) :
    Calls Try.prog 8 #[.int .i64 n] w fun e w' => ∃ pb F D, e = .returned (.pointer (some ⟨pb, 0, none⟩)) ∧ PR8 pb n w' (pr0 n) F D ∧ (∀ i, D i → w.heap.size ≤ i) ∧ Fr NoF w w' := by
  obtain ⟨i0, hi0, hz0, hz1, hz2⟩ := info_parts' (P := Try.prog) (e := 34) (z := .int .u32 0) (s := 1) (b := 4) (by kernel_rfl)
  obtain ⟨i1, hi1, hy0, hy1, hy2⟩ := info_parts' (P := Try.prog) (e := 4) (z := .bool false) (s := 1) (b := 1) (by kernel_rfl)
  have mk1 : ∀ w : World, (Instr.makeSlice 35 (.int .i64 (n : Int)) (.int .i64 (n : Int))).run Try.prog w =
      .ok (.slice (some ⟨w.heap.size, 0, none⟩) n n) (w.alloc (.cells (madeCells #[.int .u32 0] n) 34)) := by
    intro w
    have := run_make (P := Try.prog) w 35 34 i0 _ Try.underlying35 hi0 hz0 .i64 .i64 (n : Int) (n : Int) (by omega) (Int.le_refl _) (by rw [hz2]; omega) (by omega)
    rw [show ((n : Int)).toNat = n from by omega, hz1, Nat.mul_one] at this
    exact this
  have mk2 : ∀ w : World, (Instr.makeSlice 41 (.int .i64 (n : Int)) (.int .i64 (n : Int))).run Try.prog w =
      .ok (.slice (some ⟨w.heap.size, 0, none⟩) n n) (w.alloc (.cells (madeCells #[.bool false] n) 4)) := by
    intro w
    have := run_make (P := Try.prog) w 41 4 i1 _ Try.underlying41 hi1 hy0 .i64 .i64 (n : Int) (n : Int) (by omega) (Int.le_refl _) (by rw [hy2]; omega) (by omega)
    rw [show ((n : Int)).toNat = n from by omega, hy1, Nat.mul_one] at this
    exact this
  have KEY : Hid (∀ (wz : World) (gb ob pb : Nat) (g : Int), g = ((max (n - 1) 1 : Nat) : Int) → wz.heap[gb]? = some (.cells (madeCells #[.int .u32 0] n) 34 (0, 0)) → wz.heap[ob]? = some (.cells (madeCells #[.bool false] n) 4 (0, 0)) →
      wz.heap[pb]? = some (.cells #[.int .i64 n, .slice (some ⟨gb, 0, none⟩) n n, .slice (some ⟨ob, 0, none⟩) n n, .slice none 0 0, .int .i64 0, .int .i64 0, .int .i64 0, .int .i64 g] 45 (0, 0)) → ¬ pb = gb → ¬ pb = ob → ¬ gb = ob →
      ∃ F D, PR8 pb n wz (pr0 n) F D ∧ ∀ i, D i → i = pb ∨ i = gb ∨ i = ob) := by
    intro wz gb ob pb g eg e1 e2 e3 d1 d2 d3
    subst eg
    refine ⟨_, _, ⟨gb, ob, .slice none 0 0, ⟨⟨_, _, e3, rfl, fun i hi => ?_⟩, ⟨_, _, e1, by simp [size_madeCells], fun i hi => ?_⟩, ⟨_, _, e2, by simp [size_madeCells], fun i hi => ?_⟩, SlF.nil _ _ _ _, fun b hb => (by cases hb), d1, d2, d3, hn, by show 0 < 4000; omega⟩, (pk0 h1).1, (pk0 h1).2, fun _ => Iff.rfl, fun _ => Iff.rfl⟩, fun i q => ?_⟩
    · match i, hi with
      | 0, _ | 1, _ | 2, _ | 3, _ | 4, _ | 5, _ | 6, _ | 7, _ => rfl
    · rw [made_at hi, show (#[Value.int .u32 0] : Array Value).size = 1 from rfl, Nat.mod_one]; rfl
    · rw [made_at hi, show (#[Value.bool false] : Array Value).size = 1 from rfl, Nat.mod_one]; rfl
    · rcases q with q | q | q | q
      · exact .inl q
      · exact .inr (.inl q)
      · exact .inr (.inr q)
      · cases q
  clear hi0 hz0 hz1 hz2 hi1 hy0 hy1 hy2
  go_enter Try.func8, Try.ntmps8
  go_wp2
  go_region
  · have HG : Hid ((if (n : Int) - 1 < 1 then (1 : Int) else (n : Int) - 1) = ((max (n - 1) 1 : Nat) : Int)) := by unfold Hid; split <;> omega
    generalize (if (n : Int) - 1 < 1 then (1 : Int) else (n : Int) - 1) = g at *
    go_wp2
    go_returns
    obtain ⟨F, D, P, hD⟩ := KEY.out (((w.alloc (.cells (madeCells #[.int .u32 0] n) 34)).alloc (.cells (madeCells #[.bool false] n) 4)).alloc (.cells #[.int .i64 n, .slice (some ⟨w.heap.size, 0, none⟩) n n, .slice (some ⟨(w.heap.size + 1), 0, none⟩) n n, .slice none 0 0, .int .i64 0, .int .i64 0, .int .i64 0, .int .i64 g] 45)) w.heap.size (w.heap.size + 1) (w.heap.size + 1 + 1) g HG.out
      (heap_step _ _ _ _ (heap_step _ _ _ _ (heap_alloc_new _ _ _ rfl))) (heap_step _ _ _ _ (heap_alloc_new _ _ _ (by simp))) (heap_alloc_new _ _ _ (by simp)) (by omega) (by omega) (by omega)
    refine ⟨w.heap.size + 1 + 1, F, D, rfl, PR8_fr.fr P (by first | exact Fr.refl NoF _ | exact (Fr.refl NoF _).drew) (fun _ _ q => q), fun i hi => ?_, by first | exact ((((Fr.refl NoF w).alloc _).alloc _).alloc _) | exact ((((Fr.refl NoF w).alloc _).alloc _).alloc _).drew⟩
    rcases hD i hi with rfl | rfl | rfl
    · omega
    · omega
    · omega
  · have HG : Hid ((if (n : Int) - 1 < 1 then (1 : Int) else (n : Int) - 1) = ((max (n - 1) 1 : Nat) : Int)) := by unfold Hid; split <;> omega
    generalize (if (n : Int) - 1 < 1 then (1 : Int) else (n : Int) - 1) = g at *
    go_wp2
    go_returns
    obtain ⟨F, D, P, hD⟩ := KEY.out (((w.alloc (.cells (madeCells #[.bool false] n) 4)).alloc (.cells (madeCells #[.int .u32 0] n) 34)).alloc (.cells #[.int .i64 n, .slice (some ⟨(w.heap.size + 1), 0, none⟩) n n, .slice (some ⟨w.heap.size, 0, none⟩) n n, .slice none 0 0, .int .i64 0, .int .i64 0, .int .i64 0, .int .i64 g] 45)) (w.heap.size + 1) w.heap.size (w.heap.size + 1 + 1) g HG.out
      (heap_step _ _ _ _ (heap_alloc_new _ _ _ (by simp))) (heap_step _ _ _ _ (heap_step _ _ _ _ (heap_alloc_new _ _ _ rfl))) (heap_alloc_new _ _ _ (by simp)) (by omega) (by omega) (by omega)
    refine ⟨w.heap.size + 1 + 1, F, D, rfl, PR8_fr.fr P (by first | exact Fr.refl NoF _ | exact (Fr.refl NoF _).drew) (fun _ _ q => q), fun i hi => ?_, by first | exact ((((Fr.refl NoF w).alloc _).alloc _).alloc _) | exact ((((Fr.refl NoF w).alloc _).alloc _).alloc _).drew⟩
    rcases hD i hi with rfl | rfl | rfl
    · omega
    · omega
    · omega
end Go.Proofs.Ytoainbdkhhblbaa
namespace Go.Proofs.Ytoainbdkhhblbaa
open Go.RowKit Go.Maps
set_option linter.unusedVariables false
set_option linter.unusedSimpArgs false

theorem cool_id {n : Nat} {s : PrS} (h : s.hotN ≤ n - s.goal) : s.cool n = s := by
  unfold PrS.cool
  rw [coolO, if_pos h]; rfl
def PrS.setOn (s : PrS) (f : Nat) (u : Bool) : PrS := { s with on := upd s.on f u }
noncomputable def st1 : PrS := ((pr0 2).access 2 0 1).setOn 0 true
noncomputable def st2 : PrS := (st1.access 2 1 2).setOn 1 true
noncomputable def st3 : PrS := st2.access 2 0 1
def v3 : PrS := ⟨[⟨2, 1, false, false, true⟩, ⟨1, 0, false, true, true⟩], fun _ => 1, 1, upd (upd (upd (fun _ => 0) 0 1) 1 2) 0 1, upd (upd (fun _ => false) 0 true) 1 true⟩
theorem st1_eq : st1 = ⟨[⟨1, 0, false, false, true⟩], fun _ => 0, 1, upd (fun _ => 0) 0 1, upd (fun _ => false) 0 true⟩ := rfl
theorem st2_eq : st2 = ⟨[⟨2, 1, false, false, true⟩, ⟨1, 0, false, false, true⟩], fun _ => 1, 1, upd (upd (fun _ => 0) 0 1) 1 2, upd (upd (fun _ => false) 0 true) 1 true⟩ := by
  unfold st2
  rw [st1_eq]; rfl
theorem st3_eq : st3 = v3 := by
  unfold st3
  rw [st2_eq]; rfl
/-- Behind the turn. -/
def v4 : PrS := ⟨[⟨1, 0, true, false, false⟩, ⟨2, 1, false, false, true⟩], fun _ => 1, 1, v3.pg, v3.on⟩
def v5 : PrS := ⟨[⟨1, 0, true, false, false⟩, ⟨2, -1, false, false, true⟩], upd (fun _ => 1) 1 0, 1, upd v3.pg 1 0, upd v3.on 1 false⟩
theorem turn_eq : (((v3.mv 1).drop (v3.hd 1)).lay { (⟨1, 0, false, true, true⟩ : En) with ref := false, hot := true, test := !true }) = ⟨[⟨1, 0, true, false, false⟩, ⟨2, 1, false, false, true⟩], fun j => if (0 : Nat) ≤ (((v3.mv 1).drop (v3.hd 1)).hd j) then (((v3.mv 1).drop (v3.hd 1)).hd j) + 1 else (((v3.mv 1).drop (v3.hd 1)).hd j), 1, v3.pg, v3.on⟩ := rfl
theorem hd_all (j : Nat) : ((v3.mv 1).drop (v3.hd 1)).hd j = 0 := by
  show dropH 1 1 (upd (fun _ => 1) 1 0 j) = 0
  unfold dropH upd
  by_cases e : j = 1
  · simp [e]
  · simp [e]
theorem turn3 : v3.turn 2 (v3.hd 1) ⟨1, 0, false, true, true⟩ = v4 := by
  unfold PrS.turn
  have e1 : (((v3.mv 1).drop (v3.hd 1)).lay { (⟨1, 0, false, true, true⟩ : En) with ref := false, hot := true, test := !true }) = v4 := by
    rw [turn_eq]
    have : (fun j => if (0 : Nat) ≤ (((v3.mv 1).drop (v3.hd 1)).hd j) then (((v3.mv 1).drop (v3.hd 1)).hd j) + 1 else (((v3.mv 1).drop (v3.hd 1)).hd j)) = fun _ => 1 := by
      funext j; rw [hd_all]; rfl
    rw [this]; rfl
  show ((((v3.mv 1).drop (v3.hd 1)).lay { (⟨1, 0, false, true, true⟩ : En) with ref := false, hot := true, test := !true })).cool 2 = v4
  rw [e1]
  exact cool_id (by decide)
theorem send4 : v4.send 2 (v4.hd 1) ⟨2, 1, false, false, true⟩ = v5 := by
  unfold PrS.send
  rw [if_pos rfl]
  have e1 : ((v4.mv 1).empty (⟨2, 1, false, false, true⟩ : En).fr.toNat).put (v4.hd 1) { (⟨2, 1, false, false, true⟩ : En) with fr := -1 } = v5 := rfl
  rw [e1]
  exact tests_small (by decide)
theorem vic3 : v3.vic 2 = (v5, some 1) := by
  have h0 : v3.vic 2 = vicL 2 (11 + 1) v3 := rfl
  rw [h0, vic_step (y := ⟨1, 0, false, true, true⟩) rfl, if_neg (by decide), if_pos rfl, turn3, vic_step (k := 10) (y := ⟨2, 1, false, false, true⟩) rfl, if_neg (by decide), if_neg (by decide), send4]
  rfl
/-- A Pro of two frames that has been made since world w0. -/
def T8 (b : Nat) (w0 : World) (s : PrS) (w : World) : Prop := ∃ F, CRP b 2 w s F ∧ (∀ i, F i → w0.heap.size ≤ i) ∧ Fr NoF w0 w
theorem T8.step {b : Nat} {w0 w : World} {s s' : PrS} (h : T8 b w0 s w) {f : FuncId} {args : Array Value} {v : Value} (hc : ∀ F, CRP b 2 w s F → Calls Try.prog f args w fun e w' => e = .returned v ∧ CRP b 2 w' s' F ∧ Fr F w w') : Calls Try.prog f args w fun e w' => e = .returned v ∧ T8 b w0 s' w' := by
  obtain ⟨F, h1, h2, h3⟩ := h
  exact (hc F h1).mono fun e w' ⟨he, h', hf⟩ => ⟨he, F, h', h2, h3.trans hf (fun i q => .inr (h2 i q))⟩
theorem T8.fr0 {b : Nat} {w0 w w' : World} {s : PrS} (h : T8 b w0 s w) (f : Fr NoF w w') : T8 b w0 s w' := by
  obtain ⟨F, h1, h2, h3⟩ := h
  exact ⟨F, h1.fr f (fun _ _ q => q), h2, h3.trans f (fun _ q => q.elim)⟩
def TR8 (b : Nat) (w0 : World) (i : Value) (w : World) : Prop := (i = .int .i64 0 ∧ T8 b w0 (pr0 2) w) ∨ (i = .int .i64 1 ∧ T8 b w0 st1 w) ∨ (i = .int .i64 2 ∧ T8 b w0 st2 w)
set_option maxHeartbeats 4000000 in
theorem told8_calls (w : World) : Calls Try.prog 7 #[] w fun e w' => e = .returned (.bool true) ∧ Fr NoF w w' := by
  have N := Lib.hid (pr_new_yes 2 w (by omega) (by omega))
  go_enter Try.func7, Try.ntmps7
  go_wp2_with fail
  refine N.out.mono ?_
  clear N
  rintro e w1 ⟨b, F, rfl, hR1, hF, hf1⟩
  have HT : Hid (T8 b w (pr0 2) w1) := ⟨F, hR1, hF, hf1⟩
  clear hF hR1 hf1
  go_wp2
  go_loopw [3] (TR8 b w) (fun i _ => 2 - (intOf i).toNat)
  case atStart => exact .inl ⟨rfl, HT.out⟩
  case round =>
    clear HT
    rcases hrel with ⟨rfl, ht⟩ | ⟨rfl, ht⟩ | ⟨rfl, ht⟩
    · have H1 : Hid (Calls Try.prog 19 #[.pointer (some ⟨b, 0, none⟩), .int .i64 0, .int .u32 1] wr fun e w' => e = .returned (.tuple #[]) ∧ T8 b w ((pr0 2).access 2 0 1) w') :=
        ht.step (fun F h => cr_access (f := 0) (id := 1) h (by omega) (by omega) (by omega) (by omega) (.inr ⟨rfl, fun g _ q => by cases q⟩))
      clear ht
      go_wp2_with (go_at_call 18; refine (pr_miss _ _).mono ?_; rintro e w2 ⟨rfl, rfl⟩)
      refine H1.out.mono ?_
      clear H1
      rintro e w3 ⟨rfl, h3⟩
      have H1 : Hid (Calls Try.prog 20 #[.pointer (some ⟨b, 0, none⟩), .int .i64 0, .bool true] w3 fun e w' => e = .returned (.tuple #[]) ∧ T8 b w st1 w') :=
        h3.step (fun F h => cr_set (f := 0) h (by omega) (by omega) (by show ¬ (1 : Nat) = 0; omega) true)
      clear h3
      go_wp2_with fail
      refine H1.out.mono ?_
      clear H1
      rintro e w4 ⟨rfl, h4⟩
      have H4 := Lib.hid h4
      clear h4
      go_wp2
      go_roundw
      case rel => exact .inr (.inl ⟨rfl, H4.out⟩)
      case measure => simp [intOf]
    · have H1 : Hid (Calls Try.prog 19 #[.pointer (some ⟨b, 0, none⟩), .int .i64 1, .int .u32 2] wr fun e w' => e = .returned (.tuple #[]) ∧ T8 b w (st1.access 2 1 2) w') :=
        ht.step (fun F h => cr_access (f := 1) (id := 2) h (by omega) (by omega) (by omega) (by omega) (.inr ⟨rfl, fun g hg q => by
          rw [st1_eq] at q
          have q : upd (fun _ => 0) 0 1 g = 2 := q
          unfold upd at q
          by_cases c : g = 0
          · rw [if_pos c] at q; cases q
          · rw [if_neg c] at q; cases q⟩))
      clear ht
      go_wp2_with (go_at_call 18; refine (pr_miss _ _).mono ?_; rintro e w2 ⟨rfl, rfl⟩)
      refine H1.out.mono ?_
      clear H1
      rintro e w3 ⟨rfl, h3⟩
      have H1 : Hid (Calls Try.prog 20 #[.pointer (some ⟨b, 0, none⟩), .int .i64 1, .bool true] w3 fun e w' => e = .returned (.tuple #[]) ∧ T8 b w st2 w') :=
        h3.step (fun F h => cr_set (f := 1) h (by omega) (by omega) (by rw [st1_eq]; show ¬ (2 : Nat) = 0; omega) true)
      clear h3
      go_wp2_with fail
      refine H1.out.mono ?_
      clear H1
      rintro e w4 ⟨rfl, h4⟩
      have H4 := Lib.hid h4
      clear h4
      go_wp2
      go_roundw
      case rel => exact .inr (.inr ⟨rfl, H4.out⟩)
      case measure => simp [intOf]
    · have H1 : Hid (Calls Try.prog 19 #[.pointer (some ⟨b, 0, none⟩), .int .i64 0, .int .u32 1] wr fun e w' => e = .returned (.tuple #[]) ∧ T8 b w st3 w') :=
        ht.step (fun F h => cr_access (f := 0) (id := 1) h (by omega) (by omega) (by omega) (by omega) (.inl (by rw [st2_eq]; rfl)))
      clear ht
      go_wp2_with fail
      refine H1.out.mono ?_
      clear H1
      rintro e w3 ⟨rfl, h3⟩
      rw [st3_eq] at h3
      have H1 : Hid (Calls Try.prog 21 #[.pointer (some ⟨b, 0, none⟩), .int .u32 3] w3 fun e w' => e = .returned (.tuple #[.int .i64 1, .bool true]) ∧ T8 b w v5 w') := by
        refine h3.step (fun F h => ?_)
        have := cr_victim h (by omega) (by decide) 3
        rw [vic3] at this
        exact this
      clear h3
      go_wp2_with (go_at_call 18; refine (pr_miss _ _).mono ?_; rintro e w2 ⟨rfl, rfl⟩)
      refine H1.out.mono ?_
      clear H1
      rintro e w4 ⟨rfl, h4⟩
      have H4 := Lib.hid h4
      obtain ⟨F4, c4, _, _⟩ := h4
      have HG : Hid (Calls Try.prog 22 #[.pointer (some ⟨b, 0, none⟩)] w4 fun e w' => ∃ v, e = .returned v ∧ SlK .u32 w' v [2] ∧ Fr NoF w4 w') := by
        obtain ⟨A, hA, hk, _, _⟩ := c4
        exact pa_ghosts hA hk (by omega)
      clear c4
      go_wp2_with fail
      refine HG.out.mono ?_
      clear HG
      rintro e w5 ⟨gv, rfl, hs, f5⟩
      have H5 : Hid (T8 b w v5 w5) := H4.out.fr0 f5
      obtain ⟨gb, go, gc, rfl, q1, q2, gl, g0⟩ := hs.at (i := 0) (by simp)
      have g0 : w5.cell? ⟨gb, go, none⟩ = some (.int .u32 2) := g0
      have HS : Hid (Calls Try.prog 23 #[.pointer (some ⟨b, 0, none⟩)] w5 fun e w' => e = .returned (.int .i64 1) ∧ w5 = w') := by obtain ⟨F5, c5, _, _⟩ := H5.out; exact cr_size c5
      have HTG : Hid (Calls Try.prog 13 #[.pointer (some ⟨b, 0, none⟩)] w5 fun e w' => e = .returned (.int .i64 1) ∧ w5 = w') := by obtain ⟨F5, c5, _, _⟩ := H5.out; exact cr_target c5
      have HHT : Hid (Calls Try.prog 14 #[.pointer (some ⟨b, 0, none⟩)] w5 fun e w' => e = .returned (.int .i64 1) ∧ w5 = w') := by obtain ⟨F5, c5, _, _⟩ := H5.out; exact cr_hot c5
      have HFR : Hid (Fr NoF w w5) := by obtain ⟨_, _, _, f⟩ := H5.out; exact f
      clear hs f5 H4 H5
      go_wp2_with (first
        | (go_at_call 23; refine HS.out.mono ?_; rintro e w' ⟨rfl, rfl⟩)
        | (go_at_call 13; refine HTG.out.mono ?_; rintro e w' ⟨rfl, rfl⟩)
        | (go_at_call 14; refine HHT.out.mono ?_; rintro e w' ⟨rfl, rfl⟩))
      go_returns
      exact ⟨rfl, HFR.out⟩
end Go.Proofs.Ytoainbdkhhblbaa
namespace Go.Proofs.Ytoainbdkhhblbaa
open Go.RowKit
set_option linter.unusedVariables false

theorem u64_range' (z : Int) : 0 ≤ IntKind.u64.wrap z ∧ IntKind.u64.wrap z < 18446744073709551616 := by
  simp only [IntKind.wrap, IntKind.signed, IntKind.bits]
  simp
  omega
theorem w64_small' {z : Int} (h0 : 0 ≤ z) (h1 : z < 1000000) : wrap64 z = z := by
  have := IntKind.wrap_i64 z
  unfold wrap64
  omega
/-- int(uint64(z) % k): some number below k. -/
theorem modk (z : Int) {k : Int} (h0 : 0 < k) (h1 : k < 1000) : ∃ r : Nat, (r : Int) < k ∧ wrap64 ((IntKind.u64.wrap z).tmod k) = r := by
  obtain ⟨a, b⟩ := u64_range' z
  have h2 : (IntKind.u64.wrap z).tmod k = (IntKind.u64.wrap z) % k := Int.tmod_eq_emod_of_nonneg a
  have h3 : 0 ≤ (IntKind.u64.wrap z) % k := Int.emod_nonneg _ (by omega)
  have h4 : (IntKind.u64.wrap z) % k < k := Int.emod_lt_of_pos _ h0
  refine ⟨((IntKind.u64.wrap z) % k).toNat, by omega, ?_⟩
  rw [h2, w64_small' h3 (by omega)]; omega
/-- 1 + int(uint64(z) % k). -/
theorem modk1 (z : Int) {k : Int} (h0 : 0 < k) (h1 : k < 1000) : ∃ m : Nat, 1 ≤ m ∧ (m : Int) ≤ k ∧ wrap64 (1 + wrap64 ((IntKind.u64.wrap z).tmod k)) = (m : Int) := by
  obtain ⟨r, h2, h3⟩ := modk z h0 h1
  exact ⟨r + 1, by omega, by omega, by rw [h3, w64_small' (by omega) (by omega)]; omega⟩
end Go.Proofs.Ytoainbdkhhblbaa
namespace Go.Proofs.Ytoainbdkhhblbaa
open Go.RowKit
set_option linter.unusedVariables false

theorem EIo : EI Try.prog 22 66 2 16 := EI.mk' (z := .agg #[.int .i64 0, .int .u32 0]) Try.underlying22 (by kernel_rfl) rfl (by decide)
/-- Things that came in: any kinds, any pages. -/
def ArgQ (w : World) (v : Value) (zs : List (Int × Int)) : Prop :=
  (∃ a c, v = .slice a zs.length c ∧ zs.length ≤ c ∧ c ≤ maxLen) ∧ (0 < zs.length → SlC w 2 v zs.length (zs.flatMap fun z => [.int .i64 z.1, .int .u32 z.2])) ∧ ∀ z ∈ zs, 0 ≤ z.2 ∧ z.2 < 4294967296
theorem ArgQ.keep {w w' : World} {v : Value} {zs : List (Int × Int)} (h : ArgQ w v zs) (f : Fr NoF w w') : ArgQ w' v zs := ⟨h.1, fun q => (h.2.1 q).fr f (fun _ _ q => q), h.2.2⟩
theorem argQ_get : ∀ {zs : List (Int × Int)} {i : Nat} {z : Int × Int}, zs[i]? = some z → (zs.flatMap fun z => [Value.int .i64 z.1, Value.int .u32 z.2])[i * 2]? = some (.int .i64 z.1) ∧ (zs.flatMap fun z => [Value.int .i64 z.1, Value.int .u32 z.2])[i * 2 + 1]? = some (.int .u32 z.2)
  | a :: zs, 0, z, h => by simp at h; subst h; simp
  | a :: zs, i + 1, z, h => by
    have := argQ_get (zs := zs) (i := i) (z := z) (by simpa using h)
    simp only [List.flatMap_cons, show (i + 1) * 2 = i * 2 + 1 + 1 from by omega]
    exact this
  | [], _, _, h => by simp at h
def kindT (r : Nat) : Nat := if r < 6 then 0 else if r < 7 then 1 else if r < 9 then 2 else 3
theorem kindT_at {r : Nat} (hr : r < 10) : ∀ h, ([Value.int .i64 0, .int .i64 0, .int .i64 0, .int .i64 0, .int .i64 0, .int .i64 0, .int .i64 1, .int .i64 2, .int .i64 2, .int .i64 3] : List Value)[r]'h = .int .i64 (kindT r : Nat) := by
  match r, hr with
  | 0, _ => exact fun _ => rfl
  | 1, _ => exact fun _ => rfl
  | 2, _ => exact fun _ => rfl
  | 3, _ => exact fun _ => rfl
  | 4, _ => exact fun _ => rfl
  | 5, _ => exact fun _ => rfl
  | 6, _ => exact fun _ => rfl
  | 7, _ => exact fun _ => rfl
  | 8, _ => exact fun _ => rfl
  | 9, _ => exact fun _ => rfl
theorem kindT_lt (r : Nat) : kindT r < 4 := by unfold kindT; repeat (split <;> try omega)
def opsF (l : List (Nat × Nat)) : List Value := l.flatMap fun o => [.int .i64 o.1, .int .u32 o.2]
def FixRel (w0 : World) (m : Nat) (zn : Nat) (out i : Value) (wr : World) : Prop :=
  ∃ (k : Nat) (l : List (Nat × Nat)), k ≤ zn ∧ k ≤ 150 ∧ i = .int .i64 k ∧ l.length = k ∧ (∀ o ∈ l, o.1 < 4 ∧ 1 ≤ o.2 ∧ o.2 ≤ m) ∧ wr.ownsRow w0.heap.size 66 2 out k (opsF l) ∧ Fr NoF w0 wr

set_option maxRecDepth 100000 in
set_option maxHeartbeats 2000000 in
theorem Fix_walk {w : World} {v : Value} {zs : List (Int × Int)} {m : Nat} (h : ArgQ w v zs) (h1 : 1 ≤ m) (hm : m < 1000) :
    Calls Try.prog 10 #[v, .int .i64 m] w fun e w' => ∃ out, e = .returned out ∧ ∃ l : List (Nat × Nat), l.length ≤ 150 ∧ (∀ o ∈ l, o.1 < 4 ∧ 1 ≤ o.2 ∧ o.2 ≤ m) ∧ ArgP w' out l ∧ (∀ b, out.ownBlock = some b → w.heap.size ≤ b) ∧ Fr NoF w w' := by
  obtain ⟨av, cv, rfl, q1, q2⟩ := h.1
  unfold maxLen at q2
  have HV := Lib.hid h
  clear h
  go_enter Try.func10, Try.ntmps10
  go_wp2
  go_loopw [5, 6] (FixRel w m zs.length) (fun _ i _ => zs.length - (intOf i).toNat)
  case atStart => exact ⟨0, [], Nat.zero_le _, Nat.zero_le _, rfl, rfl, fun o ho => (by cases ho), World.ownsRow_nil _ _ _ _, Fr.refl _ _⟩
  case round =>
    obtain ⟨k, l, hk, hk2, rfl, hl, hlo, ho, hf⟩ := hrel
    have HO := Lib.hid ho
    have HF := Lib.hid hf
    have HL := Lib.hid (And.intro hl hlo)
    clear hl hlo ho hf
    by_cases hlt : k < zs.length
    · by_cases h150 : k < 150
      · obtain ⟨b, off, c', ev', _, _, hb, hcell⟩ := SlC.at (HV.out.2.1 (by omega)) hlt (by omega)
        simp only [Value.slice.injEq] at ev'
        obtain ⟨rfl, _, rfl⟩ := ev'
        obtain ⟨g1, g2⟩ := argQ_get (List.getElem?_eq_getElem hlt)
        have c0 := hcell _ _ g1
        have c1 : w.cell? ⟨b, off + k * 2 + 1, none⟩ = some (.int .u32 zs[k].2) := hcell _ _ g2
        have hp := HV.out.2.2 zs[k] (List.getElem_mem hlt)
        rw [← HF.out.cell (p := ⟨b, off + k * 2, none⟩) hb id] at c0
        rw [← HF.out.cell (p := ⟨b, off + k * 2 + 1, none⟩) hb id] at c1
        have hbr : b < wr.heap.size := Nat.lt_of_lt_of_le hb HF.out.size
        generalize zs[k] = z at *
        obtain ⟨z, p⟩ := z
        simp only at c0 c1 hp
        obtain ⟨r, hr, er⟩ := modk z (k := 10) (by decide) (by decide)
        have HER := Lib.hid er
        have HKT := Lib.hid (kindT_at (r := r) (by omega))
        have HPG := Lib.hid hp
        clear hcell g1 g2 er
        have hq0 : 0 ≤ p.tmod m := Int.tmod_nonneg _ hp.1
        have hq1 : p.tmod m < m := Int.tmod_lt_of_pos _ (by omega)
        obtain ⟨q, hq⟩ := Int.eq_ofNat_of_zero_le hq0
        rw [hq] at hq1
        have e1 : IntKind.u32.wrap (m : Int) = m := IntWalk.u32_in _ (by omega)
        have e2 : IntKind.u32.wrap (q : Int) = q := IntWalk.u32_in _ (by omega)
        have e3 : IntKind.u32.wrap (1 + (q : Int)) = ((q + 1 : Nat) : Int) := by rw [IntWalk.u32_in _ (by omega)]; omega
        have e4 : ((m : Int) == 0) = false := by simp; omega
        have HQ1 := Lib.hid hq1
        have HE := Lib.hid (And.intro hq (And.intro e1 (And.intro e2 (And.intro e3 e4))))
        clear hq0 hq hq1 e1 e2 e3 e4 hp
        go_wp2
        rw [HER.out]
        have hk0 := HKT.out
        have hr0 : r < 10 := by omega
        have hm0 : ¬ m = 0 := by omega
        have hkt : kindT r < 4 := kindT_lt r
        have HKT4 := Lib.hid hkt
        generalize kindT r = kk at *
        clear hkt
        obtain ⟨hq, e1, e2, e3, e4⟩ := HE.out
        have HSZ := Lib.hid HF.out.size
        go_region_law (first
          | (refine appSB (base := w.heap.size) EIo rfl (.tmp 26) (.tmp 41) rfl (by rfl) (by rfl) (by have := HSZ.out; simp; omega) (own_keep HO.out (by repeat (first | exact Fr.refl NoF _ | apply Fr.drew | apply Fr.alloc)) (fun _ _ q => q)) (sl_heap (size := 2) (n := 1) (cs := #[.int .i64 kk, .int .u32 ((q : Int) + 1)]) (by (try rw [heap_drew]); refine heap_alloc_new _ _ _ ?_; simp) (by rfl) (by unfold maxLen; omega) (by simp [Value.oneCell'])) (by unfold maxLen; omega) (by omega) ?_; intro v' w2 hown' hf' hob'; have HO' := Lib.hid hown'; have HF' := Lib.hid hf'; clear hown' hf' hob'))
        all_goals
          go_wp2
          go_roundw
          case rel =>
            obtain ⟨hl, hlo⟩ := HL.out
            refine ⟨k + 1, l ++ [(kk, q + 1)], by omega, by omega, by go_num, by simp [hl], fun o ho => ?_, by simpa [opsF] using HO'.out, ?_⟩
            · rcases List.mem_append.1 ho with h | h
              · exact hlo o h
              · rw [List.mem_singleton.1 h]; have g1 := HKT4.out; have g2 := HQ1.out; exact ⟨g1, by omega, by simp only; omega⟩
            · refine Fr.trans ?_ HF'.out (fun i hi => .inr (ownBlock_own HO.out i hi))
              refine Fr.trans (G := NoF) HF.out ?_ (fun _ h => h.elim)
              repeat (first | exact Fr.refl NoF _ | apply Fr.drew | apply Fr.alloc)
          case measure => first | (simp [intOf]; done) | (simp [intOf]; omega)
      · obtain rfl : k = 150 := by omega
        go_wp2
        go_returns
        refine ⟨_, rfl, l, by have := HL.out.1; omega, HL.out.2, ?_, fun b hb => ownBlock_own HO.out b hb, HF.out⟩
        have := SlC.ofOwn HO.out (fun u hu => ?_)
        · unfold ArgP; rw [HL.out.1]; exact this
        · obtain ⟨o, _, ho⟩ := List.mem_flatMap.1 hu
          simp at ho; rcases ho with rfl | rfl <;> rfl
    · obtain rfl : k = zs.length := by omega
      go_wp2
      go_returns
      refine ⟨_, rfl, l, by have := HL.out.1; omega, HL.out.2, ?_, fun b hb => ownBlock_own HO.out b hb, HF.out⟩
      have := SlC.ofOwn HO.out (fun u hu => ?_)
      · unfold ArgP; rw [HL.out.1]; exact this
      · obtain ⟨o, _, ho⟩ := List.mem_flatMap.1 hu
        simp at ho; rcases ho with rfl | rfl <;> rfl
end Go.Proofs.Ytoainbdkhhblbaa
namespace Go.Proofs.Ytoainbdkhhblbaa
open Go.RowKit
set_option linter.unusedVariables false

theorem CRep.inside {w : World} {v : Value} {cs : List Cl} {X : Nat → Prop} (h : CRep w v cs X) : CRep w v cs (fun i => X i ∧ i < w.heap.size) := by
  obtain ⟨gs, h1, h2, h3, h4⟩ := h
  exact ⟨gs, h1, h2, fun i c g e1 e2 => ⟨(h3 i c g e1 e2).1, fun b hb => ⟨(h3 i c g e1 e2).2 b hb, (h3 i c g e1 e2).1.lt b hb⟩⟩, fun b hb => ⟨h4 b hb, h2.lt b hb⟩⟩

theorem ghR_len (s : PrS) : s.ghR.length = s.gone := by
  unfold PrS.ghR PrS.gone
  rw [List.length_map, ← List.countP_eq_length_filter, List.countP_append, Nat.add_comm, ← List.countP_append, List.take_append_drop]
theorem Good.invP {τ : Type} {Q : Pol τ} {pre : τ → Cl → Prop} {I : τ → Prop} {B : Nat} (hI : ∀ t c, I t → c.kind < 5 → pre t c → I (Q.next t c)) (hB : ∀ t, I t → (Q.ghosts t).length ≤ B) : ∀ {cs : List Cl} {t : τ}, I t → Good Q pre t cs → ∀ c ∈ cs, c.ghosts.length ≤ B
  | [], _, _, _, c, hc => by cases hc
  | a :: cs, t, ht, hg, c, hc => by
    obtain ⟨g0, gp, _, _, _, g1, _, _, g2⟩ := hg
    rcases List.mem_cons.1 hc with e | hc'
    · rw [e, ← g1.length_eq]; exact hB _ (hI t a ht g0 gp)
    · exact Good.invP hI hB (hI t a ht g0 gp) g2 c hc'
theorem next_ok {n : Nat} {t : PrS} {c : Cl} (h : PK n n t ∧ PM n t) (hk : c.kind < 5) (hp : pre8 n t c) : PK n n ((polC n).next t c) ∧ PM n ((polC n).next t c) := by
  obtain ⟨h1, h2⟩ := h
  obtain ⟨p1, p2, p4⟩ := hp
  unfold Pol.next
  split
  · exact ⟨h1, h2⟩
  · split
    · rename_i e
      obtain ⟨a1, a2, a3, a4⟩ := p1 e
      rcases a4 with q | ⟨q, q2⟩
      · obtain ⟨k1, k2, _⟩ := access_old h1 h2 a1 q a2
        exact ⟨k1, k2⟩
      · obtain ⟨k1, k2, _⟩ := access_new h1 h2 a1 q a2 a3 q2
        exact ⟨k1, k2⟩
    · split
      · rename_i e
        obtain ⟨a1, a2⟩ := p2 e
        exact set_ok h1 h2 a1 a2 c.on
      · split
        · split
          · exact ⟨h1, h2⟩
          · rename_i hv
            have hv : ¬ (polP n).victim t c.page = none := hv
            rw [(vicP t c.page).1] at hv
            have hz : ¬ t.sizeN n = 0 := fun q => hv (by rw [if_pos q])
            obtain ⟨k1, k2, _⟩ := resS_ok h1 h2 hz
            have hg : (polC n).gone t c.page = resS (t.vic n) := (vicP t c.page).2
            rw [hg]
            exact ⟨k1, k2⟩
        · obtain ⟨a1, a2⟩ := p4 (by omega)
          obtain ⟨k1, k2, _⟩ := rem_ok h1 h2 a1 a2
          exact ⟨k1, k2⟩
theorem good_gh {n : Nat} {t : PrS} {cs : List Cl} (h : PK n n t ∧ PM n t) (hg : Good (polC n) (pre8 n) t cs) : ∀ c ∈ cs, c.ghosts.length ≤ n :=
  Good.invP (I := fun t => PK n n t ∧ PM n t) (fun t c h hk hp => next_ok h hk hp) (fun t h => by
    show t.ghR.length ≤ n
    rw [ghR_len]; exact h.1.ng) h hg
set_option maxRecDepth 100000 in
set_option maxHeartbeats 4000000 in
theorem playsP_walk (a0 a2 : Int) (v : Value) (zs : List (Int × Int)) (w : World) (hv : ArgQ w v zs) :
    Calls Try.prog 3 #[.int .i64 a0, v, .int .i64 a2] w fun e w' => e = .returned (.bool true) ∧ Fr NoF w w' := by
  obtain ⟨n, hn1, hn2, en⟩ := modk1 a0 (k := 7) (by decide) (by decide)
  obtain ⟨m, hm1, hm2, em⟩ := modk1 a2 (k := 18) (by decide) (by decide)
  obtain ⟨sa, sc, rfl, _, _⟩ := hv.1
  have HV := Lib.hid hv
  have EN := Lib.hid en
  have EM := Lib.hid em
  have N := Lib.hid (pr_new_yes n w (by omega) (by omega))
  clear en em hv
  go_enter Try.func3, Try.ntmps3
  go_wp2_with fail
  rw [EN.out, EM.out]
  refine N.out.mono ?_
  clear N
  rintro e w1 ⟨b, F, rfl, hR1, hF, hf1⟩
  have HF := Lib.hid hF
  have HR1 := Lib.hid hR1
  have HF1 := Lib.hid hf1
  clear hF hR1 hf1
  go_wp2_with fail
  refine (told8_calls _).mono ?_
  rintro e w2 ⟨rfl, hf2⟩
  have HR2 := Lib.hid ((cod8 b n (by omega)).fr HR1.out hf2 (fun _ _ q => q))
  have HF2 := Lib.hid (HF1.out.trans hf2 (fun _ q => q.elim))
  clear hf2 HR1 HF1
  have HN := Lib.hid (q_new n w2 (by omega) (by omega))
  go_wp2_with fail
  refine HN.out.mono ?_
  clear HN
  rintro e w3 ⟨pb, Fp, Dp, rfl, hP3, hD3, hf3⟩
  have HR3 := Lib.hid ((cod8 b n (by omega)).fr HR2.out hf3 (fun _ _ q => q))
  have HF3 := Lib.hid (HF2.out.trans hf3 (fun _ q => q.elim))
  have HP3 := Lib.hid hP3
  have HD3 := Lib.hid hD3
  have HFb := Lib.hid (fun i hi => (cod8 b n (by omega)).lt HR2.out i hi)
  have HSZ := Lib.hid (And.intro HF2.out.size hf3.size)
  clear hf3 hP3 hD3 HR2 HF2
  have HV3 : Hid (ArgQ w3 (.slice sa zs.length sc) zs) := HV.out.keep HF3.out
  have HX := Lib.hid (Fix_walk HV3.out hm1 (by omega))
  go_wp2_with fail
  refine HX.out.mono ?_
  clear HX
  rintro e w4 ⟨out_4, rfl, l, hl, hlo, hA, hob, hf4⟩
  have HR4 := Lib.hid ((cod8 b n (by omega)).fr HR3.out hf4 (fun _ _ q => q))
  have HF4 := Lib.hid (HF3.out.trans hf4 (fun _ q => q.elim))
  have HP4 := Lib.hid ((PR8_fr : PFr (PR8 pb n)).fr HP3.out hf4 (fun _ _ q => q))
  have HDl := Lib.hid ((PR8_fr : PFr (PR8 pb n)).lt HP3.out)
  have HS4 := Lib.hid hf4.size
  have HO := Lib.hid hob
  have HL := Lib.hid hlo
  have HA := Lib.hid hA
  have hops : ∀ o ∈ l, o.1 < 4 ∧ 1 ≤ o.2 ∧ o.2 < 4294967296 := fun o ho => by have := hlo o ho; exact ⟨this.1, this.2.1, by omega⟩
  have HOPS := Lib.hid hops
  have hrs : Sim8 n (pr0 n) (pr0 n) (List.replicate n 0) := ⟨rfl, (pk0 (by omega)).1, (pk0 (by omega)).2, by simp, fun g hg => by simp [pr0, hg]⟩
  have hco : co8 n (pr0 n) (List.replicate n 0) := ⟨by simp, fun g hg => by simp [pr0, hg]⟩
  have HRUN := Lib.hid (Run_walk sys8 HP4.out hco (by omega) HA.out (fun b hb hd => by have := HO.out b hb; have := HDl.out b hd; omega) (by omega) HOPS.out)
  have hsim := (sim8 n (by omega)).run (ops := l) (s := (pr0 n)) (t := pr0 n) (fr := List.replicate n 0) hrs HOPS.out
  have hlen := (polP n).run_len (pr0 n) (List.replicate n 0) l
  obtain ⟨oa, oc, rfl, _, _⟩ := hA.shape
  have HSIM := Lib.hid hsim
  clear hf4 HR3 HF3 hob hlo hA hops hsim hco HV3
  go_wp2_with fail
  refine HRUN.out.mono ?_
  clear HRUN
  rintro e w5 ⟨out_, rfl, fb, hb, fr, hd, hst⟩
  have hff : Fr Dp w4 w5 := by obtain ⟨_, _, _, h⟩ := hst; exact h.ff
  have hFD : ∀ i, F i → ¬ Dp i := fun i hi hd => by have := HFb.out i hi; have := HD3.out i hd; omega
  have HR5 := Lib.hid ((cod8 b n (by omega)).fr HR4.out hff hFD)
  have HF5 := Lib.hid (HF4.out.trans hff (fun i hi => .inr (by have := HD3.out i hi; have := HSZ.out; omega)))
  have HCR := Lib.hid (CRep.of hst).inside
  have h45 := hff.size
  have HDX : Hid (∀ i, ((Dp i ∨ w4.heap.size ≤ i) ∧ i < w5.heap.size) → ¬ F i) := fun i hi hfi => by
    have h1 := HFb.out i hfi
    have h2 := HSZ.out
    have h3 := HS4.out
    rcases hi.1 with q | q
    · have := HD3.out i q; omega
    · omega
  have hcl : ((polP n).run (pr0 n) (List.replicate n 0) l).2.2.length < 1000000 := by omega
  have HCL := Lib.hid hcl
  have HLE : Hid (∀ c ∈ ((polP n).run (pr0 n) (List.replicate n 0) l).2.2, c.ghosts.length ≤ n) := good_gh ⟨hrs.2.1, hrs.2.2.1⟩ HSIM.out.1
  have HEQ : Hid ((polC n).nexts (pr0 n) ((polP n).run (pr0 n) (List.replicate n 0) l).2.2 = ((polP n).run (pr0 n) (List.replicate n 0) l).1) := HSIM.out.2.2.2.1
  obtain ⟨gf, hgf⟩ : ∃ gf : Nat, gf = ((polP n).run (pr0 n) (List.replicate n 0) l).1.goal := ⟨_, rfl⟩
  obtain ⟨hf, hhf⟩ : ∃ hf : Nat, hf = ((polP n).run (pr0 n) (List.replicate n 0) l).1.hotN := ⟨_, rfl⟩
  have HGF := Lib.hid hgf
  have HHF := Lib.hid hhf
  have HGC : Hid (∀ w', Fr F w5 w' → w'.cell? ⟨pb, 7, none⟩ = some (.int .i64 gf) ∧ pb < w'.heap.size ∧ Calls Try.prog 15 #[.pointer (some ⟨pb, 0, none⟩)] w' fun e w'' => e = .returned (.int .i64 (hf : Nat)) ∧ w' = w'') := by
    obtain ⟨F5, D5, gs5, h⟩ := hst
    intro w' f
    have hp := PR8_fr.fr h.pr f (fun i hi q => by
      have h1 := HFb.out i q
      have h2 := HSZ.out
      have h3 := HS4.out
      rcases h.f0 i hi with r | r
      · have := HD3.out i r; omega
      · omega)
    obtain ⟨gb, ob, lv, hq, _, _, _, _⟩ := hp
    rw [hgf, hhf]
    have hr := hq.toRS (F := B8 pb gb ob lv) (fun _ => Iff.rfl)
    exact ⟨hr.hd.2.2.1, hr.lt, (q_Hot hr).mono fun e w'' ⟨e1, e2⟩ => ⟨e1, e2.symm⟩⟩
  clear hst hff hFD HR4 HF4 h45 hlen hgf hhf
  generalize ((polP n).run (pr0 n) (List.replicate n 0) l).2.2 = cs at *
  obtain ⟨va, vc, rfl, hvl, hvm⟩ : ∃ a c, out_ = .slice a cs.length c ∧ cs.length ≤ c ∧ c ≤ maxLen := by obtain ⟨gs, _, h2, _, _⟩ := HCR.out; exact h2.shape
  unfold maxLen at hvm
  go_wp2
  go_loopw [13] (fun i wr => ∃ k : Nat, k ≤ cs.length ∧ i = .int .i64 k ∧ Fr NoF w5 wr) (fun i _ => cs.length - (intOf i).toNat)
  case atStart => exact ⟨0, Nat.zero_le _, rfl, Fr.refl _ _⟩
  case round =>
   obtain ⟨k, hk, rfl, hfk⟩ := hrel
   by_cases hlt : k < cs.length
   · have hv1 := HCR.out.fr hfk (fun _ _ q => q)
     obtain ⟨bv, off, cv', gv, ev', _, _, hbv, hcell, hgv, hgX, hbX⟩ := hv1.at hlt
     simp only [Value.slice.injEq] at ev'
     obtain ⟨rfl, _, rfl⟩ := ev'
     have c6 : wr.cell? ⟨bv, off + k * 7 + 6, none⟩ = some gv := hcell 6 _ rfl
     obtain ⟨ga, gc, rfl, _, _⟩ := hgv.shape
     have hle := HLE.out cs[k] (List.getElem_mem hlt)
     generalize cs[k].ghosts.length = gl at *
     have HFK := Lib.hid hfk
     clear hv1 hcell hgv hgX hfk
     go_wp2
     go_roundw
     case rel => exact ⟨k + 1, by omega, by go_num, HFK.out⟩
     case measure => first | (simp [intOf]; done) | (simp [intOf]; omega)
   · obtain rfl : k = cs.length := by omega
     have HFK := Lib.hid hfk
     have HNO : Hid (∀ w', Fr NoF w5 w' → Calls Try.prog 11 #[.slice va cs.length vc] w' fun e w'' => e = .returned (.bool true) ∧ Fr NoF w' w'') := fun w' f => Nones_walk (HCR.out.fr f (fun _ _ q => q)) hcl HSIM.out.2.1.at
     have HRE : Hid (∀ w', Fr NoF w5 w' → Calls Try.prog 12 #[.iface 24 (.pointer (some ⟨b, 0, none⟩)), .slice va cs.length vc] w' fun e w'' => e = .returned (.bool true) ∧ (∃ F', CRP b n w'' ((polC n).nexts (pr0 n) cs) F') ∧ Fr F w' w'') := fun w' f =>
       (Replay_walk (cod8 b n (by omega)) ((cod8 b n (by omega)).fr HR5.out f (fun _ _ q => q)) (HCR.out.fr f (fun _ _ q => q)) HDX.out (fun i hi => Nat.lt_of_lt_of_le hi.2 f.size) HCL.out HSIM.out.1).mono fun e w'' ⟨he, F', h1, h2, _⟩ => ⟨he, ⟨F', h1⟩, h2⟩
     have HTG : Hid (∀ w', (∃ F', CRP b n w' ((polC n).nexts (pr0 n) cs) F') → Calls Try.prog 13 #[.pointer (some ⟨b, 0, none⟩)] w' fun e w'' => e = .returned (.int .i64 (gf : Nat)) ∧ w' = w'') := by
       rintro w' ⟨F', h⟩
       rw [HGF.out, ← HEQ.out]
       exact cr_target h
     have HTH : Hid (∀ w', (∃ F', CRP b n w' ((polC n).nexts (pr0 n) cs) F') → Calls Try.prog 14 #[.pointer (some ⟨b, 0, none⟩)] w' fun e w'' => e = .returned (.int .i64 (hf : Nat)) ∧ w' = w'') := by
       rintro w' ⟨F', h⟩
       rw [HHF.out, ← HEQ.out]
       exact cr_hot h
     clear hcl hfk HCR HSIM HLE HDX HR5 HCL
     go_wp2_with fail
     go_region_with (first
       | (go_at_call 11; (with_reducible refine (HNO.out _ (by repeat (first | exact HFK.out | apply Fr.drew))).mono ?_); rintro e w6 ⟨rfl, hf6⟩; have HF6 : Hid (Fr NoF w5 w6) := Fr.trans (F := NoF) (by repeat (first | exact HFK.out | apply Fr.drew)) hf6 (fun _ q => q.elim); clear hf6)
       | (go_at_call 12; (with_reducible refine (HRE.out _ (by repeat (first | exact HF6.out | apply Fr.drew))).mono ?_); rintro e w7 ⟨rfl, hc7, hf7⟩; have hF7 : Fr F w5 w7 := Fr.trans (F := F) (by repeat (first | exact HF6.out.mono (fun _ q => q.elim) | apply Fr.drew)) hf7 (fun _ q => .inl q); obtain ⟨g7, l7, hh7⟩ := HGC.out w7 hF7; have HH7 := Lib.hid hh7; have HC7 := Lib.hid hc7; have HF7 := Lib.hid hF7; clear hc7 hf7 hF7 hh7)
       | (go_at_call 13; (with_reducible refine (HTG.out _ HC7.out).mono ?_); rintro e w8 ⟨rfl, rfl⟩)
       | (go_at_call 14; (with_reducible refine (HTH.out _ HC7.out).mono ?_); rintro e w9 ⟨rfl, rfl⟩)
       | (go_at_call 15; (with_reducible refine HH7.out.mono ?_); rintro e w10 ⟨rfl, rfl⟩))
     all_goals
       go_wp2
       go_returns
       exact ⟨rfl, by first | exact HF5.out.trans HF7.out (fun i hi => .inr (HF.out i hi)) | exact (HF5.out.trans HF7.out (fun i hi => .inr (HF.out i hi))).drew⟩
end Go.Proofs.Ytoainbdkhhblbaa
namespace Go.Proofs.Ytoainbdkhhblbaa
open Go.ChangeShapes Go.WideShapes Go.ChangeAt Go.RowKit
set_option linter.unusedVariables false

section
open Go.Deep
theorem cells_opQ : Try.prog.cellsOf 66 = 2 := by kernel_rfl
theorem cells_intQ : Try.prog.cellsOf 3 = 1 := by kernel_rfl
theorem cells_u32Q : Try.prog.cellsOf 34 = 1 := by kernel_rfl
theorem add_atQ (b off i j : Nat) : ((({ block := b, off := off, spot := none } : Addr).add (i * 2)).add j) = ⟨b, off + i * 2 + j, none⟩ := by
  unfold Addr.add
  by_cases h1 : i * 2 = 0
  · by_cases h2 : j = 0
    · simp [h1, h2]
    · simp [h1, h2]
  · by_cases h2 : j = 0
    · simp [h1, h2]
    · simp [h1, h2]
theorem flat2_get : ∀ {zs : List (Int × Int)} {j : Nat} {u : Value}, (zs.flatMap fun z => [Value.int .i64 z.1, Value.int .u32 z.2])[j]? = some u → ∃ z, zs[j / 2]? = some z ∧ ((j % 2 = 0 ∧ u = .int .i64 z.1) ∨ (j % 2 = 1 ∧ u = .int .u32 z.2))
  | [], j, u, h => by simp at h
  | z :: zs, 0, u, h => by simp at h; exact ⟨z, by simp, .inl ⟨rfl, h.symm⟩⟩
  | z :: zs, 1, u, h => by simp at h; exact ⟨z, by simp, .inr ⟨rfl, h.symm⟩⟩
  | z :: zs, j + 2, u, h => by
    have h : (zs.flatMap fun z => [Value.int .i64 z.1, Value.int .u32 z.2])[j]? = some u := by simpa using h
    obtain ⟨z', h1, h2⟩ := flat2_get h
    exact ⟨z', by rw [show (j + 2) / 2 = j / 2 + 1 from by omega]; simpa using h1, by rw [show (j + 2) % 2 = j % 2 from by omega]; exact h2⟩
theorem flat2_len (zs : List (Int × Int)) : (zs.flatMap fun z => [Value.int .i64 z.1, Value.int .u32 z.2]).length = zs.length * 2 := by
  induction zs with
  | nil => rfl
  | cons z zs ih => simp only [List.flatMap_cons, List.length_append, ih, List.length_cons, List.length_nil]; omega
theorem list_two {α : Type} {l : List α} (h : l.length = 2) : ∃ a b, l = [a, b] := by
  match l, h with
  | [a, b], _ => exact ⟨a, b, rfl⟩
theorem argQ_of {H : Type} {enc : TypeId × Value → H} {W : World} {base fuel : Nat} {held : Bool} {a1 : Option Addr} {len1 cap1 : Nat} {x : DataW H × List MemPlace}
    (h : DataW.trod enc Try.prog W base (fun _ => true) held fuel 22 [.slice a1 len1 cap1] = some x) : ∃ zs, ArgQ W (.slice a1 len1 cap1) zs ∧ zs.length = len1 := by
  rcases open_slice Try.underlying22 h with ⟨hcs, _⟩ | ⟨a, len, cap, m, n, D, Pl, hcs, _, hl, hm, hmm, _, hi⟩
  · simp at hcs
    obtain ⟨rfl, rfl, rfl⟩ := hcs
    exact ⟨[], ⟨⟨none, 0, rfl, by simp, by unfold maxLen; omega⟩, fun q => by simp at q, fun z hz => (by cases hz)⟩, rfl⟩
  · simp at hcs
    obtain ⟨rfl, rfl, rfl⟩ := hcs
    simp only [if_true] at hmm
    have each : ∀ i, ∃ z : Int × Int, i < len1 → W.cell? ((a.add (i * 2)).add 0) = some (.int .i64 z.1) ∧ W.cell? ((a.add (i * 2)).add 1) = some (.int .u32 z.2) ∧ 0 ≤ z.2 ∧ z.2 < 4294967296 := by
      intro i
      by_cases hil : i < len1
      · obtain ⟨cs, hc, ht⟩ := hi i (by omega)
        rw [cells_opQ] at hc
        obtain ⟨_, hlen, hat⟩ := World.cells?_some hc
        obtain ⟨y0, y1, n', _, _, t0, t1⟩ := trod_struct2 Try.underlying66 ht
        obtain ⟨v0, v1, rfl⟩ := list_two hlen
        have g0 := hat 0 (by omega)
        have g1 := hat 1 (by omega)
        simp only [cells_intQ, cells_u32Q, List.drop_zero, List.drop_succ_cons, List.take_succ_cons, List.take_zero] at t0 t1
        obtain ⟨z0, e0, _, _⟩ := DataW.trod_int Try.underlying3 t0
        obtain ⟨z1, e1, _, wf⟩ := DataW.trod_int Try.underlying34 t1
        simp at e0 e1
        subst e0 e1
        have hr : 0 ≤ z1 ∧ z1 < 4294967296 := by
          have h1 : IntKind.u32.min ≤ z1 ∧ z1 ≤ IntKind.u32.max := by simpa [Lit.wf] using wf
          have e1 : IntKind.u32.min = 0 := rfl
          have e2 : IntKind.u32.max = 4294967295 := rfl
          omega
        exact ⟨(z0, z1), fun _ => ⟨g0, g1, hr⟩⟩
      · exact ⟨(0, 0), fun h => (hil h).elim⟩
    obtain ⟨f, hf⟩ := Classical.skolem.1 each
    have hzl : ((List.range len1).map f).length = len1 := by simp
    refine ⟨(List.range len1).map f, ⟨⟨some a, cap1, by rw [hzl], by rw [hzl]; exact hl, hm⟩, fun h0 => ?_, fun z hz => ?_⟩, hzl⟩
    · rw [hzl] at h0
      refine ⟨some a, cap1, by rw [hzl], flat2_len _, fun u hu => ?_, by rw [hzl]; exact hl, hm, ?_⟩
      · obtain ⟨z, _, hz⟩ := List.mem_flatMap.1 hu
        simp at hz; rcases hz with rfl | rfl <;> rfl
      · obtain ⟨b, off, spot⟩ := a
        have c0 := (hf 0 h0).1
        have hs : spot = none := by
          cases spot with
          | none => rfl
          | some q =>
            simp only [Nat.zero_mul, Addr.add, World.cell?] at c0
            split at c0 <;> simp at c0
        subst hs
        rw [add_atQ] at c0
        refine .inr ⟨b, off, rfl, by have := World.block_lt_of_cell? (w := W) (a := ⟨b, off + 0 * 2 + 0, none⟩) c0; exact this, fun j u hj => ?_⟩
        obtain ⟨z, hz, hu⟩ := flat2_get hj
        rw [List.getElem?_map] at hz
        have hjl : j / 2 < len1 := by
          rcases Nat.lt_or_ge (j / 2) len1 with q | q
          · exact q
          · rw [List.getElem?_eq_none (by simpa using q)] at hz; cases hz
        rw [List.getElem?_range hjl] at hz
        obtain rfl : f (j / 2) = z := by simpa using hz
        have hh := hf (j / 2) hjl
        rw [add_atQ, add_atQ] at hh
        rcases hu with ⟨q, rfl⟩ | ⟨q, rfl⟩
        · have : off + j / 2 * 2 + 0 = off + j := by omega
          rw [this] at hh; exact hh.1
        · have : off + j / 2 * 2 + 1 = off + j := by omega
          rw [this] at hh; exact hh.2.1
    · obtain ⟨i, hi', rfl⟩ := List.mem_map.1 hz
      exact (hf i (List.mem_range.1 hi')).2.2
end
end Go.Proofs.Ytoainbdkhhblbaa
namespace Go.Proofs.Ytoainbdkhhblbaa
open Go.ChangeShapes Go.WideShapes Go.ChangeAt Go.RowKit
set_option linter.unusedVariables false

namespace proPlays
theorem own : ownKnob Try.prog.godebug = none := by kernel_rfl
theorem laidOut : laidOutB Try.prog = true := by kernel_rfl

set_option maxRecDepth 100000 in
theorem lifted (os : Os) (started : os.Started) (H : Type) (enc : TypeId × Value → H) :
    ReturnsInHanded {} Try.checked os 3 .any (Rows.proPlaysSpec.pre6 enc Try.prog Try.f3 Rows.proPlaysRow.domain false) (Rows.proPlaysSpec.post enc Try.prog Try.f3 false true false false) := by
  refine returnsInHanded_of_change (C := Try.checked) own started (by kernel_rfl) Try.func3
    (ChangeSpec.witness6 (enc := enc) (C := Try.checked) false ⟨#[], #[.int .i64 0, .slice none 0 0, .int .i64 0], []⟩ 8 (by kernel_rfl) (by kernel_rfl) (by kernel_rfl) (by kernel_rfl)) ?_
  intro W base args ds gs before hval0 hW hcnd _
  have hval : ∀ (j : Nat) t v, Try.f3.params[j]? = some t → args[j]? = some v → Value.okWide Try.prog W .any base t v := hval0
  have hW' := hW
  obtain ⟨p, q, hA0, hV, rfl, hfz, hnd⟩ := hW
  have hA : DataW.TrodAll enc Try.prog W 0 (fun _ => true) true Try.f3.params.toList args.toList ds p := hA0
  rw [Try.params3] at hA hval
  obtain ⟨v0, vs0, d0, ds0, p0, q0, hargs, rfl, rfl, h0, r0⟩ := trodAll_cons hA
  obtain ⟨v1, vs1, d1, ds1, p1, q1, rfl, rfl, rfl, h1, r1⟩ := trodAll_cons r0
  obtain ⟨v2, vs2, d2, ds2, p2, q2, rfl, rfl, rfl, h2, r2⟩ := trodAll_cons r1
  obtain ⟨rfl, rfl, rfl⟩ := trodAll_nil r2
  obtain rfl : args = #[v0, v1, v2] := by cases args; simp_all
  obtain ⟨rfl, rfl⟩ := trodVars_none hV
  obtain ⟨a0, rfl, rfl, rfl, w0⟩ := open_int Try.underlying3 (hval 0 3 v0 rfl rfl) h0
  obtain ⟨a1, len1, cap1, rfl⟩ := okWide_slice Try.underlying22 (hval 1 22 v1 rfl rfl)
  obtain ⟨a2, rfl, rfl, rfl, w2⟩ := open_int Try.underlying3 (hval 2 3 v2 rfl rfl) h2
  have k1 := h1
  have lt1 : ∀ x ∈ p1, x.block < W.heap.size := by obtain ⟨m, hm⟩ := k1; exact DataW.trod_lt m _ _ _ hm
  obtain ⟨zs, wz, _⟩ : ∃ zs, ArgQ W (.slice a1 len1 cap1) zs ∧ zs.length = len1 := by
    obtain ⟨fuel, hf⟩ := h1
    exact argQ_of hf
  clear hA0 hval0
  refine (playsP_walk a0 a2 _ zs W wz).mono fun e W' ⟨he, hf⟩ => ?_
  have bel := hf.below
  subst he
  exact ⟨_, rfl, _, _, _, [], _, [], hW', trodAll_mk1 (shut_bool Try.underlying4 _), (trodAll_cons_mk (shut_int Try.underlying3 w0) (trodAll_cons_mk (Below.trod laidOut (by kernel_rfl) (of_decide_eq_true (by kernel_rfl)) k1 bel lt1) (trodAll_cons_mk (shut_int Try.underlying3 w2) trodAll_mk0))), rfl, bel.frame _, fun h => by cases h⟩

/-- THE STATEMENT. -/
theorem proved : Rows.ProPlaysSaid :=
  OpenClaim.holds_of_wide 3 Try.f3 rfl rfl rfl rfl rfl rfl rfl ⟨rfl, rfl, rfl, rfl, rfl⟩ rfl rfl rfl rfl rfl (by kernel_rfl) Try.func3 (by kernel_rfl)
    (of_decide_eq_true (by kernel_rfl)) (by unfold Func.isWrapper; first | (rw [if_pos (by decide +kernel)]; kernel_rfl) | (rw [if_neg (by decide +kernel)]; exact ⟨rfl, rfl⟩))
    (fun os started H enc _ => lifted os started H enc)
#print axioms proved
end proPlays
end Go.Proofs.Ytoainbdkhhblbaa
namespace Go.Proofs.Ytoainbdkhhblbaa
open Go.RowKit
set_option linter.unusedVariables false

theorem flatC_cut : ∀ {cs : List Cl} {gs : List Value} {k : Nat} {c : Cl} {g : Value}, cs[k]? = some c → gs[k]? = some g → ((flatC cs gs).drop (k * 7)).take 7 = flatC [c] [g]
  | a :: cs, b :: gs, 0, c, g, h1, h2 => by
    simp at h1 h2
    subst h1 h2
    simp [flatC, clCells]
  | a :: cs, b :: gs, k + 1, c, g, h1, h2 => by
    have := flatC_cut (cs := cs) (gs := gs) (k := k) (by simpa using h1) (by simpa using h2)
    rw [← this]
    have e : (clCells a b).length = 7 := rfl
    simp only [flatC]
    rw [List.drop_append, e, List.drop_eq_nil_of_le (by rw [e]; omega), List.nil_append, show (k + 1) * 7 - 7 = k * 7 from by omega]
  | [], _, _, _, _, h, _ => by simp at h
  | _ :: _, [], _, _, _, _, h => by simp at h
/-- One call of those that were told. -/
theorem CRep.one {w : World} {a : Option Addr} {c k : Nat} {cs : List Cl} {X : Nat → Prop} (h : CRep w (.slice a cs.length c) cs X) (hk : k < cs.length) (hkc : k < c) : ∃ b off, a = some ⟨b, off, none⟩ ∧ CRep w (.slice (some ⟨b, off + k * 7, none⟩) 1 (c - k)) [cs[k]] X := by
  obtain ⟨gs, h1, h2, h3, h4⟩ := h
  obtain ⟨b, off, rfl, hs⟩ := h2.cut (lo := k) (hi := k + 1) (by omega) (by omega) rfl hkc
  have hgk : k < gs.length := by omega
  have e1 : cs[k]? = some cs[k] := List.getElem?_eq_getElem hk
  have e2 : gs[k]? = some gs[k] := List.getElem?_eq_getElem hgk
  rw [show k + 1 - k = 1 from by omega, show 1 * 7 = 7 from rfl, flatC_cut e1 e2] at hs
  refine ⟨b, off, rfl, [gs[k]], rfl, hs, fun i c' g' q1 q2 => ?_, fun b' q => h4 b' (by simpa [Value.ownBlock] using q)⟩
  cases i with
  | zero =>
    simp at q1 q2
    subst q1 q2
    exact h3 k _ _ e1 e2
  | succ i => simp at q1
/-- What has been called, one by one. -/
def TgRel (b n : Nat) (w5 : World) (F : Nat → Prop) (cs : List Cl) (i : Value) (wr : World) : Prop :=
  ∃ (k : Nat) (t : PrS) (F' : Nat → Prop), k ≤ cs.length ∧ i = .int .i64 k ∧ CRP b n wr t F' ∧ Good (polC n) (pre8 n) t (cs.drop k) ∧ Fr F w5 wr ∧ ∀ i, F' i → F i ∨ w5.heap.size ≤ i
set_option maxRecDepth 100000 in
set_option maxHeartbeats 4000000 in
theorem targetsP_walk (a0 : Int) (v : Value) (zs : List (Int × Int)) (w : World) (hv : ArgQ w v zs) :
    Calls Try.prog 5 #[.int .i64 a0, v] w fun e w' => e = .returned (.bool true) ∧ Fr NoF w w' := by
  obtain ⟨n, hn1, hn2, en⟩ := modk1 a0 (k := 7) (by decide) (by decide)
  obtain ⟨sa, sc, rfl, _, _⟩ := hv.1
  have HV := Lib.hid hv
  have EN := Lib.hid en
  have N := Lib.hid (pr_new_yes n w (by omega) (by omega))
  clear en hv
  go_enter Try.func5, Try.ntmps5
  go_wp2_with fail
  rw [EN.out]
  refine N.out.mono ?_
  clear N
  rintro e w1 ⟨b, F, rfl, hR1, hF, hf1⟩
  have HF := Lib.hid hF
  have HR1 := Lib.hid hR1
  have HF1 := Lib.hid hf1
  clear hF hR1 hf1
  go_wp2_with fail
  refine (told8_calls _).mono ?_
  rintro e w2 ⟨rfl, hf2⟩
  have HR2 := Lib.hid ((cod8 b n (by omega)).fr HR1.out hf2 (fun _ _ q => q))
  have HF2 := Lib.hid (HF1.out.trans hf2 (fun _ q => q.elim))
  clear hf2 HR1 HF1
  have HN := Lib.hid (q_new n w2 (by omega) (by omega))
  go_wp2_with fail
  refine HN.out.mono ?_
  clear HN
  rintro e w3 ⟨pb, Fp, Dp, rfl, hP3, hD3, hf3⟩
  have HR3 := Lib.hid ((cod8 b n (by omega)).fr HR2.out hf3 (fun _ _ q => q))
  have HF3 := Lib.hid (HF2.out.trans hf3 (fun _ q => q.elim))
  have HP3 := Lib.hid hP3
  have HD3 := Lib.hid hD3
  have HFb := Lib.hid (fun i hi => (cod8 b n (by omega)).lt HR2.out i hi)
  have HSZ := Lib.hid (And.intro HF2.out.size hf3.size)
  clear hf3 hP3 hD3 HR2 HF2
  have HV3 : Hid (ArgQ w3 (.slice sa zs.length sc) zs) := HV.out.keep HF3.out
  have HX := Lib.hid (Fix_walk (m := 15) HV3.out (by omega) (by omega))
  go_wp2_with fail
  refine HX.out.mono ?_
  clear HX
  rintro e w4 ⟨out_4, rfl, l, hl, hlo, hA, hob, hf4⟩
  have HR4 := Lib.hid ((cod8 b n (by omega)).fr HR3.out hf4 (fun _ _ q => q))
  have HF4 := Lib.hid (HF3.out.trans hf4 (fun _ q => q.elim))
  have HP4 := Lib.hid ((PR8_fr : PFr (PR8 pb n)).fr HP3.out hf4 (fun _ _ q => q))
  have HDl := Lib.hid ((PR8_fr : PFr (PR8 pb n)).lt HP3.out)
  have HS4 := Lib.hid hf4.size
  have HO := Lib.hid hob
  have HL := Lib.hid hlo
  have HA := Lib.hid hA
  have hops : ∀ o ∈ l, o.1 < 4 ∧ 1 ≤ o.2 ∧ o.2 < 4294967296 := fun o ho => by have := hlo o ho; exact ⟨this.1, this.2.1, by omega⟩
  have HOPS := Lib.hid hops
  have hrs : Sim8 n (pr0 n) (pr0 n) (List.replicate n 0) := ⟨rfl, (pk0 (by omega)).1, (pk0 (by omega)).2, by simp, fun g hg => by simp [pr0, hg]⟩
  have hco : co8 n (pr0 n) (List.replicate n 0) := ⟨by simp, fun g hg => by simp [pr0, hg]⟩
  have HRUN := Lib.hid (Run_walk sys8 HP4.out hco (by omega) HA.out (fun b hb hd => by have := HO.out b hb; have := HDl.out b hd; omega) (by omega) HOPS.out)
  have hsim := (sim8 n (by omega)).run (ops := l) (s := (pr0 n)) (t := pr0 n) (fr := List.replicate n 0) hrs HOPS.out
  have hlen := (polP n).run_len (pr0 n) (List.replicate n 0) l
  obtain ⟨oa, oc, rfl, _, _⟩ := hA.shape
  have HSIM := Lib.hid hsim
  clear hf4 HR3 HF3 hob hlo hA hops hsim hco HV3
  go_wp2_with fail
  refine HRUN.out.mono ?_
  clear HRUN
  rintro e w5 ⟨out_, rfl, fb, hb, fr, hd, hst⟩
  have hff : Fr Dp w4 w5 := by obtain ⟨_, _, _, h⟩ := hst; exact h.ff
  have hFD : ∀ i, F i → ¬ Dp i := fun i hi hd => by have := HFb.out i hi; have := HD3.out i hd; omega
  have HR5 := Lib.hid ((cod8 b n (by omega)).fr HR4.out hff hFD)
  have HF5 := Lib.hid (HF4.out.trans hff (fun i hi => .inr (by have := HD3.out i hi; have := HSZ.out; omega)))
  have HCR := Lib.hid (CRep.of hst).inside
  have h45 := hff.size
  have HDX : Hid (∀ i, ((Dp i ∨ w4.heap.size ≤ i) ∧ i < w5.heap.size) → ¬ F i) := fun i hi hfi => by
    have h1 := HFb.out i hfi
    have h2 := HSZ.out
    have h3 := HS4.out
    rcases hi.1 with q | q
    · have := HD3.out i q; omega
    · omega
  have hcl : ((polP n).run (pr0 n) (List.replicate n 0) l).2.2.length < 1000000 := by omega
  have HCL := Lib.hid hcl
  have HG0 := Lib.hid HSIM.out.1
  clear hst hff hFD HR4 HF4 h45 hlen HSIM
  generalize ((polP n).run (pr0 n) (List.replicate n 0) l).2.2 = cs at *
  obtain ⟨va, vc, rfl, hvl, hvm⟩ : ∃ a c, out_ = .slice a cs.length c ∧ cs.length ≤ c ∧ c ≤ maxLen := by obtain ⟨gs, _, h2, _, _⟩ := HCR.out; exact h2.shape
  unfold maxLen at hvm
  go_wp2
  go_loopw [9] (fun i wr => TgRel b n w5 F cs i wr) (fun i _ => cs.length - (intOf i).toNat)
  case atStart => exact ⟨0, pr0 n, F, Nat.zero_le _, rfl, HR5.out, by simpa using HG0.out, Fr.refl _ _, fun i q => .inl q⟩
  case round =>
   obtain ⟨k, t, F', hk, rfl, hc, hg, hfk, hF'⟩ := hrel
   clear HG0 HR5
   by_cases hlt : k < cs.length
   · rw [List.drop_eq_getElem_cons hlt] at hg
     have hgr : Good (polC n) (pre8 n) ((polC n).next t cs[k]) (cs.drop (k + 1)) := hg.2.2.2.2.2.2.2.2
     have hg1 : Good (polC n) (pre8 n) t [cs[k]] := by
       obtain ⟨x1, x2, x3, x4, x5, x6, x7, x8, _⟩ := hg
       exact ⟨x1, x2, x3, x4, x5, x6, x7, x8, trivial⟩
     obtain ⟨vb, vo, rfl, hone⟩ := (HCR.out.fr hfk (fun i q r => HDX.out i q r)).one hlt (by omega)
     have hre := Replay_walk (cod8 b n (by omega)) hc hone (fun i q r => by
       rcases hF' i r with r | r
       · exact HDX.out i q r
       · have := q.2; omega) (fun i q => Nat.lt_of_lt_of_le q.2 hfk.size) (by show 1 < 1000000; omega) hg1
     have HRE := Lib.hid hre
     have HGR := Lib.hid hgr
     have HFK := Lib.hid hfk
     have HF' := Lib.hid hF'
     have hkc : (k : Int) + 1 ≤ (vc : Int) := by omega
     have hkn : k + 1 ≤ vc := by omega
     have hkb : k < 1000000 := by omega
     have HLT := Lib.hid hlt
     clear hg hgr hg1 hone hre hfk hF' hc hk
     go_wp2_with fail
     refine HRE.out.mono ?_
     clear HRE
     rintro e w6 ⟨rfl, F2, hc6, hf6, hF6⟩
     have hc6 : CRP b n w6 ((polC n).next t cs[k]) F2 := hc6
     have HTG := Lib.hid (cr_target hc6)
     have HTH := Lib.hid (cr_hot hc6)
     have HREL : Hid (TgRel b n w5 F cs (.int .i64 ((k : Int) + 1)) w6) := ⟨k + 1, _, F2, HLT.out, by go_num, hc6, HGR.out, HFK.out.trans hf6 (fun i q => HF'.out i q), fun i q => by
       rcases hF6 i q with r | r
       · exact HF'.out i r
       · exact .inr (Nat.le_trans HFK.out.size r)⟩
     obtain ⟨_, _, hk6, _, _⟩ := hc6
     have hgl := hk6.gl
     have hhl := hot_le hk6
     clear hf6 hF6 hk6 HGR
     generalize ((polC n).next t cs[k]).goal = g0 at *
     generalize ((polC n).next t cs[k]).hotN = h0 at *
     have e1 : decide (g0 < 1) = false := by simp; omega
     have e1' : decide ((g0 : Int) < 1) = false := by simp; omega
     have e2 : decide (n < h0) = false := by simp; omega
     have e2' : decide ((n : Int) < (h0 : Int)) = false := by simp; omega
     have e3 : decide ((h0 : Int) < 0) = false := by simp
     by_cases hn : n = 1
     · have e4 : decide (1 < g0) = false := by simp; omega
       have e4' : decide (1 < (g0 : Int)) = false := by simp; omega
       have e5 : (n : Int) - 1 < 1 := by omega
       have e6 : max ((n : Int) - 1) 1 = 1 := by omega
       clear hgl hhl hn
       go_wp2_with (first
         | (go_at_call 13; (with_reducible refine HTG.out.mono ?_); rintro e w' ⟨rfl, rfl⟩)
         | (go_at_call 14; (with_reducible refine HTH.out.mono ?_); rintro e w' ⟨rfl, rfl⟩))
       all_goals first | omega | skip
       all_goals
         go_roundw
         case rel => exact HREL.out
         case measure => have := HLT.out; simp [intOf]; omega
     · have e4 : decide ((n : Int) - 1 < (g0 : Int)) = false := by simp; omega
       have e5 : 1 ≤ (n : Int) - 1 := by omega
       have e6 : max ((n : Int) - 1) 1 = (n : Int) - 1 := by omega
       have e7 : (g0 : Int) ≤ (n : Int) - 1 := by omega
       clear hgl hhl
       go_wp2_with (first
         | (go_at_call 13; (with_reducible refine HTG.out.mono ?_); rintro e w' ⟨rfl, rfl⟩)
         | (go_at_call 14; (with_reducible refine HTH.out.mono ?_); rintro e w' ⟨rfl, rfl⟩))
       all_goals first | omega | skip
       all_goals
         go_roundw
         case rel => exact HREL.out
         case measure => have := HLT.out; simp [intOf]; omega
   · obtain rfl : k = cs.length := by omega
     have HFK := Lib.hid hfk
     clear hk hg hc hF' hfk hlt
     go_wp2
     go_returns
     exact ⟨rfl, HF5.out.trans HFK.out (fun i hi => .inr (HF.out i hi))⟩
end Go.Proofs.Ytoainbdkhhblbaa
