/-
  The law ScriptReads: its walk.
-/
import Derived.Test.YtaebogmgjimkfaaDoorScrE
import Derived.Test.YtaebogmgjimkfaaDoorLinV
import Derived.Laws.BytesArg
import Derived.Deep.RegionHeld3
namespace Go.Proofs.YtaebogmgjimkfaaDoor
open Go.RowKit Go.Maps
set_option linter.unusedVariables false
set_option linter.unusedSimpArgs false
set_option maxRecDepth 100000
theorem EIb : EI Tryd.prog 22 5 1 1 := EI.mk' (z := .int .u8 0) Tryd.underlying22 (by kernel_rfl) rfl (by decide)
/-- A slice's beginning. -/
theorem SlK.front {k : IntKind} {w : World} {a : Option Addr} {c : Nat} {l : List Nat} (h : SlK k w (.slice a l.length c) l) {m : Nat} (hm : m ≤ l.length) : SlK k w (.slice a (l.take m).length c) (l.take m) := by
  obtain ⟨a', c', e, l1, l2, l3, l4, l5⟩ := h
  simp only [Value.slice.injEq] at e
  obtain ⟨rfl, _, rfl⟩ := e
  have e2 : (l.take m).length = m := by rw [List.length_take]; omega
  refine ⟨_, _, rfl, by simp, fun u hu => ?_, by omega, l4, l5.imp id ?_⟩
  · obtain ⟨z, _, rfl⟩ := List.mem_map.1 hu; rfl
  · rintro ⟨b, off, rfl, hb, hc⟩
    refine ⟨b, off, rfl, hb, fun j u hj => hc j u ?_⟩
    rw [List.map_take, List.getElem?_take] at hj
    split at hj
    · exact hj
    · cases hj
/-- The bytes as a text. -/
theorem SlK.text {w : World} {v : Value} {l : List Nat} (h : SlK .u8 w v l) : (convert 22 9 v).run Tryd.prog w = .ok (.string (strOfNums (l.map fun (x : Nat) => (x : Int)))) w := by
  obtain ⟨a, c, rfl, l1, l2, l3, l4, l5⟩ := h
  rcases l5 with ⟨rfl, rfl⟩ | ⟨b, off, rfl, hb, hc⟩
  · obtain rfl : l = [] := List.eq_nil_of_length_eq_zero (by omega)
    exact run_convert_bytes_nil w 22 5 Tryd.underlying22 Tryd.underlying5 _ _ 9 Tryd.underlying9
  · refine run_convert_bytes_arg w 22 5 Tryd.underlying22 Tryd.underlying5 b off l.length c _ (by simp) (fun i hi => ?_) 9 Tryd.underlying9
    rw [hc i (.int .u8 (l[i] : Nat)) (by simp [hi])]
    simp [List.getD, hi]
theorem L3T.shapes {ty : TypeId} {w : World} {b base : Nat} {vs : Nat → Value} {os : Nat → List OpK} (h : L3T ty w b base vs os) : ∀ c, c < 3 → ∃ a n, vs c = .slice a (os c).length n ∧ SlC w 3 (.slice a (os c).length n) (os c).length (flatK (os c)) := fun c hc => by
  have q := SlC.ofOwn (h.own c hc) (flatK_one (os c))
  obtain ⟨a, n, e, _⟩ := q.shape
  exact ⟨a, n, e, e ▸ q⟩
theorem flatK_at (os : List OpK) {k : Nat} (hk : k < os.length) : (flatK os)[k * 3]? = some (.int .i64 (os[k].k : Nat)) ∧ (flatK os)[k * 3 + 1]? = some (.int .u32 (os[k].id : Nat)) ∧ (flatK os)[k * 3 + 2]? = some (.int .u64 (os[k].v : Nat)) := by
  induction os generalizing k with
  | nil => simp at hk
  | cons x os ih =>
    cases k with
    | zero => exact ⟨rfl, rfl, rfl⟩
    | succ k =>
      obtain ⟨q0, q1, q2⟩ := ih (k := k) (by simpa using hk)
      have e : ∀ j, (flatK (x :: os))[j + 3]? = (flatK os)[j]? := fun j => by simp [flatK, OpK.cells]
      rw [show (k + 1) * 3 = k * 3 + 3 by omega, e, show k * 3 + 3 + 1 = k * 3 + 1 + 3 by omega, e, show k * 3 + 3 + 2 = k * 3 + 2 + 3 by omega, e]
      exact ⟨q0, q1, q2⟩
set_option maxHeartbeats 8000000 in
theorem reads_calls {w : World} (hT : LT w) (hB : Tabs w) {v : Value} {l : List Nat} (h : SlK .u8 w v l) (hb : ∀ x ∈ l, x < 256) :
    Calls Tryd.prog 3 #[v] w fun e w' => e = .returned (.bool true) ∧ Fr NoF w w' := by
  have HTD : Hid (∀ W, Fr NoF w W → Calls Tryd.prog 7 #[] W fun e w' => e = .returned (.bool true) ∧ Fr NoF W w') := fun W f => lawtold_calls (hT.fr f)
  have HTO : Hid (∀ (k id x : Nat) W, Calls Tryd.prog 8 #[.agg #[.int .i64 k, .int .u32 id, .int .u64 x]] W fun e w' => e = .returned (.agg #[.int .i64 k, .int .u32 id, .int .u64 x]) ∧ Fr NoF W w') := fun k id x W => to_calls k id x W
  have HTB := Lib.hid hB
  clear hT hB
  obtain ⟨a, c, rfl, h1, h2⟩ := h.shape
  obtain ⟨m, hm⟩ : ∃ m, m = min l.length 400 := ⟨_, rfl⟩
  have HS1 := h.front (m := m) (by omega)
  have hb1 : ∀ x ∈ l.take m, x < 256 := fun x hx => hb x (List.mem_of_mem_take hx)
  have hl1 : (l.take m).length ≤ 400 := by rw [List.length_take]; omega
  have hml : (l.take m).length = m := by rw [List.length_take]; omega
  generalize l.take m = l1 at *
  unfold maxLen at h2
  have hcase : (l.length : Int) ≤ 400 ∧ m = l.length ∨ ¬ (l.length : Int) ≤ 400 ∧ m = 400 := by omega
  have HS2 := Lib.hid HS1
  have HB1 := Lib.hid hb1
  clear h hb HS1 hb1
  go_enter Tryd.func3, Tryd.ntmps3
  go_upto_region 1 with fail
  go_cut [0] from 3 (fun s0 wx => s0 = .slice a m c ∧ wx = w)
  case first =>
    rcases hcase with ⟨q1, q2⟩ | ⟨q1, q2⟩
    all_goals
      go_wp2_with fail
      all_goals go_meet
      exact ⟨by congr 1; omega, rfl⟩
  case rest =>
    obtain ⟨rfl, rfl⟩ := hcut
    rw [hml] at HS2
    clear hcase hm
    have h1c : Hid (∀ u ∈ l1.map (fun (x : Nat) => Value.int .u8 (x : Int)), u.oneCell' = true) := Lib.hid fun u hu => by obtain ⟨z, _, rfl⟩ := List.mem_map.1 hu; rfl
    have HSC : Hid (SlC wc 1 (.slice a m c) m (l1.map fun (x : Nat) => Value.int .u8 (x : Int))) := Lib.hid (by have := HS2.out; unfold SlK at this; rw [hml] at this; exact this)
    go_wp2_with (at_builtin; go_must (refine appLB (base := wc.heap.size) EIb rfl _ _ rfl (by rfl) (by rfl) (by simp) (own_new (w0 := wc) (Nat.le_refl _) #[] 5 1 0 _ rfl rfl (by unfold maxLen; omega)) (HSC.out.keep ((Fr.refl NoF _).alloc _)) (by unfold maxLen; omega) (by omega) ?_); intro v' w2 hown' hf' hob'; have HF' := Lib.hid hf'; have HO' := Lib.hid hown'; clear hf' hown' hob')
    have HOW : Hid (SlK .u8 w2 v' l1) := Lib.hid (by
      have q := SlC.ofOwn HO'.out (fun u hu => h1c.out u (by simpa using hu))
      unfold SlK
      rw [hml]
      simpa using q)
    have F2 : Hid (Fr NoF wc w2) := Lib.hid (((Fr.refl NoF wc).alloc _).trans HF'.out (fun i q => .inr (by cases q; exact Nat.le_refl _)))
    clear HO' HF'
    refine (scr_read (HTB.out.fr0 F2.out) HOW.out HB1.out hl1).mono ?_
    rintro e w3 ⟨cs, ps, vs, rfl, hLs, hcs, hPs, hps, f3⟩
    obtain ⟨az, kz, rfl, -, -⟩ := hPs.shape
    have HLS := Lib.hid hLs
    have HPS := Lib.hid hPs
    have F3 := Lib.hid (F2.out.trans f3 (fun _ q => q.elim))
    have HOW := Lib.hid (HOW.out.keep f3)
    have hws : ∀ x1 x2 x3 x4 x5 : Value, Blk (w3.alloc (.cells #[x1, x2, x3, x4, x5] 26)) w3.heap.size 5 (fun i => match i with | 0 => x1 | 1 => x2 | 2 => x3 | 3 => x4 | _ => x5) := fun x1 x2 x3 x4 x5 => Blk.new _ _ _ 5 _ _ rfl rfl (fun i hi => by
      match i, hi with
      | 0, _ | 1, _ | 2, _ | 3, _ | 4, _ => rfl)
    have HBS := Lib.hid (hws (.int .i64 (1 + l1.getD 0 0 % 6 : Nat)) (.int .i64 (1 + l1.getD 1 0 % 12 : Nat)) (.string (polZ (l1.getD 2 0 % 5))) (.slice (some ⟨cs, 0, none⟩) 3 3) (.slice az (l1.drop 4).length kz))
    clear hLs hcs hPs hps f3 hws F2
    have HR := Lib.hid (fun W (f : Fr NoF wc W) => ref_read (w := W) (v := .slice a m c) (by have q := HS2.out.keep f; exact q) HB1.out hl1)
    generalize hx0 : 1 + l1.getD 0 0 % 6 = x0 at *
    generalize hx1 : 1 + l1.getD 1 0 % 12 = x1 at *
    generalize hx2 : polZ (l1.getD 2 0 % 5) = x2 at *
    generalize hx3 : (l1.drop 4).length = x3 at *
    have HX0 := Lib.hid hx0
    have HX1 := Lib.hid hx1
    have HX2 := Lib.hid hx2
    have HX3 := Lib.hid hx3
    generalize hnn : min (x3 / 3) 60 = nn at *
    have hn60 : nn ≤ 60 := by omega
    clear hnn
    clear hx0 hx1 hx2 hx3
    go_wp2_with fail
    have F3A := Lib.hid (F3.out.alloc (.cells #[.int .i64 x0, .int .i64 x1, .string x2, .slice (some ⟨cs, 0, none⟩) 3 3, .slice az x3 kz] 26))
    refine (HR.out _ F3A.out).mono ?_
    rintro e w4 ⟨cw, bw, pw, ws, rfl, hLw, hcw, hbw, hPw, hpw, f4⟩
    obtain ⟨ay, ky, rfl, -, -⟩ := hPw.shape
    rw [HX3.out] at hPw ⊢
    have HLW := Lib.hid hLw
    have HPW := Lib.hid hPw
    have F4 := Lib.hid (F3A.out.trans f4 (fun _ q => q.elim))
    have f34 := ((Fr.refl NoF w3).alloc (.cells #[.int .i64 x0, .int .i64 x1, .string x2, .slice (some ⟨cs, 0, none⟩) 3 3, .slice az x3 kz] 26)).trans f4 (fun _ q => q.elim)
    have HOW := Lib.hid (HOW.out.keep f34)
    have HLS := Lib.hid (HLS.out.fr0 f34)
    have HPS := Lib.hid (HPS.out.keep f34)
    have HBS := Lib.hid (HBS.out.fr f4 id)
    have HBW : Hid (Blk (w4.alloc (.cells #[.int .i64 x0, .int .i64 x1, .string x2, .slice (some ⟨cw, 0, none⟩) 3 3, .slice ay x3 ky] 30)) w4.heap.size 5 (fun i => match i with | 0 => .int .i64 x0 | 1 => .int .i64 x1 | 2 => .string x2 | 3 => .slice (some ⟨cw, 0, none⟩) 3 3 | _ => .slice ay x3 ky)) := Lib.hid (Blk.new _ _ _ 5 _ _ rfl rfl (fun i hi => by
      match i, hi with
      | 0, _ | 1, _ | 2, _ | 3, _ | 4, _ => rfl))
    clear hLw hcw hbw hPw hpw f4 f34 F3A HR
    generalize w3.heap.size = bS at *
    clear F3
    go_wp2_with fail
    refine (HTD.out _ (F4.out.alloc _)).mono ?_
    rintro e wz ⟨rfl, f5⟩
    have f45 := ((Fr.refl NoF w4).alloc (.cells #[.int .i64 x0, .int .i64 x1, .string x2, .slice (some ⟨cw, 0, none⟩) 3 3, .slice ay x3 ky] 30)).trans f5 (fun _ q => q.elim)
    have FZ := Lib.hid (F4.out.trans f45 (fun _ q => q.elim))
    have tx1 := (HOW.out.keep f45).text
    have tx2 := (show SlK .u8 wc (.slice a m c) l1 from by have q := HS2.out; exact q).keep FZ.out |>.text
    have HLS := Lib.hid (HLS.out.fr0 f45)
    have HPS := Lib.hid (HPS.out.keep f45)
    have HBS := Lib.hid (HBS.out.fr f45 id)
    have HLW := Lib.hid (HLW.out.fr0 f45)
    have HPW := Lib.hid (HPW.out.keep f45)
    have HBW := Lib.hid (HBW.out.fr f5 id)
    generalize w4.heap.size = bW at *
    clear f5 f45 F4 HTD HOW HTB HSC h1c HS2 HB1
    have s0 := HBS.out.cell (i := 0) (by omega)
    have s1 := HBS.out.cell (i := 1) (by omega)
    have s2 := HBS.out.cell (i := 2) (by omega)
    have s3 := HBS.out.cell (i := 3) (by omega)
    have s4 := HBS.out.cell (i := 4) (by omega)
    have r0 := HBW.out.cell (i := 0) (by omega)
    have r1 := HBW.out.cell (i := 1) (by omega)
    have r2 := HBW.out.cell (i := 2) (by omega)
    have r3 := HBW.out.cell (i := 3) (by omega)
    have r4 := HBW.out.cell (i := 4) (by omega)
    simp only at s0 s1 s2 s3 s4 r0 r1 r2 r3 r4
    generalize strOfNums (l1.map fun (x : Nat) => (x : Int)) = tx at *
    have hx3 : x3 ≤ 400 := by have := HX3.out; rw [List.length_drop] at this; omega
    go_wp2_with fail
    clear s0 s1 s2 s3 s4 r0 r1 r2 r3 r4 tx1 tx2
    go_loopw [6] (fun s6 wr => ∃ j : Nat, j ≤ x3 ∧ s6 = .int .i64 j ∧ Fr NoF wz wr) (fun s6 _ => x3 - (intOf s6).toNat)
    case atStart => exact ⟨0, Nat.zero_le _, rfl, Fr.refl _ _⟩
    case round =>
      obtain ⟨j, hj, rfl, hf⟩ := hrel
      have s4 := (HBS.out.fr hf id).cell (i := 4) (by omega)
      have r4 := (HBW.out.fr hf id).cell (i := 4) (by omega)
      simp only at s4 r4
      by_cases hlt : j < x3
      · have hj2 : j < (l1.drop 4).length := by rw [HX3.out]; exact hlt
        obtain ⟨b1, o1, c1, e1, -, -, -, q1⟩ := (HPS.out.keep hf).at (i := j) hj2
        simp only [Value.slice.injEq] at e1
        obtain ⟨rfl, -, rfl⟩ := e1
        obtain ⟨b2, o2, c2, e2, -, -, -, q2⟩ := (HPW.out.keep hf).at (i := j) hj2
        simp only [Value.slice.injEq] at e2
        obtain ⟨rfl, -, rfl⟩ := e2
        obtain ⟨y, hy⟩ : ∃ y, y = (l1.drop 4)[j] := ⟨_, rfl⟩
        rw [← hy] at q1 q2
        clear hy
        have hlI : (j : Int) < (x3 : Int) := by omega
        have FD := Lib.hid hf
        clear hf
        go_wp2_with fail
        go_quiet (fail)
        go_wp2
        go_roundw
        case rel => exact ⟨j + 1, by omega, by go_num, FD.out.drewN _⟩
        case measure => simp [intOf]; omega
      · obtain rfl : j = x3 := by omega
        have FD := Lib.hid hf
        clear hf hlt
        go_wp2_with fail
        have HK := Lib.hid (L3T.shapes HLS.out)
        have HKW := Lib.hid (L3T.shapes HLW.out)
        go_loopw [7] (fun s7 wr => ∃ i : Nat, i ≤ 3 ∧ s7 = .int .i64 i ∧ Fr NoF wz wr) (fun s7 _ => 3 - (intOf s7).toNat)
        case atStart => exact ⟨0, by omega, rfl, FD.out⟩
        case round =>
          obtain ⟨i, hi, rfl, hf⟩ := hrel
          by_cases hlt : i < 3
          · have s3 := (HBS.out.fr hf id).cell (i := 3) (by omega)
            have r3 := (HBW.out.fr hf id).cell (i := 3) (by omega)
            simp only at s3 r3
            have s5 := (HLS.out.fr0 hf).blk.cell hlt
            have r5 := (HLW.out.fr0 hf).blk.cell hlt
            obtain ⟨ga, gc, e3, hg⟩ := HK.out i hlt
            obtain ⟨gb, gd, e4, hh⟩ := HKW.out i hlt
            have hlI : (i : Int) < 3 := by omega
            rw [e3] at s5
            rw [e4] at r5
            obtain ⟨os, hos⟩ : ∃ os, os = opsK (l1.drop 4) nn i := ⟨_, rfl⟩
            rw [← hos] at s5 r5 hg hh e3 e4
            have hol : os.length ≤ 60 := by have := opsK_len (l1.drop 4) nn i; rw [← hos] at this; omega
            have HG := Lib.hid hg
            have HH := Lib.hid hh
            have E3 := Lib.hid e3
            have E4 := Lib.hid e4
            clear hos hg hh e3 e4
            have FD := Lib.hid hf
            clear hf
            go_wp2_with fail
            go_quiet (fail)
            go_wp2_with fail
            go_loopw [8] (fun s8 wq => ∃ k : Nat, k ≤ os.length ∧ s8 = .int .i64 k ∧ Fr NoF wz wq) (fun s8 _ => os.length - (intOf s8).toNat)
            case atStart => exact ⟨0, Nat.zero_le _, rfl, FD.out.drewN _⟩
            case round =>
              obtain ⟨k, hk, rfl, hf⟩ := hrel
              clear s3 r3 s5 r5
              have s3 := (HBS.out.fr hf id).cell (i := 3) (by omega)
              have r3 := (HBW.out.fr hf id).cell (i := 3) (by omega)
              simp only at s3 r3
              have s5 := (HLS.out.fr0 hf).blk.cell hlt
              have r5 := (HLW.out.fr0 hf).blk.cell hlt
              rw [E3.out] at s5
              rw [E4.out] at r5
              by_cases hlk : k < os.length
              · obtain ⟨q0, q1, q2⟩ := flatK_at os hlk
                obtain ⟨b1, o1, c1, e1, -, -, hb1, g1⟩ := (HG.out.keep hf).at hlk (by omega)
                simp only [Value.slice.injEq] at e1
                obtain ⟨rfl, -, rfl⟩ := e1
                obtain ⟨b2, o2, c2, e2, -, -, hb2, g2⟩ := (HH.out.keep hf).at hlk (by omega)
                simp only [Value.slice.injEq] at e2
                obtain ⟨rfl, -, rfl⟩ := e2
                have a0 := g1 _ _ q0
                have a1 := g1 _ _ q1
                have a2 := g1 _ _ q2
                have d0 := g2 _ _ q0
                have d1 := g2 _ _ q1
                have d2 := g2 _ _ q2
                clear g1 g2 q0 q1 q2
                generalize (os[k]).k = zk at *
                generalize (os[k]).id = zi at *
                generalize (os[k]).v = zv at *
                rw [← Nat.add_assoc] at a1 a2 d1 d2
                have FD := Lib.hid hf
                have KS : Hid (∀ W, Fr NoF wr W → W.cell? ⟨bS, 3, none⟩ = some (.slice (some ⟨cs, 0, none⟩) 3 3) ∧ W.cell? ⟨cs, i, none⟩ = some (.slice (some ⟨b1, o1, none⟩) os.length gc) ∧ W.cell? ⟨b1, o1 + k * 3, none⟩ = some (.int .i64 zk) ∧ W.cell? ⟨b1, o1 + k * 3 + 1, none⟩ = some (.int .u32 zi) ∧ W.cell? ⟨b1, o1 + k * 3 + 2, none⟩ = some (.int .u64 zv) ∧ W.cell? ⟨bW, 3, none⟩ = some (.slice (some ⟨cw, 0, none⟩) 3 3) ∧ W.cell? ⟨cw, i, none⟩ = some (.slice (some ⟨b2, o2, none⟩) os.length gd) ∧ W.cell? ⟨b2, o2 + k * 3, none⟩ = some (.int .i64 zk) ∧ W.cell? ⟨b2, o2 + k * 3 + 1, none⟩ = some (.int .u32 zi) ∧ W.cell? ⟨b2, o2 + k * 3 + 2, none⟩ = some (.int .u64 zv)) := Lib.hid fun W f => ⟨(f.cell (p := ⟨bS, 3, none⟩) (World.block_lt_of_cell? (w := wr) (a := _) s3) id).trans s3, (f.cell (p := ⟨cs, i, none⟩) (World.block_lt_of_cell? (w := wr) (a := _) s5) id).trans s5, (f.cell (p := ⟨b1, o1 + k * 3, none⟩) hb1 id).trans a0, (f.cell (p := ⟨b1, o1 + k * 3 + 1, none⟩) hb1 id).trans a1, (f.cell (p := ⟨b1, o1 + k * 3 + 2, none⟩) hb1 id).trans a2, (f.cell (p := ⟨bW, 3, none⟩) (World.block_lt_of_cell? (w := wr) (a := _) r3) id).trans r3, (f.cell (p := ⟨cw, i, none⟩) (World.block_lt_of_cell? (w := wr) (a := _) r5) id).trans r5, (f.cell (p := ⟨b2, o2 + k * 3, none⟩) hb2 id).trans d0, (f.cell (p := ⟨b2, o2 + k * 3 + 1, none⟩) hb2 id).trans d1, (f.cell (p := ⟨b2, o2 + k * 3 + 2, none⟩) hb2 id).trans d2⟩
                have HTQ : Hid (∀ (k id x : Nat) W, Fr NoF wr W → Calls Tryd.prog 8 #[.agg #[.int .i64 k, .int .u32 id, .int .u64 x]] W fun e w' => e = .returned (.agg #[.int .i64 k, .int .u32 id, .int .u64 x]) ∧ Fr NoF wr w') := Lib.hid fun k id x W f => (HTO.out k id x W).mono fun e w' ⟨he, g⟩ => ⟨he, f.trans g (fun _ q => q.elim)⟩
                clear hf
                go_wp2_with fail
                go_region_held3 (fun W => W.cell? ⟨bS, 3, none⟩ = some (.slice (some ⟨cs, 0, none⟩) 3 3) ∧ W.cell? ⟨cs, i, none⟩ = some (.slice (some ⟨b1, o1, none⟩) os.length gc) ∧ W.cell? ⟨b1, o1 + k * 3, none⟩ = some (.int .i64 zk) ∧ W.cell? ⟨b1, o1 + k * 3 + 1, none⟩ = some (.int .u32 zi) ∧ W.cell? ⟨b1, o1 + k * 3 + 2, none⟩ = some (.int .u64 zv) ∧ W.cell? ⟨bW, 3, none⟩ = some (.slice (some ⟨cw, 0, none⟩) 3 3) ∧ W.cell? ⟨cw, i, none⟩ = some (.slice (some ⟨b2, o2, none⟩) os.length gd) ∧ W.cell? ⟨b2, o2 + k * 3, none⟩ = some (.int .i64 zk) ∧ W.cell? ⟨b2, o2 + k * 3 + 1, none⟩ = some (.int .u32 zi) ∧ W.cell? ⟨b2, o2 + k * 3 + 2, none⟩ = some (.int .u64 zv))
                  (exact KS.out _ (by repeat (first | exact Fr.refl NoF _ | exact HA.out | apply Fr.drew | apply Fr.drewN | apply Fr.alloc)))
                  (first | (go_at_call 8; (with_reducible refine (HTQ.out _ _ _ _ (by repeat (first | exact Fr.refl NoF _ | apply Fr.drew | apply Fr.drewN | apply Fr.alloc))).mono ?_); rintro e wa ⟨rfl, ha⟩; have HA := Lib.hid ha; clear ha))
                go_wp2
                go_roundw
                case rel => exact ⟨k + 1, by omega, by go_num, FD.out.trans HA.out (fun _ q => q.elim)⟩
                case measure => simp [intOf]; omega
              · obtain rfl : k = os.length := by omega
                have FD := Lib.hid hf
                clear hf hlk
                go_wp2
                go_roundw
                case rel => exact ⟨i + 1, by omega, by go_num, FD.out⟩
                case measure => simp [intOf]; omega
          · obtain rfl : i = 3 := by omega
            have FD := Lib.hid hf
            clear hf hlt
            go_wp2
            go_returns
            exact ⟨rfl, FZ.out.trans FD.out (fun _ q => q.elim)⟩
end Go.Proofs.YtaebogmgjimkfaaDoor
