/-
  QueueActs: whatever is done, one thing behind the other, all things are told in order: the walk. No condition.
-/
import Derived.Test.YtpebonpibhdfoaaQueP
import Derived.Test.YtpebonpibhdfoaaModu
import Derived.Deep.QuietTactic
import Derived.BigQuiet
namespace Go.Proofs.Ytpebonpibhdfoaa
open Go.RowKit Go.Maps
set_option linter.unusedVariables false

structure OpQ where
  k : Int
  x : Int
  a : Int
  b : Int
def opQ (k x a b : Int) : Nat → Value
  | 0 => .int .i64 k
  | 1 => .int .i64 x
  | 2 => .int .i64 a
  | _ => .int .i64 b
/-- A slice of things to be done, that came in. -/
def ArgP (w : World) (v : Value) (zs : List OpQ) : Prop :=
  ∃ a c, v = .slice a zs.length c ∧ zs.length ≤ c ∧ c ≤ maxLen ∧ (0 < zs.length → ∃ b off, a = some ⟨b, off, none⟩ ∧ b < w.heap.size ∧ ∀ (j : Nat) (z : OpQ), zs[j]? = some z →
    w.cell? ⟨b, off + j * 4, none⟩ = some (.int .i64 z.k) ∧ w.cell? ⟨b, off + j * 4 + 1, none⟩ = some (.int .i64 z.x) ∧ w.cell? ⟨b, off + j * 4 + 2, none⟩ = some (.int .i64 z.a) ∧ w.cell? ⟨b, off + j * 4 + 3, none⟩ = some (.int .i64 z.b)) ∧
    ∀ z ∈ zs, i64 z.x ∧ i64 z.a ∧ i64 z.b
theorem qt_first {w w' : World} {qb : Nat} (h : QN w w' qb (fun _ => False) 0) : QT w w' qb [] (.slice none 0 0) := by
  obtain ⟨F, h, hb, hf⟩ := h
  exact ⟨F, h.congr (fun t => by simp), hb, hf, SlC.nil _ _, fun b q => (by cases q), List.Pairwise.nil⟩

set_option maxRecDepth 100000 in
set_option maxHeartbeats 16000000 in
theorem queue_walk (v : Value) (zs : List OpQ) (w : World) (hv : ArgP w v zs) : Calls Try.prog 3 #[v] w fun e w' => e = .returned (.bool true) ∧ Fr NoF w w' := by
  obtain ⟨sa, sc, ev, q1, q2, hcells, hrng⟩ := hv
  subst ev
  unfold maxLen at q2
  have HCE := Lib.hid hcells
  have HRG := Lib.hid hrng
  clear hcells hrng
  go_enter Try.func3, Try.ntmps3
  go_wp2_with fail
  refine (qn_new _).mono ?_
  rintro e w1 ⟨qb, rfl, h1⟩
  have HQ1 := Lib.hid h1
  clear h1
  go_wp2_with fail
  refine (toldQ_calls _).mono ?_
  rintro e w2 ⟨rfl, f2⟩
  have HT0 := Lib.hid (qt_first (HQ1.out.fr0 f2))
  clear HQ1 f2
  go_wp2_with fail
  go_loopw [4, 5] (fun v i wr => ∃ j : Nat, j ≤ zs.length ∧ i = .int .i64 j ∧ j ≤ 150 ∧ ∃ l, QT w wr qb l v ∧ l.length ≤ j) (fun _ i _ => zs.length - (intOf i).toNat)
  case atStart => exact ⟨0, Nat.zero_le _, rfl, Nat.zero_le _, [], HT0.out, Nat.le_refl _⟩
  case round =>
    obtain ⟨j, hj, rfl, hj2, l, hT, hlj⟩ := hrel
    have HT := Lib.hid hT
    have HF0 := Lib.hid hT.f
    obtain ⟨va, vc, rfl, v1, v2⟩ := hT.il.shape
    clear hT HT0
    by_cases hlt : j < zs.length
    · by_cases h150 : j < 150
      · obtain ⟨xb, xo, rfl, hxb, hcell⟩ := HCE.out (by omega)
        obtain ⟨cz0, cz1, cz2, cz3⟩ := hcell j zs[j] (List.getElem?_eq_getElem hlt)
        have HU := Lib.hid (HRG.out zs[j] (List.getElem_mem hlt))
        rw [← HF0.out.cell (p := ⟨xb, xo + j * 4, none⟩) hxb id] at cz0
        rw [← HF0.out.cell (p := ⟨xb, xo + j * 4 + 1, none⟩) hxb id] at cz1
        rw [← HF0.out.cell (p := ⟨xb, xo + j * 4 + 2, none⟩) hxb id] at cz2
        rw [← HF0.out.cell (p := ⟨xb, xo + j * 4 + 3, none⟩) hxb id] at cz3
        generalize zs[j] = z at cz0 cz1 cz2 cz3 HU
        obtain ⟨zk, zx, za, zb⟩ := z
        simp only at cz0 cz1 cz2 cz3 HU
        clear hcell
        obtain ⟨q, hq, ek⟩ := modu zk (k := 5) (by decide) (by decide)
        have hsz := HF0.out.size
        have HB : Hid (QB w (wr.alloc (.cells #[.int .i64 zk, .int .i64 zx, .int .i64 za, .int .i64 zb] 28)) qb l l (.slice va l.length vc) wr.heap.size (opQ zk zx za zb)) := HT.out.with (Blk.new _ _ _ 4 _ _ rfl rfl (fun i hi => by
          match i, hi with
          | 0, _ => rfl
          | 1, _ => rfl
          | 2, _ => rfl
          | 3, _ => rfl)) ((Fr.refl NoF wr).alloc _) (Nat.le_refl _)
        clear HT HF0
        cases l with
        | nil =>
          go_wp2_with fail
          generalize wr.alloc (.cells #[.int .i64 zk, .int .i64 zx, .int .i64 za, .int .i64 zb] 28) = wA at *
          generalize wr.heap.size = ob at *
          replace HB : Hid (QB w wA qb [] [] (.slice va 0 vc) ob (opQ zk zx za zb)) := HB
          (try rw [List.length_nil])
          refine HB.out.least_no.mono ?_
          rintro e w4 ⟨rfl, rfl⟩
          have o0 : wA.cell? ⟨ob, 0, none⟩ = some (.int .i64 zk) := HB.out.blk.cell (i := 0) (by omega)
          have o1 : wA.cell? ⟨ob, 1, none⟩ = some (.int .i64 zx) := HB.out.blk.cell (i := 1) (by omega)
          have o2 : wA.cell? ⟨ob, 2, none⟩ = some (.int .i64 za) := HB.out.blk.cell (i := 2) (by omega)
          have o3 : wA.cell? ⟨ob, 3, none⟩ = some (.int .i64 zb) := HB.out.blk.cell (i := 3) (by omega)
          have ol : ob < wA.heap.size := HB.out.blk.lt
          match q, hq, ek with
          | 0, _, ek => as_aux_lemma =>
            have ek' : wrap64 ((IntKind.u64.wrap zk).tmod 5) = 0 := ek
            clear ek
            have PU : Hid (Calls Try.prog 7 #[.pointer (some ⟨qb, 0, none⟩), .int .i64 zx, .agg #[.int .i64 za, .int .i64 zb]] wA fun e w' => e = .returned (.tuple #[]) ∧ QB w w' qb (putT [] ⟨zx, za, zb⟩) [] _ ob (opQ zk zx za zb)) := HB.out.put (t := ⟨zx, za, zb⟩) HU.out (by simp)
            have hl2 := Nat.le_trans (putT_len (l := []) ⟨zx, za, zb⟩) (Nat.add_le_add_right hlj 1)
            clear HB
            go_wp2_with fail
            refine PU.out.mono ?_
            clear PU o0 o1 o2 o3 ol
            rintro e w5 ⟨rfl, h5⟩
            have H5 := Lib.hid h5
            clear h5
            have o1 : w5.cell? ⟨ob, 1, none⟩ = some (.int .i64 zx) := H5.out.blk.cell (i := 1) (by omega)
            have o2 : w5.cell? ⟨ob, 2, none⟩ = some (.int .i64 za) := H5.out.blk.cell (i := 2) (by omega)
            have o3 : w5.cell? ⟨ob, 3, none⟩ = some (.int .i64 zb) := H5.out.blk.cell (i := 3) (by omega)
            have ol : ob < w5.heap.size := H5.out.blk.lt
            have RP : Hid (Calls Try.prog 8 #[_, .agg #[.int .i64 zx, .int .i64 za, .int .i64 zb]] w5 _) := H5.out.rput (by simp) ⟨zx, za, zb⟩
            clear H5
            go_wp2_with fail
            refine RP.out.mono ?_
            clear RP o1 o2 o3 ol
            rintro e w6 ⟨v6, rfl, h6⟩
            have H6 := Lib.hid h6
            clear h6
            generalize putT [] ⟨zx, za, zb⟩ = l2 at *
            have HA := Lib.hid H6.out.all
            obtain ⟨a6, c6, rfl, g1, g2⟩ := H6.out.il.shape
            clear H6
            go_wp2_with fail
            refine HA.out.mono ?_
            clear HA
            rintro e w7 ⟨av, rfl, h7⟩
            have H7 := Lib.hid h7
            obtain ⟨a7, c7, rfl, d1, d2⟩ := h7.al.shape
            unfold maxLen at d2
            have LE := Lib.hid h7.len
            clear h7
            go_wp2_with fail
            refine LE.out.mono ?_
            clear LE
            rintro e w8 ⟨rfl, rfl⟩
            go_wp2_with fail
            go_hide hQ
            go_loopw [12] (fun i wq => ∃ k : Nat, k ≤ l2.length ∧ i = .int .i64 k ∧ QA w wq qb l2 (.slice a6 l2.length c6) (.slice a7 l2.length c7)) (fun i _ => l2.length - (intOf i).toNat)
            case atStart => exact ⟨0, Nat.zero_le _, rfl, H7.out⟩
            case round =>
              obtain ⟨k, hk, rfl, h8⟩ := hrel
              have H8 := Lib.hid h8
              clear H7
              by_cases hlk : k < l2.length
              · obtain ⟨b, off, c, ev, bl, _, _, _⟩ := h8.il.at hlk
                simp only [Value.slice.injEq] at ev
                obtain ⟨rfl, _, rfl⟩ := ev
                obtain ⟨ab, ao, ac, ev2, _, _, abl, hac⟩ := SlC.at h8.al hlk (by omega)
                simp only [Value.slice.injEq] at ev2
                obtain ⟨rfl, _, rfl⟩ := ev2
                have y4 : wr.cell? ⟨ab, ao + k, none⟩ = some (.int .i64 l2[k].x) := hac k _ (by simp [hlk])
                have OF := Lib.hid (h8.of (List.getElem_mem hlk))
                have HCL : Hid (∀ W, Fr NoF wr W → W.cell? ⟨b, off + k * 3, none⟩ = some (.int .i64 l2[k].x) ∧ W.cell? ⟨b, off + k * 3 + 1, none⟩ = some (.int .i64 l2[k].a) ∧ W.cell? ⟨b, off + k * 3 + 2, none⟩ = some (.int .i64 l2[k].b) ∧ b < W.heap.size ∧ W.cell? ⟨ab, ao + k, none⟩ = some (.int .i64 l2[k].x) ∧ ab < W.heap.size) := by
                  intro W f
                  obtain ⟨b', off', c', ev', q1', z0, z1, z2⟩ := (H8.out.fr0 f).il.at hlk
                  simp only [Value.slice.injEq, Option.some.injEq, Addr.mk.injEq] at ev'
                  obtain ⟨⟨rfl, rfl, _⟩, _, _⟩ := ev'
                  exact ⟨z0, z1, z2, q1', by rw [f.cell (p := ⟨ab, ao + k, none⟩) abl id]; exact y4, Nat.lt_of_lt_of_le abl f.size⟩
                clear h8 hac y4 bl abl
                generalize l2[k] = t at *
                obtain ⟨tx, ta, tb⟩ := t
                simp only at HCL OF
                obtain ⟨y0, y1, y2, y3, y4, y5⟩ := HCL.out _ (Fr.refl NoF wr)
                go_wp2_with fail
                refine OF.out.mono ?_
                clear OF y0 y1 y2 y3 y4 y5
                rintro e w9 ⟨rfl, f9⟩
                have HF9 := Lib.hid f9
                clear f9
                obtain ⟨y0, y1, y2, y3, y4, y5⟩ := HCL.out _ (HF9.out)
                go_wp2
                go_quiet (fail)
                go_wp2
                go_roundw
                case rel => exact ⟨k + 1, by omega, by go_num, H8.out.fr0 (HF9.out.trans (G := NoF) (by repeat (first | exact Fr.refl NoF _ | apply Fr.drewN | apply Fr.drew | apply Fr.alloc)) (fun _ q => q.elim))⟩
                case measure => simp [intOf]; omega
              · obtain rfl : k = l2.length := by omega
                clear h8 hlk
                go_wp2
                subst hQ
                go_wp2
                go_roundw
                case rel => exact ⟨j + 1, by omega, by go_num, by omega, l2, H8.out.t, hl2⟩
                case measure => simp [intOf]; omega
          | 1, _, ek => as_aux_lemma =>
            have ek' : wrap64 ((IntKind.u64.wrap zk).tmod 5) = 1 := ek
            clear ek
            have PU : Hid (Calls Try.prog 7 #[.pointer (some ⟨qb, 0, none⟩), .int .i64 zx, .agg #[.int .i64 za, .int .i64 zb]] wA fun e w' => e = .returned (.tuple #[]) ∧ QB w w' qb (putT [] ⟨zx, za, zb⟩) [] _ ob (opQ zk zx za zb)) := HB.out.put (t := ⟨zx, za, zb⟩) HU.out (by simp)
            have hl2 := Nat.le_trans (putT_len (l := []) ⟨zx, za, zb⟩) (Nat.add_le_add_right hlj 1)
            clear HB
            go_wp2_with fail
            refine PU.out.mono ?_
            clear PU o0 o1 o2 o3 ol
            rintro e w5 ⟨rfl, h5⟩
            have H5 := Lib.hid h5
            clear h5
            have o1 : w5.cell? ⟨ob, 1, none⟩ = some (.int .i64 zx) := H5.out.blk.cell (i := 1) (by omega)
            have o2 : w5.cell? ⟨ob, 2, none⟩ = some (.int .i64 za) := H5.out.blk.cell (i := 2) (by omega)
            have o3 : w5.cell? ⟨ob, 3, none⟩ = some (.int .i64 zb) := H5.out.blk.cell (i := 3) (by omega)
            have ol : ob < w5.heap.size := H5.out.blk.lt
            have RP : Hid (Calls Try.prog 8 #[_, .agg #[.int .i64 zx, .int .i64 za, .int .i64 zb]] w5 _) := H5.out.rput (by simp) ⟨zx, za, zb⟩
            clear H5
            go_wp2_with fail
            refine RP.out.mono ?_
            clear RP o1 o2 o3 ol
            rintro e w6 ⟨v6, rfl, h6⟩
            have H6 := Lib.hid h6
            clear h6
            generalize putT [] ⟨zx, za, zb⟩ = l2 at *
            have HA := Lib.hid H6.out.all
            obtain ⟨a6, c6, rfl, g1, g2⟩ := H6.out.il.shape
            clear H6
            go_wp2_with fail
            refine HA.out.mono ?_
            clear HA
            rintro e w7 ⟨av, rfl, h7⟩
            have H7 := Lib.hid h7
            obtain ⟨a7, c7, rfl, d1, d2⟩ := h7.al.shape
            unfold maxLen at d2
            have LE := Lib.hid h7.len
            clear h7
            go_wp2_with fail
            refine LE.out.mono ?_
            clear LE
            rintro e w8 ⟨rfl, rfl⟩
            go_wp2_with fail
            go_hide hQ
            go_loopw [12] (fun i wq => ∃ k : Nat, k ≤ l2.length ∧ i = .int .i64 k ∧ QA w wq qb l2 (.slice a6 l2.length c6) (.slice a7 l2.length c7)) (fun i _ => l2.length - (intOf i).toNat)
            case atStart => exact ⟨0, Nat.zero_le _, rfl, H7.out⟩
            case round =>
              obtain ⟨k, hk, rfl, h8⟩ := hrel
              have H8 := Lib.hid h8
              clear H7
              by_cases hlk : k < l2.length
              · obtain ⟨b, off, c, ev, bl, _, _, _⟩ := h8.il.at hlk
                simp only [Value.slice.injEq] at ev
                obtain ⟨rfl, _, rfl⟩ := ev
                obtain ⟨ab, ao, ac, ev2, _, _, abl, hac⟩ := SlC.at h8.al hlk (by omega)
                simp only [Value.slice.injEq] at ev2
                obtain ⟨rfl, _, rfl⟩ := ev2
                have y4 : wr.cell? ⟨ab, ao + k, none⟩ = some (.int .i64 l2[k].x) := hac k _ (by simp [hlk])
                have OF := Lib.hid (h8.of (List.getElem_mem hlk))
                have HCL : Hid (∀ W, Fr NoF wr W → W.cell? ⟨b, off + k * 3, none⟩ = some (.int .i64 l2[k].x) ∧ W.cell? ⟨b, off + k * 3 + 1, none⟩ = some (.int .i64 l2[k].a) ∧ W.cell? ⟨b, off + k * 3 + 2, none⟩ = some (.int .i64 l2[k].b) ∧ b < W.heap.size ∧ W.cell? ⟨ab, ao + k, none⟩ = some (.int .i64 l2[k].x) ∧ ab < W.heap.size) := by
                  intro W f
                  obtain ⟨b', off', c', ev', q1', z0, z1, z2⟩ := (H8.out.fr0 f).il.at hlk
                  simp only [Value.slice.injEq, Option.some.injEq, Addr.mk.injEq] at ev'
                  obtain ⟨⟨rfl, rfl, _⟩, _, _⟩ := ev'
                  exact ⟨z0, z1, z2, q1', by rw [f.cell (p := ⟨ab, ao + k, none⟩) abl id]; exact y4, Nat.lt_of_lt_of_le abl f.size⟩
                clear h8 hac y4 bl abl
                generalize l2[k] = t at *
                obtain ⟨tx, ta, tb⟩ := t
                simp only at HCL OF
                obtain ⟨y0, y1, y2, y3, y4, y5⟩ := HCL.out _ (Fr.refl NoF wr)
                go_wp2_with fail
                refine OF.out.mono ?_
                clear OF y0 y1 y2 y3 y4 y5
                rintro e w9 ⟨rfl, f9⟩
                have HF9 := Lib.hid f9
                clear f9
                obtain ⟨y0, y1, y2, y3, y4, y5⟩ := HCL.out _ (HF9.out)
                go_wp2
                go_quiet (fail)
                go_wp2
                go_roundw
                case rel => exact ⟨k + 1, by omega, by go_num, H8.out.fr0 (HF9.out.trans (G := NoF) (by repeat (first | exact Fr.refl NoF _ | apply Fr.drewN | apply Fr.drew | apply Fr.alloc)) (fun _ q => q.elim))⟩
                case measure => simp [intOf]; omega
              · obtain rfl : k = l2.length := by omega
                clear h8 hlk
                go_wp2
                subst hQ
                go_wp2
                go_roundw
                case rel => exact ⟨j + 1, by omega, by go_num, by omega, l2, H8.out.t, hl2⟩
                case measure => simp [intOf]; omega
          | 2, _, ek => as_aux_lemma =>
            have ek' : wrap64 ((IntKind.u64.wrap zk).tmod 5) = 2 := ek
            clear ek
            have PU : Hid (Calls Try.prog 7 #[.pointer (some ⟨qb, 0, none⟩), .int .i64 zx, .agg #[.int .i64 za, .int .i64 zb]] wA fun e w' => e = .returned (.tuple #[]) ∧ QB w w' qb (putT [] ⟨zx, za, zb⟩) [] _ ob (opQ zk zx za zb)) := HB.out.put (t := ⟨zx, za, zb⟩) HU.out (by simp)
            have hl2 := Nat.le_trans (putT_len (l := []) ⟨zx, za, zb⟩) (Nat.add_le_add_right hlj 1)
            clear HB
            go_wp2_with fail
            refine PU.out.mono ?_
            clear PU o0 o1 o2 o3 ol
            rintro e w5 ⟨rfl, h5⟩
            have H5 := Lib.hid h5
            clear h5
            have o1 : w5.cell? ⟨ob, 1, none⟩ = some (.int .i64 zx) := H5.out.blk.cell (i := 1) (by omega)
            have o2 : w5.cell? ⟨ob, 2, none⟩ = some (.int .i64 za) := H5.out.blk.cell (i := 2) (by omega)
            have o3 : w5.cell? ⟨ob, 3, none⟩ = some (.int .i64 zb) := H5.out.blk.cell (i := 3) (by omega)
            have ol : ob < w5.heap.size := H5.out.blk.lt
            have RP : Hid (Calls Try.prog 8 #[_, .agg #[.int .i64 zx, .int .i64 za, .int .i64 zb]] w5 _) := H5.out.rput (by simp) ⟨zx, za, zb⟩
            clear H5
            go_wp2_with fail
            refine RP.out.mono ?_
            clear RP o1 o2 o3 ol
            rintro e w6 ⟨v6, rfl, h6⟩
            have H6 := Lib.hid h6
            clear h6
            generalize putT [] ⟨zx, za, zb⟩ = l2 at *
            have HA := Lib.hid H6.out.all
            obtain ⟨a6, c6, rfl, g1, g2⟩ := H6.out.il.shape
            clear H6
            go_wp2_with fail
            refine HA.out.mono ?_
            clear HA
            rintro e w7 ⟨av, rfl, h7⟩
            have H7 := Lib.hid h7
            obtain ⟨a7, c7, rfl, d1, d2⟩ := h7.al.shape
            unfold maxLen at d2
            have LE := Lib.hid h7.len
            clear h7
            go_wp2_with fail
            refine LE.out.mono ?_
            clear LE
            rintro e w8 ⟨rfl, rfl⟩
            go_wp2_with fail
            go_hide hQ
            go_loopw [12] (fun i wq => ∃ k : Nat, k ≤ l2.length ∧ i = .int .i64 k ∧ QA w wq qb l2 (.slice a6 l2.length c6) (.slice a7 l2.length c7)) (fun i _ => l2.length - (intOf i).toNat)
            case atStart => exact ⟨0, Nat.zero_le _, rfl, H7.out⟩
            case round =>
              obtain ⟨k, hk, rfl, h8⟩ := hrel
              have H8 := Lib.hid h8
              clear H7
              by_cases hlk : k < l2.length
              · obtain ⟨b, off, c, ev, bl, _, _, _⟩ := h8.il.at hlk
                simp only [Value.slice.injEq] at ev
                obtain ⟨rfl, _, rfl⟩ := ev
                obtain ⟨ab, ao, ac, ev2, _, _, abl, hac⟩ := SlC.at h8.al hlk (by omega)
                simp only [Value.slice.injEq] at ev2
                obtain ⟨rfl, _, rfl⟩ := ev2
                have y4 : wr.cell? ⟨ab, ao + k, none⟩ = some (.int .i64 l2[k].x) := hac k _ (by simp [hlk])
                have OF := Lib.hid (h8.of (List.getElem_mem hlk))
                have HCL : Hid (∀ W, Fr NoF wr W → W.cell? ⟨b, off + k * 3, none⟩ = some (.int .i64 l2[k].x) ∧ W.cell? ⟨b, off + k * 3 + 1, none⟩ = some (.int .i64 l2[k].a) ∧ W.cell? ⟨b, off + k * 3 + 2, none⟩ = some (.int .i64 l2[k].b) ∧ b < W.heap.size ∧ W.cell? ⟨ab, ao + k, none⟩ = some (.int .i64 l2[k].x) ∧ ab < W.heap.size) := by
                  intro W f
                  obtain ⟨b', off', c', ev', q1', z0, z1, z2⟩ := (H8.out.fr0 f).il.at hlk
                  simp only [Value.slice.injEq, Option.some.injEq, Addr.mk.injEq] at ev'
                  obtain ⟨⟨rfl, rfl, _⟩, _, _⟩ := ev'
                  exact ⟨z0, z1, z2, q1', by rw [f.cell (p := ⟨ab, ao + k, none⟩) abl id]; exact y4, Nat.lt_of_lt_of_le abl f.size⟩
                clear h8 hac y4 bl abl
                generalize l2[k] = t at *
                obtain ⟨tx, ta, tb⟩ := t
                simp only at HCL OF
                obtain ⟨y0, y1, y2, y3, y4, y5⟩ := HCL.out _ (Fr.refl NoF wr)
                go_wp2_with fail
                refine OF.out.mono ?_
                clear OF y0 y1 y2 y3 y4 y5
                rintro e w9 ⟨rfl, f9⟩
                have HF9 := Lib.hid f9
                clear f9
                obtain ⟨y0, y1, y2, y3, y4, y5⟩ := HCL.out _ (HF9.out)
                go_wp2
                go_quiet (fail)
                go_wp2
                go_roundw
                case rel => exact ⟨k + 1, by omega, by go_num, H8.out.fr0 (HF9.out.trans (G := NoF) (by repeat (first | exact Fr.refl NoF _ | apply Fr.drewN | apply Fr.drew | apply Fr.alloc)) (fun _ q => q.elim))⟩
                case measure => simp [intOf]; omega
              · obtain rfl : k = l2.length := by omega
                clear h8 hlk
                go_wp2
                subst hQ
                go_wp2
                go_roundw
                case rel => exact ⟨j + 1, by omega, by go_num, by omega, l2, H8.out.t, hl2⟩
                case measure => simp [intOf]; omega
          | 3, _, ek => as_aux_lemma =>
            have ek' : wrap64 ((IntKind.u64.wrap zk).tmod 5) = 3 := ek
            clear ek
            have RD := Lib.hid (HB.out.rdrop (by simp) zx)
            have hl2 := Nat.le_trans (dropT_len [] zx) (Nat.le_trans hlj (Nat.le_succ j))
            clear HB
            generalize hbd : decide ((dropT [] zx).length < ([] : List Th).length) = bd at RD
            have HBD := Lib.hid hbd
            clear hbd
            go_wp2_with fail
            refine RD.out.mono ?_
            clear RD o0 o1 o2 o3 ol
            rintro e w5 ⟨v5, rfl, h5⟩
            have H5 := Lib.hid h5
            clear h5
            have o1 : w5.cell? ⟨ob, 1, none⟩ = some (.int .i64 zx) := H5.out.blk.cell (i := 1) (by omega)
            have ol : ob < w5.heap.size := H5.out.blk.lt
            have DR := Lib.hid (H5.out.drop HU.out.1)
            rw [HBD.out] at DR
            clear H5 HBD
            go_wp2_with fail
            refine DR.out.mono ?_
            clear DR o1 ol
            rintro e w6 ⟨rfl, h6⟩
            have H6 := Lib.hid h6
            clear h6
            generalize dropT [] zx = l2 at *
            obtain ⟨a6, c6, rfl, g1, g2⟩ := H6.out.il.shape
            have HA := Lib.hid H6.out.all
            clear H6
            go_wp2_with fail
            refine HA.out.mono ?_
            clear HA
            rintro e w7 ⟨av, rfl, h7⟩
            have H7 := Lib.hid h7
            obtain ⟨a7, c7, rfl, d1, d2⟩ := h7.al.shape
            unfold maxLen at d2
            have LE := Lib.hid h7.len
            clear h7
            go_wp2_with fail
            refine LE.out.mono ?_
            clear LE
            rintro e w8 ⟨rfl, rfl⟩
            go_wp2_with fail
            go_hide hQ
            go_loopw [12] (fun i wq => ∃ k : Nat, k ≤ l2.length ∧ i = .int .i64 k ∧ QA w wq qb l2 (.slice a6 l2.length c6) (.slice a7 l2.length c7)) (fun i _ => l2.length - (intOf i).toNat)
            case atStart => exact ⟨0, Nat.zero_le _, rfl, H7.out⟩
            case round =>
              obtain ⟨k, hk, rfl, h8⟩ := hrel
              have H8 := Lib.hid h8
              clear H7
              by_cases hlk : k < l2.length
              · obtain ⟨b, off, c, ev, bl, _, _, _⟩ := h8.il.at hlk
                simp only [Value.slice.injEq] at ev
                obtain ⟨rfl, _, rfl⟩ := ev
                obtain ⟨ab, ao, ac, ev2, _, _, abl, hac⟩ := SlC.at h8.al hlk (by omega)
                simp only [Value.slice.injEq] at ev2
                obtain ⟨rfl, _, rfl⟩ := ev2
                have y4 : wr.cell? ⟨ab, ao + k, none⟩ = some (.int .i64 l2[k].x) := hac k _ (by simp [hlk])
                have OF := Lib.hid (h8.of (List.getElem_mem hlk))
                have HCL : Hid (∀ W, Fr NoF wr W → W.cell? ⟨b, off + k * 3, none⟩ = some (.int .i64 l2[k].x) ∧ W.cell? ⟨b, off + k * 3 + 1, none⟩ = some (.int .i64 l2[k].a) ∧ W.cell? ⟨b, off + k * 3 + 2, none⟩ = some (.int .i64 l2[k].b) ∧ b < W.heap.size ∧ W.cell? ⟨ab, ao + k, none⟩ = some (.int .i64 l2[k].x) ∧ ab < W.heap.size) := by
                  intro W f
                  obtain ⟨b', off', c', ev', q1', z0, z1, z2⟩ := (H8.out.fr0 f).il.at hlk
                  simp only [Value.slice.injEq, Option.some.injEq, Addr.mk.injEq] at ev'
                  obtain ⟨⟨rfl, rfl, _⟩, _, _⟩ := ev'
                  exact ⟨z0, z1, z2, q1', by rw [f.cell (p := ⟨ab, ao + k, none⟩) abl id]; exact y4, Nat.lt_of_lt_of_le abl f.size⟩
                clear h8 hac y4 bl abl
                generalize l2[k] = t at *
                obtain ⟨tx, ta, tb⟩ := t
                simp only at HCL OF
                obtain ⟨y0, y1, y2, y3, y4, y5⟩ := HCL.out _ (Fr.refl NoF wr)
                go_wp2_with fail
                refine OF.out.mono ?_
                clear OF y0 y1 y2 y3 y4 y5
                rintro e w9 ⟨rfl, f9⟩
                have HF9 := Lib.hid f9
                clear f9
                obtain ⟨y0, y1, y2, y3, y4, y5⟩ := HCL.out _ (HF9.out)
                go_wp2
                go_quiet (fail)
                go_wp2
                go_roundw
                case rel => exact ⟨k + 1, by omega, by go_num, H8.out.fr0 (HF9.out.trans (G := NoF) (by repeat (first | exact Fr.refl NoF _ | apply Fr.drewN | apply Fr.drew | apply Fr.alloc)) (fun _ q => q.elim))⟩
                case measure => simp [intOf]; omega
              · obtain rfl : k = l2.length := by omega
                clear h8 hlk
                go_wp2
                subst hQ
                go_wp2
                go_roundw
                case rel => exact ⟨j + 1, by omega, by go_num, by omega, l2, H8.out.t, hl2⟩
                case measure => simp [intOf]; omega
          | 4, _, ek => as_aux_lemma =>
            have ek' : wrap64 ((IntKind.u64.wrap zk).tmod 5) = 4 := ek
            clear ek
            have HA : Hid (Calls Try.prog 11 #[.pointer (some ⟨qb, 0, none⟩)] wA fun e w' => ∃ av, e = .returned av ∧ QA w w' qb [] (.slice va 0 vc) av) := HB.out.all
            clear HB
            go_wp2_with fail
            refine HA.out.mono ?_
            clear HA o0 o1 o2 o3 ol
            rintro e w7 ⟨av, rfl, h7⟩
            have H7 := Lib.hid h7
            obtain ⟨a7, c7, rfl, d1, d2⟩ := h7.al.shape
            unfold maxLen at d2
            have LE : Hid (Calls Try.prog 12 #[.pointer (some ⟨qb, 0, none⟩)] w7 fun e w' => e = .returned (.int .i64 0) ∧ w7 = w') := h7.len
            clear h7
            replace H7 : Hid (QA w w7 qb [] (.slice va 0 vc) (.slice a7 0 c7)) := H7
            (try rw [List.length_nil])
            go_wp2_with fail
            refine LE.out.mono ?_
            clear LE
            rintro e w8 ⟨rfl, rfl⟩
            go_wp2_with fail
            go_hide hQ
            go_loopw [12] (fun i wq => i = .int .i64 0 ∧ QA w wq qb [] (.slice va 0 vc) (.slice a7 0 c7)) (fun _ _ => 0)
            case atStart => exact ⟨rfl, H7.out⟩
            case round =>
              obtain ⟨rfl, h8⟩ := hrel
              have H8 := Lib.hid h8
              clear H7 h8
              go_wp2
              subst hQ
              go_wp2
              go_roundw
              case rel => exact ⟨j + 1, by omega, by go_num, by omega, [], H8.out.t, Nat.zero_le _⟩
              case measure => simp [intOf]; omega
        | cons u r =>
          go_wp2_with fail
          generalize wr.alloc (.cells #[.int .i64 zk, .int .i64 zx, .int .i64 za, .int .i64 zb] 28) = wA at *
          generalize wr.heap.size = ob at *
          obtain ⟨lb, lo, lcp, evl, lbl, ly0, _, _⟩ := HB.out.il.at (k := 0) (by simp)
          simp only [Value.slice.injEq] at evl
          obtain ⟨rfl, _, rfl⟩ := evl
          rw [Nat.zero_mul, Nat.add_zero] at ly0
          replace ly0 : wA.cell? ⟨lb, lo, none⟩ = some (.int .i64 u.x) := ly0
          rw [List.length_cons] at *
          refine HB.out.least_yes.mono ?_
          rintro e w4 ⟨rfl, rfl⟩
          have o0 : wA.cell? ⟨ob, 0, none⟩ = some (.int .i64 zk) := HB.out.blk.cell (i := 0) (by omega)
          have o1 : wA.cell? ⟨ob, 1, none⟩ = some (.int .i64 zx) := HB.out.blk.cell (i := 1) (by omega)
          have o2 : wA.cell? ⟨ob, 2, none⟩ = some (.int .i64 za) := HB.out.blk.cell (i := 2) (by omega)
          have o3 : wA.cell? ⟨ob, 3, none⟩ = some (.int .i64 zb) := HB.out.blk.cell (i := 3) (by omega)
          have ol : ob < wA.heap.size := HB.out.blk.lt
          match q, hq, ek with
          | 0, _, ek => as_aux_lemma =>
            have ek' : wrap64 ((IntKind.u64.wrap zk).tmod 5) = 0 := ek
            clear ek
            have PU : Hid (Calls Try.prog 7 #[.pointer (some ⟨qb, 0, none⟩), .int .i64 zx, .agg #[.int .i64 za, .int .i64 zb]] wA fun e w' => e = .returned (.tuple #[]) ∧ QB w w' qb (putT (u :: r) ⟨zx, za, zb⟩) (u :: r) _ ob (opQ zk zx za zb)) := HB.out.put (t := ⟨zx, za, zb⟩) HU.out (by rw [List.length_cons]; omega)
            have hl2 := Nat.le_trans (putT_len (l := (u :: r)) ⟨zx, za, zb⟩) (Nat.add_le_add_right hlj 1)
            clear HB
            go_wp2_with fail
            refine PU.out.mono ?_
            clear PU o0 o1 o2 o3 ol ly0
            rintro e w5 ⟨rfl, h5⟩
            have H5 := Lib.hid h5
            clear h5
            have o1 : w5.cell? ⟨ob, 1, none⟩ = some (.int .i64 zx) := H5.out.blk.cell (i := 1) (by omega)
            have o2 : w5.cell? ⟨ob, 2, none⟩ = some (.int .i64 za) := H5.out.blk.cell (i := 2) (by omega)
            have o3 : w5.cell? ⟨ob, 3, none⟩ = some (.int .i64 zb) := H5.out.blk.cell (i := 3) (by omega)
            have ol : ob < w5.heap.size := H5.out.blk.lt
            have RP : Hid (Calls Try.prog 8 #[_, .agg #[.int .i64 zx, .int .i64 za, .int .i64 zb]] w5 _) := H5.out.rput (by rw [List.length_cons]; omega) ⟨zx, za, zb⟩
            clear H5
            go_wp2_with fail
            refine RP.out.mono ?_
            clear RP o1 o2 o3 ol
            rintro e w6 ⟨v6, rfl, h6⟩
            have H6 := Lib.hid h6
            clear h6
            generalize putT (u :: r) ⟨zx, za, zb⟩ = l2 at *
            have HA := Lib.hid H6.out.all
            obtain ⟨a6, c6, rfl, g1, g2⟩ := H6.out.il.shape
            clear H6
            go_wp2_with fail
            refine HA.out.mono ?_
            clear HA
            rintro e w7 ⟨av, rfl, h7⟩
            have H7 := Lib.hid h7
            obtain ⟨a7, c7, rfl, d1, d2⟩ := h7.al.shape
            unfold maxLen at d2
            have LE := Lib.hid h7.len
            clear h7
            go_wp2_with fail
            refine LE.out.mono ?_
            clear LE
            rintro e w8 ⟨rfl, rfl⟩
            go_wp2_with fail
            go_hide hQ
            go_loopw [12] (fun i wq => ∃ k : Nat, k ≤ l2.length ∧ i = .int .i64 k ∧ QA w wq qb l2 (.slice a6 l2.length c6) (.slice a7 l2.length c7)) (fun i _ => l2.length - (intOf i).toNat)
            case atStart => exact ⟨0, Nat.zero_le _, rfl, H7.out⟩
            case round =>
              obtain ⟨k, hk, rfl, h8⟩ := hrel
              have H8 := Lib.hid h8
              clear H7
              by_cases hlk : k < l2.length
              · obtain ⟨b, off, c, ev, bl, _, _, _⟩ := h8.il.at hlk
                simp only [Value.slice.injEq] at ev
                obtain ⟨rfl, _, rfl⟩ := ev
                obtain ⟨ab, ao, ac, ev2, _, _, abl, hac⟩ := SlC.at h8.al hlk (by omega)
                simp only [Value.slice.injEq] at ev2
                obtain ⟨rfl, _, rfl⟩ := ev2
                have y4 : wr.cell? ⟨ab, ao + k, none⟩ = some (.int .i64 l2[k].x) := hac k _ (by simp [hlk])
                have OF := Lib.hid (h8.of (List.getElem_mem hlk))
                have HCL : Hid (∀ W, Fr NoF wr W → W.cell? ⟨b, off + k * 3, none⟩ = some (.int .i64 l2[k].x) ∧ W.cell? ⟨b, off + k * 3 + 1, none⟩ = some (.int .i64 l2[k].a) ∧ W.cell? ⟨b, off + k * 3 + 2, none⟩ = some (.int .i64 l2[k].b) ∧ b < W.heap.size ∧ W.cell? ⟨ab, ao + k, none⟩ = some (.int .i64 l2[k].x) ∧ ab < W.heap.size) := by
                  intro W f
                  obtain ⟨b', off', c', ev', q1', z0, z1, z2⟩ := (H8.out.fr0 f).il.at hlk
                  simp only [Value.slice.injEq, Option.some.injEq, Addr.mk.injEq] at ev'
                  obtain ⟨⟨rfl, rfl, _⟩, _, _⟩ := ev'
                  exact ⟨z0, z1, z2, q1', by rw [f.cell (p := ⟨ab, ao + k, none⟩) abl id]; exact y4, Nat.lt_of_lt_of_le abl f.size⟩
                clear h8 hac y4 bl abl
                generalize l2[k] = t at *
                obtain ⟨tx, ta, tb⟩ := t
                simp only at HCL OF
                obtain ⟨y0, y1, y2, y3, y4, y5⟩ := HCL.out _ (Fr.refl NoF wr)
                go_wp2_with fail
                refine OF.out.mono ?_
                clear OF y0 y1 y2 y3 y4 y5
                rintro e w9 ⟨rfl, f9⟩
                have HF9 := Lib.hid f9
                clear f9
                obtain ⟨y0, y1, y2, y3, y4, y5⟩ := HCL.out _ (HF9.out)
                go_wp2
                go_quiet (fail)
                go_wp2
                go_roundw
                case rel => exact ⟨k + 1, by omega, by go_num, H8.out.fr0 (HF9.out.trans (G := NoF) (by repeat (first | exact Fr.refl NoF _ | apply Fr.drewN | apply Fr.drew | apply Fr.alloc)) (fun _ q => q.elim))⟩
                case measure => simp [intOf]; omega
              · obtain rfl : k = l2.length := by omega
                clear h8 hlk
                go_wp2
                subst hQ
                go_wp2
                go_roundw
                case rel => exact ⟨j + 1, by omega, by go_num, by omega, l2, H8.out.t, hl2⟩
                case measure => simp [intOf]; omega
          | 1, _, ek => as_aux_lemma =>
            have ek' : wrap64 ((IntKind.u64.wrap zk).tmod 5) = 1 := ek
            clear ek
            have PU : Hid (Calls Try.prog 7 #[.pointer (some ⟨qb, 0, none⟩), .int .i64 zx, .agg #[.int .i64 za, .int .i64 zb]] wA fun e w' => e = .returned (.tuple #[]) ∧ QB w w' qb (putT (u :: r) ⟨zx, za, zb⟩) (u :: r) _ ob (opQ zk zx za zb)) := HB.out.put (t := ⟨zx, za, zb⟩) HU.out (by rw [List.length_cons]; omega)
            have hl2 := Nat.le_trans (putT_len (l := (u :: r)) ⟨zx, za, zb⟩) (Nat.add_le_add_right hlj 1)
            clear HB
            go_wp2_with fail
            refine PU.out.mono ?_
            clear PU o0 o1 o2 o3 ol ly0
            rintro e w5 ⟨rfl, h5⟩
            have H5 := Lib.hid h5
            clear h5
            have o1 : w5.cell? ⟨ob, 1, none⟩ = some (.int .i64 zx) := H5.out.blk.cell (i := 1) (by omega)
            have o2 : w5.cell? ⟨ob, 2, none⟩ = some (.int .i64 za) := H5.out.blk.cell (i := 2) (by omega)
            have o3 : w5.cell? ⟨ob, 3, none⟩ = some (.int .i64 zb) := H5.out.blk.cell (i := 3) (by omega)
            have ol : ob < w5.heap.size := H5.out.blk.lt
            have RP : Hid (Calls Try.prog 8 #[_, .agg #[.int .i64 zx, .int .i64 za, .int .i64 zb]] w5 _) := H5.out.rput (by rw [List.length_cons]; omega) ⟨zx, za, zb⟩
            clear H5
            go_wp2_with fail
            refine RP.out.mono ?_
            clear RP o1 o2 o3 ol
            rintro e w6 ⟨v6, rfl, h6⟩
            have H6 := Lib.hid h6
            clear h6
            generalize putT (u :: r) ⟨zx, za, zb⟩ = l2 at *
            have HA := Lib.hid H6.out.all
            obtain ⟨a6, c6, rfl, g1, g2⟩ := H6.out.il.shape
            clear H6
            go_wp2_with fail
            refine HA.out.mono ?_
            clear HA
            rintro e w7 ⟨av, rfl, h7⟩
            have H7 := Lib.hid h7
            obtain ⟨a7, c7, rfl, d1, d2⟩ := h7.al.shape
            unfold maxLen at d2
            have LE := Lib.hid h7.len
            clear h7
            go_wp2_with fail
            refine LE.out.mono ?_
            clear LE
            rintro e w8 ⟨rfl, rfl⟩
            go_wp2_with fail
            go_hide hQ
            go_loopw [12] (fun i wq => ∃ k : Nat, k ≤ l2.length ∧ i = .int .i64 k ∧ QA w wq qb l2 (.slice a6 l2.length c6) (.slice a7 l2.length c7)) (fun i _ => l2.length - (intOf i).toNat)
            case atStart => exact ⟨0, Nat.zero_le _, rfl, H7.out⟩
            case round =>
              obtain ⟨k, hk, rfl, h8⟩ := hrel
              have H8 := Lib.hid h8
              clear H7
              by_cases hlk : k < l2.length
              · obtain ⟨b, off, c, ev, bl, _, _, _⟩ := h8.il.at hlk
                simp only [Value.slice.injEq] at ev
                obtain ⟨rfl, _, rfl⟩ := ev
                obtain ⟨ab, ao, ac, ev2, _, _, abl, hac⟩ := SlC.at h8.al hlk (by omega)
                simp only [Value.slice.injEq] at ev2
                obtain ⟨rfl, _, rfl⟩ := ev2
                have y4 : wr.cell? ⟨ab, ao + k, none⟩ = some (.int .i64 l2[k].x) := hac k _ (by simp [hlk])
                have OF := Lib.hid (h8.of (List.getElem_mem hlk))
                have HCL : Hid (∀ W, Fr NoF wr W → W.cell? ⟨b, off + k * 3, none⟩ = some (.int .i64 l2[k].x) ∧ W.cell? ⟨b, off + k * 3 + 1, none⟩ = some (.int .i64 l2[k].a) ∧ W.cell? ⟨b, off + k * 3 + 2, none⟩ = some (.int .i64 l2[k].b) ∧ b < W.heap.size ∧ W.cell? ⟨ab, ao + k, none⟩ = some (.int .i64 l2[k].x) ∧ ab < W.heap.size) := by
                  intro W f
                  obtain ⟨b', off', c', ev', q1', z0, z1, z2⟩ := (H8.out.fr0 f).il.at hlk
                  simp only [Value.slice.injEq, Option.some.injEq, Addr.mk.injEq] at ev'
                  obtain ⟨⟨rfl, rfl, _⟩, _, _⟩ := ev'
                  exact ⟨z0, z1, z2, q1', by rw [f.cell (p := ⟨ab, ao + k, none⟩) abl id]; exact y4, Nat.lt_of_lt_of_le abl f.size⟩
                clear h8 hac y4 bl abl
                generalize l2[k] = t at *
                obtain ⟨tx, ta, tb⟩ := t
                simp only at HCL OF
                obtain ⟨y0, y1, y2, y3, y4, y5⟩ := HCL.out _ (Fr.refl NoF wr)
                go_wp2_with fail
                refine OF.out.mono ?_
                clear OF y0 y1 y2 y3 y4 y5
                rintro e w9 ⟨rfl, f9⟩
                have HF9 := Lib.hid f9
                clear f9
                obtain ⟨y0, y1, y2, y3, y4, y5⟩ := HCL.out _ (HF9.out)
                go_wp2
                go_quiet (fail)
                go_wp2
                go_roundw
                case rel => exact ⟨k + 1, by omega, by go_num, H8.out.fr0 (HF9.out.trans (G := NoF) (by repeat (first | exact Fr.refl NoF _ | apply Fr.drewN | apply Fr.drew | apply Fr.alloc)) (fun _ q => q.elim))⟩
                case measure => simp [intOf]; omega
              · obtain rfl : k = l2.length := by omega
                clear h8 hlk
                go_wp2
                subst hQ
                go_wp2
                go_roundw
                case rel => exact ⟨j + 1, by omega, by go_num, by omega, l2, H8.out.t, hl2⟩
                case measure => simp [intOf]; omega
          | 2, _, ek => as_aux_lemma =>
            have ek' : wrap64 ((IntKind.u64.wrap zk).tmod 5) = 2 := ek
            clear ek
            have PU : Hid (Calls Try.prog 7 #[.pointer (some ⟨qb, 0, none⟩), .int .i64 zx, .agg #[.int .i64 za, .int .i64 zb]] wA fun e w' => e = .returned (.tuple #[]) ∧ QB w w' qb (putT (u :: r) ⟨zx, za, zb⟩) (u :: r) _ ob (opQ zk zx za zb)) := HB.out.put (t := ⟨zx, za, zb⟩) HU.out (by rw [List.length_cons]; omega)
            have hl2 := Nat.le_trans (putT_len (l := (u :: r)) ⟨zx, za, zb⟩) (Nat.add_le_add_right hlj 1)
            clear HB
            go_wp2_with fail
            refine PU.out.mono ?_
            clear PU o0 o1 o2 o3 ol ly0
            rintro e w5 ⟨rfl, h5⟩
            have H5 := Lib.hid h5
            clear h5
            have o1 : w5.cell? ⟨ob, 1, none⟩ = some (.int .i64 zx) := H5.out.blk.cell (i := 1) (by omega)
            have o2 : w5.cell? ⟨ob, 2, none⟩ = some (.int .i64 za) := H5.out.blk.cell (i := 2) (by omega)
            have o3 : w5.cell? ⟨ob, 3, none⟩ = some (.int .i64 zb) := H5.out.blk.cell (i := 3) (by omega)
            have ol : ob < w5.heap.size := H5.out.blk.lt
            have RP : Hid (Calls Try.prog 8 #[_, .agg #[.int .i64 zx, .int .i64 za, .int .i64 zb]] w5 _) := H5.out.rput (by rw [List.length_cons]; omega) ⟨zx, za, zb⟩
            clear H5
            go_wp2_with fail
            refine RP.out.mono ?_
            clear RP o1 o2 o3 ol
            rintro e w6 ⟨v6, rfl, h6⟩
            have H6 := Lib.hid h6
            clear h6
            generalize putT (u :: r) ⟨zx, za, zb⟩ = l2 at *
            have HA := Lib.hid H6.out.all
            obtain ⟨a6, c6, rfl, g1, g2⟩ := H6.out.il.shape
            clear H6
            go_wp2_with fail
            refine HA.out.mono ?_
            clear HA
            rintro e w7 ⟨av, rfl, h7⟩
            have H7 := Lib.hid h7
            obtain ⟨a7, c7, rfl, d1, d2⟩ := h7.al.shape
            unfold maxLen at d2
            have LE := Lib.hid h7.len
            clear h7
            go_wp2_with fail
            refine LE.out.mono ?_
            clear LE
            rintro e w8 ⟨rfl, rfl⟩
            go_wp2_with fail
            go_hide hQ
            go_loopw [12] (fun i wq => ∃ k : Nat, k ≤ l2.length ∧ i = .int .i64 k ∧ QA w wq qb l2 (.slice a6 l2.length c6) (.slice a7 l2.length c7)) (fun i _ => l2.length - (intOf i).toNat)
            case atStart => exact ⟨0, Nat.zero_le _, rfl, H7.out⟩
            case round =>
              obtain ⟨k, hk, rfl, h8⟩ := hrel
              have H8 := Lib.hid h8
              clear H7
              by_cases hlk : k < l2.length
              · obtain ⟨b, off, c, ev, bl, _, _, _⟩ := h8.il.at hlk
                simp only [Value.slice.injEq] at ev
                obtain ⟨rfl, _, rfl⟩ := ev
                obtain ⟨ab, ao, ac, ev2, _, _, abl, hac⟩ := SlC.at h8.al hlk (by omega)
                simp only [Value.slice.injEq] at ev2
                obtain ⟨rfl, _, rfl⟩ := ev2
                have y4 : wr.cell? ⟨ab, ao + k, none⟩ = some (.int .i64 l2[k].x) := hac k _ (by simp [hlk])
                have OF := Lib.hid (h8.of (List.getElem_mem hlk))
                have HCL : Hid (∀ W, Fr NoF wr W → W.cell? ⟨b, off + k * 3, none⟩ = some (.int .i64 l2[k].x) ∧ W.cell? ⟨b, off + k * 3 + 1, none⟩ = some (.int .i64 l2[k].a) ∧ W.cell? ⟨b, off + k * 3 + 2, none⟩ = some (.int .i64 l2[k].b) ∧ b < W.heap.size ∧ W.cell? ⟨ab, ao + k, none⟩ = some (.int .i64 l2[k].x) ∧ ab < W.heap.size) := by
                  intro W f
                  obtain ⟨b', off', c', ev', q1', z0, z1, z2⟩ := (H8.out.fr0 f).il.at hlk
                  simp only [Value.slice.injEq, Option.some.injEq, Addr.mk.injEq] at ev'
                  obtain ⟨⟨rfl, rfl, _⟩, _, _⟩ := ev'
                  exact ⟨z0, z1, z2, q1', by rw [f.cell (p := ⟨ab, ao + k, none⟩) abl id]; exact y4, Nat.lt_of_lt_of_le abl f.size⟩
                clear h8 hac y4 bl abl
                generalize l2[k] = t at *
                obtain ⟨tx, ta, tb⟩ := t
                simp only at HCL OF
                obtain ⟨y0, y1, y2, y3, y4, y5⟩ := HCL.out _ (Fr.refl NoF wr)
                go_wp2_with fail
                refine OF.out.mono ?_
                clear OF y0 y1 y2 y3 y4 y5
                rintro e w9 ⟨rfl, f9⟩
                have HF9 := Lib.hid f9
                clear f9
                obtain ⟨y0, y1, y2, y3, y4, y5⟩ := HCL.out _ (HF9.out)
                go_wp2
                go_quiet (fail)
                go_wp2
                go_roundw
                case rel => exact ⟨k + 1, by omega, by go_num, H8.out.fr0 (HF9.out.trans (G := NoF) (by repeat (first | exact Fr.refl NoF _ | apply Fr.drewN | apply Fr.drew | apply Fr.alloc)) (fun _ q => q.elim))⟩
                case measure => simp [intOf]; omega
              · obtain rfl : k = l2.length := by omega
                clear h8 hlk
                go_wp2
                subst hQ
                go_wp2
                go_roundw
                case rel => exact ⟨j + 1, by omega, by go_num, by omega, l2, H8.out.t, hl2⟩
                case measure => simp [intOf]; omega
          | 3, _, ek => as_aux_lemma =>
            have ek' : wrap64 ((IntKind.u64.wrap zk).tmod 5) = 3 := ek
            clear ek
            have RD := Lib.hid (HB.out.rdrop (by rw [List.length_cons]; omega) zx)
            have hl2 := Nat.le_trans (dropT_len (u :: r) zx) (Nat.le_trans hlj (Nat.le_succ j))
            clear HB
            generalize hbd : decide ((dropT (u :: r) zx).length < ((u :: r) : List Th).length) = bd at RD
            have HBD := Lib.hid hbd
            clear hbd
            go_wp2_with fail
            refine RD.out.mono ?_
            clear RD o0 o1 o2 o3 ol ly0
            rintro e w5 ⟨v5, rfl, h5⟩
            have H5 := Lib.hid h5
            clear h5
            have o1 : w5.cell? ⟨ob, 1, none⟩ = some (.int .i64 zx) := H5.out.blk.cell (i := 1) (by omega)
            have ol : ob < w5.heap.size := H5.out.blk.lt
            have DR := Lib.hid (H5.out.drop HU.out.1)
            rw [HBD.out] at DR
            clear H5 HBD
            go_wp2_with fail
            refine DR.out.mono ?_
            clear DR o1 ol
            rintro e w6 ⟨rfl, h6⟩
            have H6 := Lib.hid h6
            clear h6
            generalize dropT (u :: r) zx = l2 at *
            obtain ⟨a6, c6, rfl, g1, g2⟩ := H6.out.il.shape
            have HA := Lib.hid H6.out.all
            clear H6
            go_wp2_with fail
            refine HA.out.mono ?_
            clear HA
            rintro e w7 ⟨av, rfl, h7⟩
            have H7 := Lib.hid h7
            obtain ⟨a7, c7, rfl, d1, d2⟩ := h7.al.shape
            unfold maxLen at d2
            have LE := Lib.hid h7.len
            clear h7
            go_wp2_with fail
            refine LE.out.mono ?_
            clear LE
            rintro e w8 ⟨rfl, rfl⟩
            go_wp2_with fail
            go_hide hQ
            go_loopw [12] (fun i wq => ∃ k : Nat, k ≤ l2.length ∧ i = .int .i64 k ∧ QA w wq qb l2 (.slice a6 l2.length c6) (.slice a7 l2.length c7)) (fun i _ => l2.length - (intOf i).toNat)
            case atStart => exact ⟨0, Nat.zero_le _, rfl, H7.out⟩
            case round =>
              obtain ⟨k, hk, rfl, h8⟩ := hrel
              have H8 := Lib.hid h8
              clear H7
              by_cases hlk : k < l2.length
              · obtain ⟨b, off, c, ev, bl, _, _, _⟩ := h8.il.at hlk
                simp only [Value.slice.injEq] at ev
                obtain ⟨rfl, _, rfl⟩ := ev
                obtain ⟨ab, ao, ac, ev2, _, _, abl, hac⟩ := SlC.at h8.al hlk (by omega)
                simp only [Value.slice.injEq] at ev2
                obtain ⟨rfl, _, rfl⟩ := ev2
                have y4 : wr.cell? ⟨ab, ao + k, none⟩ = some (.int .i64 l2[k].x) := hac k _ (by simp [hlk])
                have OF := Lib.hid (h8.of (List.getElem_mem hlk))
                have HCL : Hid (∀ W, Fr NoF wr W → W.cell? ⟨b, off + k * 3, none⟩ = some (.int .i64 l2[k].x) ∧ W.cell? ⟨b, off + k * 3 + 1, none⟩ = some (.int .i64 l2[k].a) ∧ W.cell? ⟨b, off + k * 3 + 2, none⟩ = some (.int .i64 l2[k].b) ∧ b < W.heap.size ∧ W.cell? ⟨ab, ao + k, none⟩ = some (.int .i64 l2[k].x) ∧ ab < W.heap.size) := by
                  intro W f
                  obtain ⟨b', off', c', ev', q1', z0, z1, z2⟩ := (H8.out.fr0 f).il.at hlk
                  simp only [Value.slice.injEq, Option.some.injEq, Addr.mk.injEq] at ev'
                  obtain ⟨⟨rfl, rfl, _⟩, _, _⟩ := ev'
                  exact ⟨z0, z1, z2, q1', by rw [f.cell (p := ⟨ab, ao + k, none⟩) abl id]; exact y4, Nat.lt_of_lt_of_le abl f.size⟩
                clear h8 hac y4 bl abl
                generalize l2[k] = t at *
                obtain ⟨tx, ta, tb⟩ := t
                simp only at HCL OF
                obtain ⟨y0, y1, y2, y3, y4, y5⟩ := HCL.out _ (Fr.refl NoF wr)
                go_wp2_with fail
                refine OF.out.mono ?_
                clear OF y0 y1 y2 y3 y4 y5
                rintro e w9 ⟨rfl, f9⟩
                have HF9 := Lib.hid f9
                clear f9
                obtain ⟨y0, y1, y2, y3, y4, y5⟩ := HCL.out _ (HF9.out)
                go_wp2
                go_quiet (fail)
                go_wp2
                go_roundw
                case rel => exact ⟨k + 1, by omega, by go_num, H8.out.fr0 (HF9.out.trans (G := NoF) (by repeat (first | exact Fr.refl NoF _ | apply Fr.drewN | apply Fr.drew | apply Fr.alloc)) (fun _ q => q.elim))⟩
                case measure => simp [intOf]; omega
              · obtain rfl : k = l2.length := by omega
                clear h8 hlk
                go_wp2
                subst hQ
                go_wp2
                go_roundw
                case rel => exact ⟨j + 1, by omega, by go_num, by omega, l2, H8.out.t, hl2⟩
                case measure => simp [intOf]; omega
          | 4, _, ek => as_aux_lemma =>
            have ek' : wrap64 ((IntKind.u64.wrap zk).tmod 5) = 4 := ek
            clear ek
            have DR := Lib.hid (HB.out.drop (HB.out.ok (List.mem_cons_self ..)).1)
            rw [dropT_head HB.out] at DR
            have hl2 : r.length ≤ j + 1 := by omega
            clear HB
            go_wp2_with fail
            refine DR.out.mono ?_
            clear DR o0 o1 o2 o3 ol ly0
            rintro e w6 ⟨rfl, h6⟩
            have H6 := Lib.hid h6
            clear h6
            obtain ⟨cu1, cu2⟩ := H6.out.cut
            clear H6
            by_cases hc1 : vc = 1
            · subst hc1
              obtain ⟨h9, rfl⟩ := cu1 rfl
              generalize hva : (some (⟨lb, lo, none⟩ : Addr)) = va at *
              have HA : Hid (Calls Try.prog 11 #[.pointer (some ⟨qb, 0, none⟩)] w6 fun e w' => ∃ av, e = .returned av ∧ QA w w' qb [] (.slice va 0 0) av) := h9.all
              clear h9 cu2 cu1
              subst hva
              go_wp2_with fail
              refine HA.out.mono ?_
              clear HA
              rintro e w7 ⟨av, rfl, h7⟩
              have H7 := Lib.hid h7
              obtain ⟨a7, c7, rfl, d1, d2⟩ := h7.al.shape
              unfold maxLen at d2
              have LE : Hid (Calls Try.prog 12 #[.pointer (some ⟨qb, 0, none⟩)] w7 fun e w' => e = .returned (.int .i64 0) ∧ w7 = w') := h7.len
              clear h7
              replace H7 : Hid (QA w w7 qb [] (.slice (some ⟨lb, lo, none⟩) 0 0) (.slice a7 0 c7)) := H7
              (try rw [List.length_nil])
              go_wp2_with fail
              refine LE.out.mono ?_
              clear LE
              rintro e w8 ⟨rfl, rfl⟩
              go_wp2_with fail
              go_hide hQ
              go_loopw [12] (fun i wq => i = .int .i64 0 ∧ QA w wq qb [] (.slice (some ⟨lb, lo, none⟩) 0 0) (.slice a7 0 c7)) (fun _ _ => 0)
              case atStart => exact ⟨rfl, H7.out⟩
              case round =>
                obtain ⟨rfl, h8⟩ := hrel
                have H8 := Lib.hid h8
                clear H7 h8
                go_wp2
                subst hQ
                go_wp2
                go_roundw
                case rel => exact ⟨j + 1, by omega, by go_num, by omega, [], H8.out.t, Nat.zero_le _⟩
                case measure => simp [intOf]; omega
            · have HA := Lib.hid (cu2 hc1).all
              clear cu2 cu1
              go_wp2_with fail
              generalize hA6 : (some (⟨lb, lo + 3, none⟩ : Addr)) = a6 at *
              generalize hC6 : vc - 1 = c6 at *
              clear hA6 hC6
              refine HA.out.mono ?_
              clear HA
              rintro e w7 ⟨av, rfl, h7⟩
              have H7 := Lib.hid h7
              obtain ⟨a7, c7, rfl, d1, d2⟩ := h7.al.shape
              unfold maxLen at d2
              have LE := Lib.hid h7.len
              clear h7
              go_wp2_with fail
              refine LE.out.mono ?_
              clear LE
              rintro e w8 ⟨rfl, rfl⟩
              go_wp2_with fail
              go_hide hQ
              go_loopw [12] (fun i wq => ∃ k : Nat, k ≤ r.length ∧ i = .int .i64 k ∧ QA w wq qb r (.slice a6 r.length c6) (.slice a7 r.length c7)) (fun i _ => r.length - (intOf i).toNat)
              case atStart => exact ⟨0, Nat.zero_le _, rfl, H7.out⟩
              case round =>
                obtain ⟨k, hk, rfl, h8⟩ := hrel
                have H8 := Lib.hid h8
                clear H7
                by_cases hlk : k < r.length
                · obtain ⟨b, off, c, ev, bl, _, _, _⟩ := h8.il.at hlk
                  simp only [Value.slice.injEq] at ev
                  obtain ⟨rfl, _, rfl⟩ := ev
                  obtain ⟨ab, ao, ac, ev2, _, _, abl, hac⟩ := SlC.at h8.al hlk (by omega)
                  simp only [Value.slice.injEq] at ev2
                  obtain ⟨rfl, _, rfl⟩ := ev2
                  have y4 : wr.cell? ⟨ab, ao + k, none⟩ = some (.int .i64 r[k].x) := hac k _ (by simp [hlk])
                  have OF := Lib.hid (h8.of (List.getElem_mem hlk))
                  have HCL : Hid (∀ W, Fr NoF wr W → W.cell? ⟨b, off + k * 3, none⟩ = some (.int .i64 r[k].x) ∧ W.cell? ⟨b, off + k * 3 + 1, none⟩ = some (.int .i64 r[k].a) ∧ W.cell? ⟨b, off + k * 3 + 2, none⟩ = some (.int .i64 r[k].b) ∧ b < W.heap.size ∧ W.cell? ⟨ab, ao + k, none⟩ = some (.int .i64 r[k].x) ∧ ab < W.heap.size) := by
                    intro W f
                    obtain ⟨b', off', c', ev', q1', z0, z1, z2⟩ := (H8.out.fr0 f).il.at hlk
                    simp only [Value.slice.injEq, Option.some.injEq, Addr.mk.injEq] at ev'
                    obtain ⟨⟨rfl, rfl, _⟩, _, _⟩ := ev'
                    exact ⟨z0, z1, z2, q1', by rw [f.cell (p := ⟨ab, ao + k, none⟩) abl id]; exact y4, Nat.lt_of_lt_of_le abl f.size⟩
                  clear h8 hac y4 bl abl
                  generalize r[k] = t at *
                  obtain ⟨tx, ta, tb⟩ := t
                  simp only at HCL OF
                  obtain ⟨y0, y1, y2, y3, y4, y5⟩ := HCL.out _ (Fr.refl NoF wr)
                  go_wp2_with fail
                  refine OF.out.mono ?_
                  clear OF y0 y1 y2 y3 y4 y5
                  rintro e w9 ⟨rfl, f9⟩
                  have HF9 := Lib.hid f9
                  clear f9
                  obtain ⟨y0, y1, y2, y3, y4, y5⟩ := HCL.out _ (HF9.out)
                  go_wp2
                  go_quiet (fail)
                  go_wp2
                  go_roundw
                  case rel => exact ⟨k + 1, by omega, by go_num, H8.out.fr0 (HF9.out.trans (G := NoF) (by repeat (first | exact Fr.refl NoF _ | apply Fr.drewN | apply Fr.drew | apply Fr.alloc)) (fun _ q => q.elim))⟩
                  case measure => simp [intOf]; omega
                · obtain rfl : k = r.length := by omega
                  clear h8 hlk
                  go_wp2
                  subst hQ
                  go_wp2
                  go_roundw
                  case rel => exact ⟨j + 1, by omega, by go_num, by omega, r, H8.out.t, hl2⟩
                  case measure => simp [intOf]; omega
      · obtain rfl : j = 150 := by omega
        clear HF0
        go_wp2_with fail
        refine (nil_put 1 0 0 _).mono ?_
        rintro e w4 ⟨rfl, f4⟩
        have HF4 := Lib.hid (HT.out.f.trans f4 (fun _ q => q.elim))
        clear f4 HT
        go_wp2_with fail
        refine (nil_least _).mono ?_
        rintro e w5 ⟨rfl, rfl⟩
        go_wp2_with fail
        refine (nil_of 1 _).mono ?_
        rintro e w5 ⟨rfl, f5⟩
        have HF5 := Lib.hid (HF4.out.trans f5 (fun _ q => q.elim))
        clear f5 HF4
        go_wp2_with (first
          | (go_at_call 10; (with_reducible refine (nil_drop 1 _).mono ?_); rintro e w6 ⟨rfl, rfl⟩)
          | (go_at_call 12; (with_reducible refine (nil_len _).mono ?_); rintro e w6 ⟨rfl, rfl⟩)
          | (go_at_call 11; (with_reducible refine (nil_all _).mono ?_); rintro e w6 ⟨rfl, rfl⟩))
        go_returns
        exact ⟨rfl, HF5.out.trans (G := NoF) (by repeat (first | exact Fr.refl NoF _ | apply Fr.drewN | apply Fr.drew | apply Fr.alloc)) (fun _ q => q.elim)⟩
    · obtain rfl : j = zs.length := by omega
      clear HF0 hlt
      go_wp2_with fail
      refine (nil_put 1 0 0 _).mono ?_
      rintro e w4 ⟨rfl, f4⟩
      have HF4 := Lib.hid (HT.out.f.trans f4 (fun _ q => q.elim))
      clear f4 HT
      go_wp2_with fail
      refine (nil_least _).mono ?_
      rintro e w5 ⟨rfl, rfl⟩
      go_wp2_with fail
      refine (nil_of 1 _).mono ?_
      rintro e w5 ⟨rfl, f5⟩
      have HF5 := Lib.hid (HF4.out.trans f5 (fun _ q => q.elim))
      clear f5 HF4
      go_wp2_with (first
        | (go_at_call 10; (with_reducible refine (nil_drop 1 _).mono ?_); rintro e w6 ⟨rfl, rfl⟩)
        | (go_at_call 12; (with_reducible refine (nil_len _).mono ?_); rintro e w6 ⟨rfl, rfl⟩)
        | (go_at_call 11; (with_reducible refine (nil_all _).mono ?_); rintro e w6 ⟨rfl, rfl⟩))
      go_returns
      exact ⟨rfl, HF5.out.trans (G := NoF) (by repeat (first | exact Fr.refl NoF _ | apply Fr.drewN | apply Fr.drew | apply Fr.alloc)) (fun _ q => q.elim)⟩
end Go.Proofs.Ytpebonpibhdfoaa
