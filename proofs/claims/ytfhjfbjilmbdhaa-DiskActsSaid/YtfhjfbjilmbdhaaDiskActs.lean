/-
  DiskActs: whatever is done, one thing behind the other, is answered as the document says: the walk. No condition.
-/
import Derived.Test.YtfhjfbjilmbdhaaDiskU
import Derived.Deep.RegionHeld3
namespace Go.Proofs.Ytfhjfbjilmbdhaa
open Go.RowKit Go.Maps
set_option linter.unusedVariables false

structure OpD where
  k : Int
  id : Nat
  v : Nat
  b : Bool
  t : Int
def opC (k : Int) (id v : Nat) (b : Bool) (t : Int) : Nat → Value
  | 0 => .int .i64 k
  | 1 => .int .u32 id
  | 2 => .int .u64 v
  | 3 => .bool b
  | _ => .int .i64 t
/-- A slice of things to be done, that came in. -/
def ArgD (w : World) (v : Value) (zs : List OpD) : Prop :=
  ∃ a c, v = .slice a zs.length c ∧ zs.length ≤ c ∧ c ≤ maxLen ∧ (0 < zs.length → ∃ b off, a = some ⟨b, off, none⟩ ∧ b < w.heap.size ∧ ∀ (j : Nat) (z : OpD), zs[j]? = some z →
    w.cell? ⟨b, off + j * 5, none⟩ = some (.int .i64 z.k) ∧ w.cell? ⟨b, off + j * 5 + 1, none⟩ = some (.int .u32 z.id) ∧ w.cell? ⟨b, off + j * 5 + 2, none⟩ = some (.int .u64 z.v) ∧ w.cell? ⟨b, off + j * 5 + 3, none⟩ = some (.bool z.b) ∧ w.cell? ⟨b, off + j * 5 + 4, none⟩ = some (.int .i64 z.t)) ∧
    ∀ z ∈ zs, isU32 z.id ∧ isU64 z.v ∧ isI63 z.t.toNat
theorem TwoB.lt {w0 w : World} {db rb m m' ob : Nat} {s : DS} {r : RS} {oc : Nat → Value} (h : TwoB w0 w db rb s r m m' ob oc) : ob < w.heap.size := by
  obtain ⟨c, pv, fv, mb, fh, nf, lv, nv, sv, h, hb, g1, g2⟩ := h
  exact hb.lt
theorem TwoE.f {w0 w : World} {db rb m m' : Nat} {s : DS} {r : RS} (h : TwoE w0 w db rb s r m m') : Fr NoF w0 w := by
  obtain ⟨c, pv, fv, mb, fh, nf, lv, nv, sv, h⟩ := h
  exact h.f

set_option maxRecDepth 100000 in
set_option maxHeartbeats 16000000 in
theorem disk_walk (a0 : Int) (v : Value) (zs : List OpD) (w : World) (hv : ArgD w v zs) : Calls Try.prog 3 #[.int .i64 a0, v] w fun e w' => e = .returned (.bool true) ∧ Fr NoF w w' := by
  obtain ⟨sa, sc, ev, q1, q2, hcells, hrng⟩ := hv
  subst ev
  unfold maxLen at q2
  have HCE := Lib.hid hcells
  have HRG := Lib.hid hrng
  clear hcells hrng
  obtain ⟨n, hn1, hn2, en⟩ := modu1 a0 (k := 8) (by decide) (by decide)
  have EN := Lib.hid en
  clear en
  go_enter Try.func3, Try.ntmps3
  go_wp2_with fail
  rw [EN.out]
  refine (dk_new_yes n w (by omega) (by omega)).mono ?_
  clear EN
  rintro e w1 ⟨db, pv, fv, mb, rfl, hd, hb, f1⟩
  have HD := Lib.hid hd
  have HB := Lib.hid hb
  have HF1 := Lib.hid f1
  clear hd hb f1
  go_wp2_with fail
  refine (toldD_calls _).mono ?_
  rintro e w2 ⟨rfl, f2⟩
  have HE0 := Lib.hid (tw_first HD.out HB.out HF1.out f2)
  clear HD HB HF1 f2
  go_wp2_with fail
  generalize w2.alloc (.cells #[.int .i64 n, .slice none 0 0, .slice none 0 0, .slice none 0 0, .int .i64 0, .int .i64 0, .bool false, .int .i64 0] 32) = w3 at *
  generalize w2.heap.size = rb at *
  go_loopw [9] (fun i wr => ∃ j : Nat, j ≤ zs.length ∧ i = .int .i64 j ∧ j ≤ 200 ∧ ∃ s r, TwoE w wr db rb s r j j ∧ DRel s r ∧ r.room = n) (fun i _ => zs.length - (intOf i).toNat)
  case atStart => exact ⟨0, Nat.zero_le _, rfl, Nat.zero_le _, _, _, HE0.out, dr0 n, rfl⟩
  case round =>
    obtain ⟨j, hj, rfl, hj2, s, r, hE, hR, hrn⟩ := hrel
    have HTE := Lib.hid hE
    have HRO := Lib.hid hR
    have HRN := Lib.hid hrn
    have HF0 := Lib.hid hE.f
    clear hE hR hrn HE0
    by_cases hlt : j < zs.length
    · by_cases h200 : j < 200
      · obtain ⟨xb, xo, rfl, hxb, hcell⟩ := HCE.out (by omega)
        obtain ⟨cz0, cz1, cz2, cz3, cz4⟩ := hcell j zs[j] (List.getElem?_eq_getElem hlt)
        have HU := Lib.hid (HRG.out zs[j] (List.getElem_mem hlt))
        rw [← HF0.out.cell (p := ⟨xb, xo + j * 5, none⟩) hxb id] at cz0
        rw [← HF0.out.cell (p := ⟨xb, xo + j * 5 + 1, none⟩) hxb id] at cz1
        rw [← HF0.out.cell (p := ⟨xb, xo + j * 5 + 2, none⟩) hxb id] at cz2
        rw [← HF0.out.cell (p := ⟨xb, xo + j * 5 + 3, none⟩) hxb id] at cz3
        rw [← HF0.out.cell (p := ⟨xb, xo + j * 5 + 4, none⟩) hxb id] at cz4
        generalize zs[j] = z at cz0 cz1 cz2 cz3 cz4 HU
        obtain ⟨zk, zi, zv, zb, zt⟩ := z
        simp only at cz0 cz1 cz2 cz3 cz4 HU
        clear hcell
        obtain ⟨q, hq, ek⟩ := modu zk (k := 7) (by decide) (by decide)
        have hsz := HF0.out.size
        have HB : Hid (TwoB w (wr.alloc (.cells #[.int .i64 zk, .int .u32 zi, .int .u64 zv, .bool zb, .int .i64 zt] 35)) db rb s r j j wr.heap.size (opC zk zi zv zb zt)) := HTE.out.with (Blk.new _ _ _ 5 _ _ rfl rfl (fun i hi => by
          match i, hi with
          | 0, _ => rfl
          | 1, _ => rfl
          | 2, _ => rfl
          | 3, _ => rfl
          | 4, _ => rfl)) ((Fr.refl NoF wr).alloc _) (Nat.le_refl _)
        clear HTE HF0
        match q, hq, ek with
        | 0, _, ek =>
          have ek' : wrap64 ((IntKind.u64.wrap zk).tmod 7) = 0 := ek
          obtain ⟨x, y, s', r', hp⟩ := two_alloc HB.out HRO.out (by rw [HRN.out]; omega)
          have HD := hp.1
          have HR := hp.2.1
          have RR := Lib.hid hp.2.2.1
          have HRM : Hid (r'.room = n) := by unfold Hid; rw [RR.out.room, hp.2.2.2, HRN.out]
          clear hp HRO HRN ek
          go_wp2_with fail
          refine (HD.out _ (Fr.refl NoF _)).mono ?_
          rintro e w4 ⟨rfl, h4⟩
          have H4 := Lib.hid h4
          have l4 : wr.heap.size < w4.heap.size := H4.out.lt
          clear h4 HD
          go_wp2_with fail
          refine (HR.out _ H4.out).mono ?_
          rintro e w5 ⟨rfl, h5⟩
          have H5 := Lib.hid h5
          clear h5 HR H4 l4
          have HE5 := Lib.hid H5.out.e
          clear H5
          go_wp2_with fail
          refine (tw_same HE5.out RR.out).mono ?_
          rintro e w6 ⟨rfl, f6⟩
          have HE6 := Lib.hid (HE5.out.fr0 f6)
          obtain ⟨la, ln, lc, cl, lb, hH⟩ := tw_holds HE6.out RR.out
          have HH := Lib.hid hH
          clear hH f6 HE5
          go_wp2_with fail
          refine HH.out.mono ?_
          rintro e w7 ⟨rfl, f7⟩
          have HE7 := Lib.hid (HE6.out.fr0 f7)
          clear cl lb f7 HH HE6
          go_wp2
          go_roundw
          case rel => exact ⟨j + 1, by omega, by go_num, by omega, _, _, HE7.out, RR.out, HRM.out⟩
          case measure => simp [intOf]; omega
        | 1, _, ek =>
          have ek' : wrap64 ((IntKind.u64.wrap zk).tmod 7) = 1 := ek
          obtain ⟨x, s', r', hp⟩ := two_free HB.out HRO.out HU.out.1
          have HD := hp.1
          have HR := hp.2.1
          have RR := Lib.hid hp.2.2.1
          have HRM : Hid (r'.room = n) := by unfold Hid; rw [RR.out.room, hp.2.2.2, HRN.out]
          clear hp HRO HRN ek
          have fA : Fr NoF wr (wr.alloc (.cells #[.int .i64 zk, .int .u32 zi, .int .u64 zv, .bool zb, .int .i64 zt] 35)) := (Fr.refl NoF wr).alloc _
          go_wp2_with fail
          go_region_held3 (fun w' => w'.cell? ⟨wr.heap.size, 1, none⟩ = some (.int .u32 zi))
            (first | exact H5.out.cell (by repeat (first | exact Fr.refl NoF _ | apply Fr.drew | apply Fr.drewN)) (by omega) | exact H4.out.cell (by repeat (first | exact Fr.refl NoF _ | apply Fr.drew | apply Fr.drewN)) (by omega) | exact HB.out.cell (by repeat (first | exact Fr.refl NoF _ | apply Fr.drew | apply Fr.drewN)) (by omega))
            (first
              | (go_at_call 9; (with_reducible refine (HD.out _ (by repeat (first | exact Fr.refl NoF _ | apply Fr.drew | apply Fr.drewN))).mono ?_); rintro e w4 ⟨rfl, h4⟩; have H4 := Lib.hid h4; clear h4)
              | (go_at_call 10; (with_reducible refine (HR.out _ (H4.out.fr0 (by repeat (first | exact Fr.refl NoF _ | apply Fr.drew | apply Fr.drewN)))).mono ?_); rintro e w5 ⟨rfl, h5⟩; have H5 := Lib.hid h5; clear h5))
          all_goals
            clear HD HR H4 fA
            have HE5 := Lib.hid H5.out.e
            clear H5
            go_wp2_with fail
            refine (tw_same HE5.out RR.out).mono ?_
            rintro e w6 ⟨rfl, f6⟩
            have HE6 := Lib.hid (HE5.out.fr0 f6)
            obtain ⟨la, ln, lc, cl, lb, hH⟩ := tw_holds HE6.out RR.out
            have HH := Lib.hid hH
            clear hH f6 HE5
            go_wp2_with fail
            refine HH.out.mono ?_
            rintro e w7 ⟨rfl, f7⟩
            have HE7 := Lib.hid (HE6.out.fr0 f7)
            clear cl lb f7 HH HE6
            go_wp2
            go_roundw
            case rel => exact ⟨j + 1, by omega, by go_num, by omega, _, _, HE7.out, RR.out, HRM.out⟩
            case measure => simp [intOf]; omega
        | 2, _, ek =>
          have ek' : wrap64 ((IntKind.u64.wrap zk).tmod 7) = 2 := ek
          obtain ⟨x, y, s', r', hp⟩ := two_read HB.out HRO.out (by omega) HU.out.1
          have HD := hp.1
          have HR := hp.2.1
          have RR := Lib.hid hp.2.2.1
          have HRM : Hid (r'.room = n) := by unfold Hid; rw [RR.out.room, hp.2.2.2, HRN.out]
          clear hp HRO HRN ek
          go_wp2_with fail
          refine (HD.out _ (Fr.refl NoF _)).mono ?_
          rintro e w4 ⟨rfl, h4⟩
          have H4 := Lib.hid h4
          have c41 : w4.cell? ⟨wr.heap.size, 1, none⟩ = some (.int .u32 zi) := H4.out.cell (Fr.refl NoF _) (by omega)
          have l4 : wr.heap.size < w4.heap.size := H4.out.lt
          clear h4 HD
          go_wp2_with fail
          refine (HR.out _ H4.out).mono ?_
          rintro e w5 ⟨rfl, h5⟩
          have H5 := Lib.hid h5
          clear h5 HR H4 c41 l4
          have HE5 := Lib.hid H5.out.e
          clear H5
          go_wp2_with fail
          refine (tw_same HE5.out RR.out).mono ?_
          rintro e w6 ⟨rfl, f6⟩
          have HE6 := Lib.hid (HE5.out.fr0 f6)
          obtain ⟨la, ln, lc, cl, lb, hH⟩ := tw_holds HE6.out RR.out
          have HH := Lib.hid hH
          clear hH f6 HE5
          go_wp2_with fail
          refine HH.out.mono ?_
          rintro e w7 ⟨rfl, f7⟩
          have HE7 := Lib.hid (HE6.out.fr0 f7)
          clear cl lb f7 HH HE6
          go_wp2
          go_roundw
          case rel => exact ⟨j + 1, by omega, by go_num, by omega, _, _, HE7.out, RR.out, HRM.out⟩
          case measure => simp [intOf]; omega
        | 3, _, ek =>
          have ek' : wrap64 ((IntKind.u64.wrap zk).tmod 7) = 3 := ek
          obtain ⟨x, s', r', hp⟩ := two_write HB.out HRO.out (by omega) HU.out.1 HU.out.2.1
          have HD := hp.1
          have HR := hp.2.1
          have RR := Lib.hid hp.2.2.1
          have HRM : Hid (r'.room = n) := by unfold Hid; rw [RR.out.room, hp.2.2.2, HRN.out]
          clear hp HRO HRN ek
          have fA : Fr NoF wr (wr.alloc (.cells #[.int .i64 zk, .int .u32 zi, .int .u64 zv, .bool zb, .int .i64 zt] 35)) := (Fr.refl NoF wr).alloc _
          go_wp2_with fail
          go_region_held3 (fun w' => w'.cell? ⟨wr.heap.size, 1, none⟩ = some (.int .u32 zi) ∧ w'.cell? ⟨wr.heap.size, 2, none⟩ = some (.int .u64 zv))
            (first | exact ⟨H5.out.cell (by repeat (first | exact Fr.refl NoF _ | apply Fr.drew | apply Fr.drewN)) (by omega), H5.out.cell (by repeat (first | exact Fr.refl NoF _ | apply Fr.drew | apply Fr.drewN)) (by omega)⟩ | exact ⟨H4.out.cell (by repeat (first | exact Fr.refl NoF _ | apply Fr.drew | apply Fr.drewN)) (by omega), H4.out.cell (by repeat (first | exact Fr.refl NoF _ | apply Fr.drew | apply Fr.drewN)) (by omega)⟩ | exact ⟨HB.out.cell (by repeat (first | exact Fr.refl NoF _ | apply Fr.drew | apply Fr.drewN)) (by omega), HB.out.cell (by repeat (first | exact Fr.refl NoF _ | apply Fr.drew | apply Fr.drewN)) (by omega)⟩)
            (first
              | (go_at_call 13; (with_reducible refine (HD.out _ (by repeat (first | exact Fr.refl NoF _ | apply Fr.drew | apply Fr.drewN))).mono ?_); rintro e w4 ⟨rfl, h4⟩; have H4 := Lib.hid h4; clear h4)
              | (go_at_call 14; (with_reducible refine (HR.out _ (H4.out.fr0 (by repeat (first | exact Fr.refl NoF _ | apply Fr.drew | apply Fr.drewN)))).mono ?_); rintro e w5 ⟨rfl, h5⟩; have H5 := Lib.hid h5; clear h5))
          all_goals
            clear HD HR H4 fA
            have HE5 := Lib.hid H5.out.e
            clear H5
            go_wp2_with fail
            refine (tw_same HE5.out RR.out).mono ?_
            rintro e w6 ⟨rfl, f6⟩
            have HE6 := Lib.hid (HE5.out.fr0 f6)
            obtain ⟨la, ln, lc, cl, lb, hH⟩ := tw_holds HE6.out RR.out
            have HH := Lib.hid hH
            clear hH f6 HE5
            go_wp2_with fail
            refine HH.out.mono ?_
            rintro e w7 ⟨rfl, f7⟩
            have HE7 := Lib.hid (HE6.out.fr0 f7)
            clear cl lb f7 HH HE6
            go_wp2
            go_roundw
            case rel => exact ⟨j + 1, by omega, by go_num, by omega, _, _, HE7.out, RR.out, HRM.out⟩
            case measure => simp [intOf]; omega
        | 4, _, ek =>
          have ek' : wrap64 ((IntKind.u64.wrap zk).tmod 7) = 4 := ek
          obtain ⟨s', r', hp⟩ := two_fail HB.out HRO.out (by omega) HU.out.1 zb zt HU.out.2.2
          have HD := hp.1
          have HR := hp.2.1
          have RR := Lib.hid hp.2.2.1
          have HRM : Hid (r'.room = n) := by unfold Hid; rw [RR.out.room, hp.2.2.2, HRN.out]
          clear hp HRO HRN ek
          go_wp2_with fail
          refine (HD.out _ (Fr.refl NoF _)).mono ?_
          rintro e w4 ⟨rfl, h4⟩
          have H4 := Lib.hid h4
          have c41 : w4.cell? ⟨wr.heap.size, 1, none⟩ = some (.int .u32 zi) := H4.out.cell (Fr.refl NoF _) (by omega)
          have c43 : w4.cell? ⟨wr.heap.size, 3, none⟩ = some (.bool zb) := H4.out.cell (Fr.refl NoF _) (by omega)
          have c44 : w4.cell? ⟨wr.heap.size, 4, none⟩ = some (.int .i64 zt) := H4.out.cell (Fr.refl NoF _) (by omega)
          have l4 : wr.heap.size < w4.heap.size := H4.out.lt
          clear h4 HD
          go_wp2_with fail
          refine (HR.out _ H4.out).mono ?_
          rintro e w5 ⟨rfl, h5⟩
          have H5 := Lib.hid h5
          clear h5 HR H4 c41 c43 c44 l4
          have HE5 := Lib.hid H5.out.e
          clear H5
          go_wp2_with fail
          refine (tw_same HE5.out RR.out).mono ?_
          rintro e w6 ⟨rfl, f6⟩
          have HE6 := Lib.hid (HE5.out.fr0 f6)
          obtain ⟨la, ln, lc, cl, lb, hH⟩ := tw_holds HE6.out RR.out
          have HH := Lib.hid hH
          clear hH f6 HE5
          go_wp2_with fail
          refine HH.out.mono ?_
          rintro e w7 ⟨rfl, f7⟩
          have HE7 := Lib.hid (HE6.out.fr0 f7)
          clear cl lb f7 HH HE6
          go_wp2
          go_roundw
          case rel => exact ⟨j + 1, by omega, by go_num, by omega, _, _, HE7.out, RR.out, HRM.out⟩
          case measure => simp [intOf]; omega
        | 5, _, ek =>
          have ek' : wrap64 ((IntKind.u64.wrap zk).tmod 7) = 5 := ek
          have HC := Lib.hid (tw_copy HB.out)
          have RR := HRO
          have HRM := HRN
          obtain ⟨v1, hv1⟩ := u64_nat ((zv : Int) + 1)
          have HV1 := Lib.hid hv1
          clear ek hv1
          go_wp2_with fail
          refine HC.out.mono ?_
          clear HC
          rintro e w4 ⟨db', s', nf', rfl, ⟨hne, hwr⟩, hd4⟩
          have HD4 := Lib.hid hd4
          have HWR := Lib.hid hwr
          have F4 : Hid (Fr NoF (wr.alloc (.cells #[.int .i64 zk, .int .u32 zi, .int .u64 zv, .bool zb, .int .i64 zt] 35)) w4) := by obtain ⟨_, _, _, _, _, _, _, f⟩ := HD4.out; exact f
          have c41 : w4.cell? ⟨wr.heap.size, 1, none⟩ = some (.int .u32 zi) := HB.out.cell F4.out (by omega)
          have c42 : w4.cell? ⟨wr.heap.size, 2, none⟩ = some (.int .u64 zv) := HB.out.cell F4.out (by omega)
          have l4 : wr.heap.size < w4.heap.size := (HB.out.fr0 F4.out).lt
          clear hd4 hwr
          go_wp2_with fail
          rw [HV1.out]
          refine (cp_write HD4.out HU.out.1 v1 HWR.out).mono ?_
          rintro e w5 ⟨x5, rfl, s5, hd5⟩
          have HD5 := Lib.hid hd5
          clear hd5 HD4 c41 c42 l4 F4 HWR hne
          go_wp2_with fail
          refine (cp_alloc HD5.out).mono ?_
          rintro e w6 ⟨x6, y6, rfl, f6⟩
          have H5 : Hid (TwoB w w6 db rb s r (j + 1) (j + 1) wr.heap.size (opC zk zi zv zb zt)) := (HB.out.fr0 f6).up (by omega) (by omega)
          clear f6 HD5
          have HE5 := Lib.hid H5.out.e
          clear H5
          go_wp2_with fail
          refine (tw_same HE5.out RR.out).mono ?_
          rintro e w66 ⟨rfl, f6⟩
          have HE6 := Lib.hid (HE5.out.fr0 f6)
          obtain ⟨la, ln, lc, cl, lb, hH⟩ := tw_holds HE6.out RR.out
          have HH := Lib.hid hH
          clear hH f6 HE5
          go_wp2_with fail
          refine HH.out.mono ?_
          rintro e w7 ⟨rfl, f7⟩
          have HE7 := Lib.hid (HE6.out.fr0 f7)
          clear cl lb f7 HH HE6
          go_wp2
          go_roundw
          case rel => exact ⟨j + 1, by omega, by go_num, by omega, _, _, HE7.out, RR.out, HRM.out⟩
          case measure => simp [intOf]; omega
        | 6, _, ek =>
          have ek' : wrap64 ((IntKind.u64.wrap zk).tmod 7) = 6 := ek
          obtain ⟨s', r', hp⟩ := two_stop HB.out HRO.out zt HU.out.2.2
          have HD := hp.1
          have HR := hp.2.1
          have RR := Lib.hid hp.2.2.1
          have HRM : Hid (r'.room = n) := by unfold Hid; rw [RR.out.room, hp.2.2.2, HRN.out]
          clear hp HRO HRN ek
          go_wp2_with fail
          refine (HD.out _ (Fr.refl NoF _)).mono ?_
          rintro e w4 ⟨rfl, h4⟩
          have H4 := Lib.hid h4
          have c44 : w4.cell? ⟨wr.heap.size, 4, none⟩ = some (.int .i64 zt) := H4.out.cell (Fr.refl NoF _) (by omega)
          have l4 : wr.heap.size < w4.heap.size := H4.out.lt
          clear h4 HD
          go_wp2_with fail
          refine (HR.out _ H4.out).mono ?_
          rintro e w5 ⟨rfl, h5⟩
          have H5 := Lib.hid h5
          clear h5 HR H4 c44 l4
          have HE5 := Lib.hid H5.out.e
          clear H5
          go_wp2_with fail
          refine (tw_same HE5.out RR.out).mono ?_
          rintro e w6 ⟨rfl, f6⟩
          have HE6 := Lib.hid (HE5.out.fr0 f6)
          obtain ⟨la, ln, lc, cl, lb, hH⟩ := tw_holds HE6.out RR.out
          have HH := Lib.hid hH
          clear hH f6 HE5
          go_wp2_with fail
          refine HH.out.mono ?_
          rintro e w7 ⟨rfl, f7⟩
          have HE7 := Lib.hid (HE6.out.fr0 f7)
          clear cl lb f7 HH HE6
          go_wp2
          go_roundw
          case rel => exact ⟨j + 1, by omega, by go_num, by omega, _, _, HE7.out, RR.out, HRM.out⟩
          case measure => simp [intOf]; omega
        | q + 7, hq, _ => omega
      · have hd : decide ((j : Int) < 200) = false := by simp; omega
        have hd1 : (j : Int) < (zs.length : Int) := by omega
        go_wp2
        go_ret
        exact ⟨rfl, HF0.out⟩
    · have hd : decide ((j : Int) < (zs.length : Int)) = false := by simp; omega
      go_wp2
      go_ret
      exact ⟨rfl, HF0.out⟩
end Go.Proofs.Ytfhjfbjilmbdhaa
