/-
  ModelActs: whatever is called, one thing behind the other, is answered as the document says; what all pages hold: the walk. No condition of its own; the library's table of trailing zeros is as its initialiser lays it.
-/
import Derived.Test.YtnjdoifgljdjcaaDoorModBoth
import Derived.Test.YtnjdoifgljdjcaaDoorModu
import Derived.Deep.RegionHeld
import Derived.Deep.RegionHeld3
import Derived.Deep.QuietTactic
import Derived.BigQuiet
namespace Go.Proofs.YtnjdoifgljdjcaaDoor
open Go.RowKit
set_option linter.unusedVariables false

/-- A thing to be done. -/
structure OpM where
  k : Int
  id : Nat
  x : Nat
/-- A slice of things to be done, that came in. -/
def ArgM (w : World) (v : Value) (zs : List OpM) : Prop :=
  ∃ a c, v = .slice a zs.length c ∧ zs.length ≤ c ∧ c ≤ maxLen ∧ (0 < zs.length → ∃ b off, a = some ⟨b, off, none⟩ ∧ b < w.heap.size ∧ ∀ (j : Nat) (z : OpM), zs[j]? = some z →
    w.cell? ⟨b, off + j * 3, none⟩ = some (.int .i64 z.k) ∧ w.cell? ⟨b, off + j * 3 + 1, none⟩ = some (.int .u32 z.id) ∧ w.cell? ⟨b, off + j * 3 + 2, none⟩ = some (.int .u64 z.x)) ∧
    ∀ z ∈ zs, okId z.id ∧ okV z.x
/-- Both Models in memory, with the same pages. -/
structure MT (w0 w : World) (b n room mb : Nat) (v : Value) (h : Nat → Nat) (L r : Nat) (lv : Value) (l : List Pg) (c : Nat) : Prop where
  mm : MM w b n room (pgL l) (pinL l) l.length mb v h L
  rg : RG w r n room l lv
  ps : PS n room c l
  m0 : ∀ k, MF b mb v h L k → w0.heap.size ≤ k
  r0 : ∀ k, GFr r lv k → w0.heap.size ≤ k
  ap : ∀ k, GFr r lv k → ¬ MF b mb v h L k
  f : Fr NoF w0 w
/-- .. the code's one has made a call more. -/
structure MH (w0 w : World) (b n room mb : Nat) (v : Value) (h : Nat → Nat) (L r : Nat) (lv : Value) (l l' : List Pg) (c : Nat) : Prop where
  mm : MM w b n room (pgL l') (pinL l') l'.length mb v h L
  rg : RG w r n room l lv
  ps : PS n room (c + 1) l'
  m0 : ∀ k, MF b mb v h L k → w0.heap.size ≤ k
  r0 : ∀ k, GFr r lv k → w0.heap.size ≤ k
  ap : ∀ k, GFr r lv k → ¬ MF b mb v h L k
  f : Fr NoF w0 w
section
variable {w0 w w' : World} {b n room mb L r c : Nat} {v lv : Value} {h : Nat → Nat} {l l' : List Pg}
theorem MT.fr0 (H : MT w0 w b n room mb v h L r lv l c) (f : Fr NoF w w') : MT w0 w' b n room mb v h L r lv l c :=
  ⟨H.mm.fr0 f, H.rg.fr0 f, H.ps, H.m0, H.r0, H.ap, H.f.trans f (fun _ q => .inl q)⟩
theorem MH.fr0 (H : MH w0 w b n room mb v h L r lv l l' c) (f : Fr NoF w w') : MH w0 w' b n room mb v h L r lv l l' c :=
  ⟨H.mm.fr0 f, H.rg.fr0 f, H.ps, H.m0, H.r0, H.ap, H.f.trans f (fun _ q => .inl q)⟩
theorem mt_step (hT : TabT w0) (H : MT w0 w b n room mb v h L r lv l c) (hn : n ≤ 65535) (hc : c < 1000) (k : Int) {id x : Nat} (hid : okId id) (hx : okV x) :
    ∃ E I V l', (∀ W, Fr NoF w W → Calls Tryd.prog 8 #[.pointer (some ⟨b, 0, none⟩), .agg #[.int .i64 k, .int .u32 id, .int .u64 x]] W fun e W' => e = .returned (.agg #[.int .i64 E, .int .u32 I, .int .u64 V]) ∧ MH w0 W' b n room mb v h L r lv l l' c) ∧
      (∀ W, MH w0 W b n room mb v h L r lv l l' c → Calls Tryd.prog 10 #[.pointer (some ⟨r, 0, none⟩), .agg #[.int .i64 k, .int .u32 id, .int .u64 x]] W fun e W' => e = .returned (.agg #[.int .i64 E, .int .u32 I, .int .u64 V]) ∧ ∃ lv', MT w0 W' b n room mb v h L r lv' l' (c + 1)) := by
  obtain ⟨E, I, V, l', P, sc, sr⟩ := both_step H.ps hn hc k hid hx
  refine ⟨E, I, V, l', fun W f => ?_, fun W M => ?_⟩
  · have h1 := H.fr0 f
    refine (sc W b mb v h L (hT.fr0 h1.f) (fun q => absurd (H.m0 _ q) (by have := hT.lt; omega)) h1.mm).mono ?_
    rintro e W' ⟨he, q1, q2⟩
    exact ⟨he, q1, h1.rg.fr q2 (fun i q e => H.ap i q e), P, H.m0, H.r0, H.ap, h1.f.trans q2 (fun i q => .inr (H.m0 i q))⟩
  · refine (sr W r lv M.rg).mono ?_
    rintro e W' ⟨he, ⟨lv', q1, q3⟩, q2⟩
    have hlt := M.mm.lt
    have hs := M.f.size
    exact ⟨he, lv', M.mm.fr q2 (fun k q e => M.ap k e q), q1, M.ps, M.m0, fun k q => (q3 k q).elim (M.r0 k) (fun q => by omega), fun k q e => (q3 k q).elim (fun q => M.ap k q e) (fun q => by have := hlt k e; omega), M.f.trans q2 (fun i q => .inr (M.r0 i q))⟩
/-- What is seen of an id. -/
theorem mt_value (H : MT w0 w b n room mb v h L r lv l c) {id : Nat} (hid : okId id) : Calls Tryd.prog 11 #[.pointer (some ⟨b, 0, none⟩), .int .u32 id] w fun e w' => e = .returned (.tuple #[.int .u64 (((pgL l id).map (·.1)).getD 0 : Nat), .bool (pgL l id).isSome]) ∧ MT w0 w' b n room mb v h L r lv l c :=
  (value_calls H.mm hid).mono fun e w' q => ⟨q.1, H.fr0 q.2⟩
end
set_option maxRecDepth 100000 in
set_option maxHeartbeats 16000000 in
theorem acts_walk (a0 a1 : Int) (v : Value) (zs : List OpM) (w : World) (hT : TabT w) (hv : ArgM w v zs) : Calls Tryd.prog 3 #[.int .i64 a0, .int .i64 a1, v] w fun e w' => e = .returned (.bool true) ∧ Fr NoF w w' := by
  obtain ⟨sa, sc, ev, q1, q2, hcells, hrng⟩ := hv
  subst ev
  unfold maxLen at q2
  have HCE := Lib.hid hcells
  have HRG := Lib.hid hrng
  have HT := Lib.hid hT
  obtain ⟨n, n1, n2, en⟩ := modu1 a0 (k := 6) (by decide) (by decide)
  obtain ⟨m, m1, m2, em⟩ := modu1 a1 (k := 12) (by decide) (by decide)
  have HBG := Lib.hid (begin_yes n m w (by omega) (by omega) (by omega) (by omega))
  clear hcells hrng hT
  go_enter Tryd.func3, Tryd.ntmps3
  go_wp2_with fail
  refine HBG.out.mono ?_
  clear HBG
  rintro e w1 ⟨b, mb, v, h, L, rfl, h1, h2, h3⟩
  have HM := Lib.hid h1
  have HNEW := Lib.hid h2
  have HF1 := Lib.hid h3
  clear h1 h2 h3
  go_wp2_with fail
  refine (toldM_calls (HT.out.fr0 HF1.out)).mono ?_
  rintro e w2 ⟨rfl, f2⟩
  have HM2 := Lib.hid (HM.out.fr0 f2)
  have HF2 := Lib.hid (HF1.out.trans f2 (fun _ q => .inl q))
  clear HM HF1 f2
  go_wp2_with fail
  have HE0 : Hid (MT w (w2.alloc (.cells #[.int .i64 n, .int .i64 m, .slice none 0 0] 32)) b n m mb v h L w2.heap.size (.slice none 0 0) [] 0) := by
    have hlt := HM2.out.lt
    have hs := HF2.out.size
    refine ⟨HM2.out.fr0 ((Fr.refl NoF w2).alloc _), ⟨Blk.new _ _ _ _ _ _ rfl rfl (fun i hi => ?_), SlF.nil _ _ _ _, fun i q => (by cases q), ⟨by simp, by omega, by omega⟩, fun p hp => (by cases hp)⟩, ⟨List.Pairwise.nil, fun p hp => (by cases hp), Nat.zero_le _, Nat.zero_le _, fun p hp => (by cases hp)⟩, HNEW.out, fun k q => ?_, fun k q e => ?_, HF2.out.alloc _⟩
    · match i, hi with
      | 0, _ => rfl
      | 1, _ => rfl
      | 2, _ => rfl
    · rcases q with q | q
      · omega
      · cases q
    · rcases q with q | q
      · have := hlt k e; omega
      · cases q
  clear HM2 HF2 HNEW
  generalize (w2.alloc (.cells #[.int .i64 n, .int .i64 m, .slice none 0 0] 32)) = w3 at *
  generalize w2.heap.size = r at *
  go_loopw [12] (fun i wr => ∃ j : Nat, j ≤ zs.length ∧ i = .int .i64 j ∧ j ≤ 200 ∧ ∃ lv l, MT w wr b n m mb v h L r lv l j) (fun i _ => zs.length - (intOf i).toNat)
  case atStart => exact ⟨0, Nat.zero_le _, rfl, Nat.zero_le _, _, _, HE0.out⟩
  case round =>
    obtain ⟨j, hj, rfl, hj2, lv, l, hE⟩ := hrel
    have HE := Lib.hid hE
    have HF0 := Lib.hid hE.f
    clear hE HE0
    by_cases hlt : j < zs.length
    · by_cases h200 : j < 200
      · obtain ⟨xb, xo, rfl, hxb, hcell⟩ := HCE.out (by omega)
        have HCZ : Hid (∀ W, Fr NoF w W → W.cell? ⟨xb, xo + j * 3, none⟩ = some (.int .i64 zs[j].k) ∧ W.cell? ⟨xb, xo + j * 3 + 1, none⟩ = some (.int .u32 zs[j].id) ∧ W.cell? ⟨xb, xo + j * 3 + 2, none⟩ = some (.int .u64 zs[j].x)) := by
          intro W f
          obtain ⟨c0, c1, c2⟩ := hcell j zs[j] (List.getElem?_eq_getElem hlt)
          exact ⟨by rw [f.cell (p := ⟨xb, xo + j * 3, none⟩) hxb id]; exact c0, by rw [f.cell (p := ⟨xb, xo + j * 3 + 1, none⟩) hxb id]; exact c1, by rw [f.cell (p := ⟨xb, xo + j * 3 + 2, none⟩) hxb id]; exact c2⟩
        have HU := HRG.out zs[j] (List.getElem_mem hlt)
        have hST := mt_step HT.out HE.out (by omega) (by omega) zs[j].k HU.1 HU.2
        generalize zs[j] = z at HCZ hST HU
        obtain ⟨zk, zi, zx⟩ := z
        simp only at HCZ hST HU
        obtain ⟨E, I, V, l', hD, hR⟩ := hST
        have HD := Lib.hid hD
        have HR := Lib.hid hR
        clear hcell HU hD hR
        obtain ⟨c0, c1, c2⟩ := HCZ.out _ HF0.out
        have hxw := Nat.lt_of_lt_of_le hxb HF0.out.size
        go_wp2_with fail
        go_region_held3 (fun w' => w'.cell? ⟨xb, xo + j * 3, none⟩ = some (.int .i64 zk) ∧ w'.cell? ⟨xb, xo + j * 3 + 1, none⟩ = some (.int .u32 zi) ∧ w'.cell? ⟨xb, xo + j * 3 + 2, none⟩ = some (.int .u64 zx))
          (first | exact HCZ.out _ (Fr.trans (F := NoF) H7.out.f (by repeat (first | exact Fr.refl NoF _ | apply Fr.drew | apply Fr.drewN)) (fun _ q => .inl q)) | exact HCZ.out _ (Fr.trans (F := NoF) H6.out.f (by repeat (first | exact Fr.refl NoF _ | apply Fr.drew | apply Fr.drewN)) (fun _ q => .inl q)) | exact HCZ.out _ (Fr.trans (F := NoF) H5.out.f (by repeat (first | exact Fr.refl NoF _ | apply Fr.drew | apply Fr.drewN)) (fun _ q => .inl q)) | exact HCZ.out _ (Fr.trans (F := NoF) HF0.out (Fr.trans (F := NoF) H4.out (by repeat (first | exact Fr.refl NoF _ | apply Fr.drew | apply Fr.drewN)) (fun _ q => .inl q)) (fun _ q => .inl q)) | exact HCZ.out _ (Fr.trans (F := NoF) HF0.out (by repeat (first | exact Fr.refl NoF _ | apply Fr.drew | apply Fr.drewN)) (fun _ q => .inl q)))
          (first
            | (go_at_call 9; (with_reducible refine (to_calls zk zi zx _).mono ?_); rintro e w4 ⟨rfl, f4⟩; have H4 : Hid (Fr NoF wr w4) := Fr.trans (F := NoF) (by repeat (first | exact Fr.refl NoF _ | apply Fr.drew | apply Fr.drewN)) f4 (fun _ q => .inl q); clear f4)
            | (go_at_call 8; (with_reducible refine (HD.out _ (Fr.trans (F := NoF) H4.out (by repeat (first | exact Fr.refl NoF _ | apply Fr.drew | apply Fr.drewN)) (fun _ q => .inl q))).mono ?_); rintro e w5 ⟨rfl, h5⟩; have H5 := Lib.hid h5; clear h5)
            | (go_at_call 7; (with_reducible refine (from_calls E I V _).mono ?_); rintro e w6 ⟨rfl, f6⟩; have H6 := Lib.hid (H5.out.fr0 (Fr.trans (F := NoF) (by repeat (first | exact Fr.refl NoF _ | apply Fr.drew | apply Fr.drewN)) f6 (fun _ q => .inl q))); clear f6)
            | (go_at_call 10; (with_reducible refine (HR.out _ (H6.out.fr0 (by repeat (first | exact Fr.refl NoF _ | apply Fr.drew | apply Fr.drewN)))).mono ?_); rintro e w7 ⟨rfl, lv7, h7⟩; have H7 := Lib.hid h7; clear h7))
        all_goals
          clear HD HR H4 H5 H6 HF0
          rename_i hHeld
          clear hHeld
          go_wp2_with fail
          go_hide hQ
          go_loopw [13] (fun i wq => ∃ k : Nat, k ≤ 14 ∧ i = .int .u32 k ∧ MT w wq b n m mb v h L r lv7 l' (j + 1)) (fun i _ => 14 - (intOf i).toNat)
          case atStart => exact ⟨0, Nat.zero_le _, rfl, H7.out⟩
          case round =>
            obtain ⟨k, hk, rfl, h8⟩ := hrel
            have H8 := Lib.hid h8
            clear h8 H7
            by_cases hlk : k < 14
            · have HV := Lib.hid (mt_value H8.out (id := k) (by unfold okId; omega))
              clear H8
              go_wp2_with fail
              refine HV.out.mono ?_
              clear HV
              rintro e w8 ⟨rfl, h9⟩
              have HA := Lib.hid (atG_calls h9.rg k)
              have H9 := Lib.hid h9
              have hc2 := h9.rg.c2
              have hlr := h9.rg.hd.lt
              cases hat : atG l' k with
              | none =>
                have hpn := pgL_atG_none hat
                rw [hat] at HA
                rw [hpn]
                unfold atGZ at HA
                simp only [Option.map_none, Option.getD_none, Option.isSome_none]
                clear h9 hat hpn
                go_wp2_with fail
                refine HA.out.mono ?_
                clear HA
                rintro e w9 ⟨rfl, rfl⟩
                go_wp2
                go_roundw
                case rel => exact ⟨k + 1, by omega, by go_num, H9.out⟩
                case measure => simp [intOf] <;> omega
              | some q =>
                obtain ⟨hq, hid⟩ := atG_is hat
                have hpn := pgL_at h9.ps.rise hq
                rw [hid] at hpn
                obtain ⟨g, cap, e1, l1, l2, l3, y0, y1, y2, _⟩ := h9.rg.at hq
                rw [e1] at hc2
                rw [hat] at HA
                rw [hpn]
                unfold atGZ at HA
                simp only [Option.map_some, Option.getD_some, Option.isSome_some]
                have hqb := h9.rg.b1.1
                clear h9 hat hpn e1 y0 y2
                generalize l'[q].v = yv at *
                have gq0 : decide (0 ≤ (q : Int)) = true := by simp
                go_wp2_with fail
                refine HA.out.mono ?_
                clear HA
                rintro e w9 ⟨rfl, rfl⟩
                go_wp2
                go_roundw
                case rel => exact ⟨k + 1, by omega, by go_num, H9.out⟩
                case measure => simp [intOf] <;> omega
            · obtain rfl : k = 14 := by omega
              clear hlk
              go_wp2
              subst hQ
              go_wp2
              go_roundw
              case rel => exact ⟨j + 1, by omega, by go_num, by omega, _, _, H8.out⟩
              case measure => simp [intOf] <;> omega
      · obtain rfl : j = 200 := by omega
        clear h200
        go_wp2
        go_returns
        exact ⟨rfl, HE.out.f⟩
    · obtain rfl : j = zs.length := by omega
      clear hlt
      go_wp2
      go_returns
      exact ⟨rfl, HE.out.f⟩
end Go.Proofs.YtnjdoifgljdjcaaDoor
