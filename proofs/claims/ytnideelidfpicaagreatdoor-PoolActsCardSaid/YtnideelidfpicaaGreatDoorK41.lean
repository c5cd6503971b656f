/-
  What the statement asks of both Disks behind each call: Same, Holds.
-/
import Derived.Test.YtnideelidfpicaaGreatDoorK40
import Derived.Deep.QuietTactic
import Derived.BigQuiet
namespace Go.Proofs.YtnideelidfpicaaGreatDoor
open Go.RowKit Go.Maps
set_option linter.unusedVariables false

section
variable {w0 w w' w1 : World} {db rb m m' c mb nf ob : Nat} {s : DS} {r : RS} {pv fv lv nv sv : Value} {fh : Nat → Nat}
set_option maxHeartbeats 2000000 in
theorem same_yes (hd : DC w db s c pv fv mb fh nf) (he : RC w rb r lv nv sv) (R : DRel s r) : Calls Tryz.prog 11 #[.pointer (some ⟨db, 0, none⟩), .pointer (some ⟨rb, 0, none⟩)] w fun e w' => e = .returned (.bool true) ∧ Fr NoF w w' := by
  have hids : idsL s.pg s.np = r.L.map (·.1) := by rw [ids_plR, R.L]
  have HID := Lib.hid hids
  have HP := Lib.hid (dk_pages hd)
  have HR : Hid (∀ W, Fr NoF w W → ∀ d, Calls Tryz.prog 43 #[.pointer (some ⟨db, 0, none⟩)] (W.drewN d) fun e w' => e = .returned (.int .i64 s.rd) ∧ W.drewN d = w') := fun W f d => dk_reads ((hd.fr0 f).fr0 ((Fr.refl NoF _).drewN d))
  have HW : Hid (∀ W, Fr NoF w W → ∀ d, Calls Tryz.prog 44 #[.pointer (some ⟨db, 0, none⟩)] (W.drewN d) fun e w' => e = .returned (.int .i64 s.wr) ∧ W.drewN d = w') := fun W f d => dk_writes ((hd.fr0 f).fr0 ((Fr.refl NoF _).drewN d))
  have HC : Hid (∀ W, Fr NoF w W → W.cell? ⟨rb, 1, none⟩ = some lv ∧ W.cell? ⟨rb, 4, none⟩ = some (.int .i64 s.rd) ∧ W.cell? ⟨rb, 5, none⟩ = some (.int .i64 s.wr) ∧ rb < W.heap.size) := fun W f => ⟨(he.fr0 f).ce 1 (by omega), by rw [← R.rd]; exact (he.fr0 f).ce 4 (by omega), by rw [← R.wr]; exact (he.fr0 f).ce 5 (by omega), (he.fr0 f).hd.lt⟩
  have HL : Hid (∀ W, Fr NoF w W → SlP W lv r.L) := fun W f => he.hl.fr0 f
  obtain ⟨la, lc, rfl, q1, q2⟩ := he.hl.shape
  have hb1 := he.b1
  unfold maxLen at q2
  clear hd he R hids
  go_enter Tryz.func11, Tryz.ntmps11
  go_wp2_with fail
  refine HP.out.mono ?_
  clear HP
  rintro e w1 ⟨v, rfl, ho, f1⟩
  rw [HID.out] at ho
  obtain ⟨va, vc, rfl, v1, v2⟩ := ho.sl.shape
  have HSL := Lib.hid ho.sl
  simp only [List.length_map] at HSL v1 ⊢
  obtain ⟨c1, c4, c5, lb⟩ := HC.out w1 f1
  have HR1 := Lib.hid (HR.out w1 f1)
  have HW1 := Lib.hid (HW.out w1 f1)
  have F1 := Lib.hid f1
  unfold maxLen at v2
  clear ho f1 HR HW HID
  go_wp2_with fail
  go_quiet ((first | (go_at_call 43; with_reducible exact qs (HR1.out _)) | (go_at_call 44; with_reducible exact qs (HW1.out _))))
  go_wp2
  go_loopw [6] (fun i wr => ∃ k : Nat, k ≤ r.L.length ∧ i = .int .i64 k ∧ Fr NoF w1 wr) (fun i _ => r.L.length - (intOf i).toNat)
  case atStart => exact ⟨0, Nat.zero_le _, rfl, by repeat (first | exact Fr.refl NoF _ | apply Fr.drewN | apply Fr.drew)⟩
  case round =>
    obtain ⟨k, hk, rfl, hf⟩ := hrel
    have FW := Lib.hid (F1.out.trans hf (fun _ q => q.elim))
    clear c1 c4 c5 lb
    obtain ⟨c1, c4, c5, lb⟩ := HC.out wr FW.out
    by_cases hlt : k < r.L.length
    · obtain ⟨b1, o1, cc1, e1, _, _, _, cy1⟩ := (SlK.keep HSL.out hf).at (i := k) (by simpa using hlt)
      simp only [Value.slice.injEq] at e1
      obtain ⟨rfl, hz, rfl⟩ := e1
      clear hz
      obtain ⟨b2, o2, cc2, e2, _, _, _, cy2, _⟩ := (HL.out wr FW.out).at hlt
      simp only [Value.slice.injEq] at e2
      obtain ⟨rfl, _, rfl⟩ := e2
      rw [List.getElem_map] at cy1
      generalize r.L[k].1 = y at cy1 cy2
      have HF := Lib.hid hf
      clear hf c4 c5
      go_wp2
      go_quiet (fail)
      go_wp2
      go_roundw
      case rel => exact ⟨k + 1, by omega, by go_num, by repeat (first | exact HF.out | apply Fr.drewN | apply Fr.drew)⟩
      case measure => simp [intOf]; omega
    · obtain rfl : k = r.L.length := by omega
      clear hf
      go_wp2
      go_returns
      exact ⟨rfl, FW.out⟩

def rdS (s : DS) (k : Nat) : DS := { s.copy with rd := k }
theorem rdS_read (s : DS) (k : Nat) {id : Nat} (h1 : 1 ≤ id) (h2 : id ≤ s.np) (h3 : (s.pg (id - 1)).1 = true) : (rdS s k).read id = (((s.pg (id - 1)).2, 0), rdS s (k + 1)) := by
  have hh : (rdS s k).has id = true := by unfold DS.has rdS DS.copy; simp [h1, h2, h3]
  unfold DS.read DS.att
  rw [hh]
  simp [rdS, DS.copy]
theorem plL_get {pg : Nat → Bool × Nat} {n : Nat} {p : Nat × Nat} (h : p ∈ plL pg n) : 1 ≤ p.1 ∧ p.1 ≤ n ∧ (pg (p.1 - 1)).1 = true ∧ (pg (p.1 - 1)).2 = p.2 := by
  unfold plL at h
  obtain ⟨i, _, h2, h3, rfl⟩ := plR_mem.1 h
  refine ⟨by show 1 ≤ i + 1; omega, by show i + 1 ≤ n; omega, ?_, ?_⟩
  · show (pg (i + 1 - 1)).1 = true; rw [Nat.add_sub_cancel]; exact h3
  · show (pg (i + 1 - 1)).2 = _; rw [Nat.add_sub_cancel]
set_option maxHeartbeats 4000000 in
theorem holds_yes (hd : DC w db s c pv fv mb fh nf) (hl : SlP w lv r.L) (hll : r.L.length < 100000) (R : DRel s r) : Calls Tryz.prog 12 #[.pointer (some ⟨db, 0, none⟩), lv] w fun e w' => e = .returned (.bool true) ∧ Fr NoF w w' := by
  have HID : Hid (idsL s.copy.pg s.copy.np = r.L.map (·.1)) := by show idsL s.pg s.np = _; rw [ids_plR, R.L]
  have HK := Lib.hid (dk_copy hd)
  have HL : Hid (∀ W, Fr NoF w W → SlP W lv r.L) := fun W f => hl.fr0 f
  have hnp : s.np ≤ 65535 := by have := hd.r2; have := hd.r1; omega
  have HG : Hid (∀ k (hk : k < r.L.length), isU32 r.L[k].1 ∧ ∀ j, (rdS s j).read r.L[k].1 = ((r.L[k].2, 0), rdS s (j + 1))) := by
    intro k hk
    have hm : r.L[k] ∈ plL s.pg s.np := by rw [← R.L]; exact List.getElem_mem hk
    obtain ⟨g1, g2, g3, g4⟩ := plL_get hm
    exact ⟨by unfold isU32; omega, fun j => by rw [← g4]; exact rdS_read s j g1 g2 g3⟩
  obtain ⟨la, lc, rfl, q1, q2⟩ := hl.shape
  unfold maxLen at q2
  clear hd hl R hnp
  go_enter Tryz.func12, Tryz.ntmps12
  go_wp2_with fail
  refine HK.out.mono ?_
  clear HK
  rintro e w1 ⟨db', pv', fv', mb', rfl, hd1, hb1, f1⟩
  have HB1 : Hid (∀ i, i = db' ∨ i = mb' → w.heap.size ≤ i ∧ i < w1.heap.size) := fun i q => ⟨hb1 i (q.elim .inl (fun q => .inr (.inl q))), hd1.lt i (q.elim .inl (fun q => .inr (.inl q)))⟩
  have HP := Lib.hid (dk_pages hd1)
  have HD1 := Lib.hid hd1
  have F1 := Lib.hid f1
  clear hd1 hb1 f1
  go_wp2_with fail
  refine HP.out.mono ?_
  clear HP
  rintro e w2 ⟨v, rfl, ho, f2⟩
  rw [HID.out] at ho
  have HOB := Lib.hid ho.base
  obtain ⟨va, vc, rfl, v1, v2⟩ := ho.sl.shape
  have HSL := Lib.hid ho.sl
  simp only [List.length_map] at HSL HOB v1 ⊢
  have HD2 := Lib.hid (HD1.out.fr0 f2)
  have F2 := Lib.hid (F1.out.trans f2 (fun _ q => q.elim))
  unfold maxLen at v2
  clear ho f2 HD1 F1 HID
  go_wp2_with fail
  go_loopw [7] (fun i wr => ∃ k : Nat, k ≤ r.L.length ∧ i = .int .i64 k ∧ (∃ c', DC wr db' (rdS s k) c' pv' fv' mb' fh nf) ∧ Fr NoF w wr ∧ SlK .u32 wr (.slice va r.L.length vc) (r.L.map (·.1))) (fun i _ => r.L.length - (intOf i).toNat)
  case atStart => exact ⟨0, Nat.zero_le _, rfl, ⟨_, HD2.out⟩, F2.out, HSL.out⟩
  case round =>
    obtain ⟨k, hk, rfl, ⟨c', hdk⟩, hf, hs⟩ := hrel
    by_cases hlt : k < r.L.length
    · obtain ⟨hu, hrd⟩ := HG.out k hlt
      have hR := dk_read hdk hu (by show k + 1 < 1000000000; omega)
      rw [hrd k] at hR
      have HRD := Lib.hid hR
      have HPN : Hid (∀ W, Fr (fun i => i = db' ∨ i = mb') wr W → Fr NoF w W ∧ SlK .u32 W (.slice va r.L.length vc) (r.L.map (·.1))) := fun W f => ⟨hf.trans f (fun i q => .inr (HB1.out i q).1), hs.fr f (fun b q k => by have := HOB.out b q; have := (HB1.out b k).2; omega)⟩
      have HLK : Hid (∀ W, Fr NoF w W → ∃ b2 o2, la = some ⟨b2, o2, none⟩ ∧ W.cell? ⟨b2, o2 + k * 2, none⟩ = some (.int .u32 (r.L[k].1 : Nat)) ∧ W.cell? ⟨b2, o2 + k * 2 + 1, none⟩ = some (.int .u64 (r.L[k].2 : Nat))) := by
        intro W f
        obtain ⟨b2, o2, cc2, e2, _, _, _, cy2, cy3⟩ := (HL.out W f).at hlt
        simp only [Value.slice.injEq] at e2
        exact ⟨b2, o2, e2.1, cy2, by rw [Nat.add_assoc]; exact cy3⟩
      have HSK : Hid (∀ W, SlK .u32 W (.slice va r.L.length vc) (r.L.map (·.1)) → ∃ b1 o1, va = some ⟨b1, o1, none⟩ ∧ W.cell? ⟨b1, o1 + k, none⟩ = some (.int .u32 (r.L[k].1 : Nat))) := by
        intro W h
        obtain ⟨b1, o1, cc1, e1, _, _, _, cy1⟩ := h.at (i := k) (by simpa using hlt)
        simp only [Value.slice.injEq] at e1
        rw [List.getElem_map] at cy1
        exact ⟨b1, o1, e1.1, cy1⟩
      obtain ⟨b2, o2, rfl, cy2, _⟩ := HLK.out wr hf
      clear hu hrd hR hdk hf hs HG
      generalize r.L[k].1 = y at *
      generalize r.L[k].2 = z at *
      go_wp2_with fail
      refine HRD.out.mono ?_
      clear HRD cy2
      rintro e w3 ⟨rfl, ⟨c3, hc3, hd3⟩, f3⟩
      obtain ⟨fw, hs3⟩ := HPN.out w3 f3
      obtain ⟨b1, o1, rfl, cy1⟩ := HSK.out w3 hs3
      obtain ⟨b2', o2', e2, cy2, cy3⟩ := HLK.out w3 fw
      simp only [Option.some.injEq, Addr.mk.injEq] at e2
      obtain ⟨rfl, rfl, _⟩ := e2
      have HD3 := Lib.hid hd3
      have FW := Lib.hid fw
      have HS3 := Lib.hid hs3
      clear hc3 hd3 f3 fw hs3
      go_wp2_with fail
      go_quiet (fail)
      go_wp2
      go_roundw
      case rel => exact ⟨k + 1, by omega, by go_num, ⟨_, HD3.out.fr0 (by repeat (first | exact Fr.refl NoF _ | apply Fr.drewN | apply Fr.drew))⟩, by repeat (first | exact FW.out | apply Fr.drewN | apply Fr.drew), HS3.out.keep (by repeat (first | exact Fr.refl NoF _ | apply Fr.drewN | apply Fr.drew))⟩
      case measure => simp [intOf]; omega
    · obtain rfl : k = r.L.length := by omega
      have FW := Lib.hid hf
      clear hf hs hdk
      go_wp2
      go_returns
      exact ⟨rfl, FW.out⟩
end
end Go.Proofs.YtnideelidfpicaaGreatDoor
