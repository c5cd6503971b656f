/-
  model's Model in memory: unpin, fetch.
-/
import Derived.Test.YtnjdoifgljdjcaaDoorModB
namespace Go.Proofs.YtnjdoifgljdjcaaDoor
open Go.RowKit Go.Maps
set_option linter.unusedVariables false

section
variable {w w' : World} {b n room pin len mb L : Nat} {pg : Nat → Option (Nat × Nat)} {v : Value} {h : Nat → Nat}
theorem heldE_some {p : Option (Nat × Nat)} (h0 : heldE p = 0) : ∃ pv pn, p = some (pv, pn + 1) := by
  cases p with
  | none => simp [heldE] at h0
  | some p =>
    obtain ⟨a, c⟩ := p
    cases c with
    | zero => simp [heldE] at h0
    | succ c => exact ⟨a, c, rfl⟩
theorem MF.mbF {mb : Nat} : ∀ i, (fun i => i = mb) i → MF b mb v h L i := fun i q => .inr (.inl q)
set_option maxHeartbeats 1000000 in
theorem unpin_no (H : MM w b n room pg pin len mb v h L) {id : Nat} (hid : okId id) (h0 : ¬ heldE (pg id) = 0) : Calls Tryd.prog 16 #[.pointer (some ⟨b, 0, none⟩), .int .u32 id] w fun e w' => e = .returned (.int .i64 (heldE (pg id))) ∧ Fr NoF w w' := by
  have HH : Hid (Calls Tryd.prog 27 #[.pointer (some ⟨b, 0, none⟩), .int .u32 id] w _) := held_calls H hid
  unfold heldA at HH
  have g0 : (heldE (pg id) != 0) = true := by simpa using h0
  generalize heldE (pg id) = E at *
  generalize heldX (pg id) = X at *
  generalize heldY (pg id) = Y at *
  clear H h0
  go_enter Tryd.func16, Tryd.ntmps16
  go_wp2_with fail
  refine HH.out.mono ?_
  rintro e w1 ⟨rfl, f⟩
  have HF := Lib.hid f
  clear f
  go_wp2
  go_returns
  exact ⟨rfl, HF.out.alloc _⟩
set_option maxHeartbeats 1000000 in
theorem unpin_last (H : MM w b n room pg pin len mb v h L) {id : Nat} (hid : okId id) {pv : Nat} (hp : pg id = some (pv, 1)) (hpin : 1 ≤ pin) : Calls Tryd.prog 16 #[.pointer (some ⟨b, 0, none⟩), .int .u32 id] w fun e w' => e = .returned (.int .i64 0) ∧
    MM w' b n room (updP pg id (some (pv, 0))) (pin - 1) len mb v h L ∧ Fr (MF b mb v h L) w w' := by
  have HH : Hid (Calls Tryd.prog 27 #[.pointer (some ⟨b, 0, none⟩), .int .u32 id] w _) := held_calls H hid
  unfold heldA at HH
  have HM := Lib.hid H
  have hlen := H.len_le
  have hpl := H.hp
  have hwf := wf_id hid
  have hok := H.ok id _ hp
  have HOK := Lib.hid hok.1
  have hpn : 1 < 1000000 := hok.2
  have e1 : heldX (pg id) = pv := by rw [hp]; simp [heldX]
  have e2 : heldY (pg id) = 1 := by rw [hp]; rfl
  have e3 : heldE (pg id) = 0 := by rw [hp]; simp [heldE]
  rw [e1, e2, e3] at HH
  have KM : Hid (∀ W w2, Fr NoF w W → MpV Tryd.prog 33 .u32 zeroP w2 mb (if (pgM pg (id : Int)).isSome then len else len + 1) (updV (pgM pg) (id : Int) (some (.agg #[.int .u64 pv, .int .i64 0]))) → Fr (fun i => i = mb) W w2 → MM w2 b n room (updP pg id (some (pv, 0))) pin len mb v h L ∧ Fr (MF b mb v h L) w w2) := fun W w2 f1 hm f2 => ⟨(HM.out.fr0 f1).put (p' := (pv, 0)) hp ⟨hok.1, by show 0 < 1000000; omega⟩ (by exact hm) f2, (f1.mono (fun _ q => q.elim)).trans f2 (fun i q => .inl (.inr (.inl q)))⟩
  have KC : Hid (∀ W, Fr NoF w W → W.cell? ⟨b, 1, none⟩ = some (.map (some mb)) ∧ b < W.heap.size) := fun W f => ⟨(HM.out.fr0 f).ce 1 (by omega), (HM.out.fr0 f).lc.blk.lt⟩
  have hml := H.mp.lt
  clear H hok hp e1 e2 e3
  go_enter Tryd.func16, Tryd.ntmps16
  go_wp2_with fail
  refine HH.out.mono ?_
  clear HH
  rintro e w1 ⟨rfl, f⟩
  have HF := Lib.hid f
  have hs1 := f.size
  obtain ⟨x1, x2⟩ := KC.out w1 f
  clear f
  go_wp2
  obtain ⟨w2, hrun, m1, m2⟩ := (HM.out.fr0 ((HF.out.alloc (.cells #[.int .u64 pv, .int .i64 0] 65)).drew)).mp.put_run MVm (by omega) hwf (.agg #[.int .u64 pv, .int .i64 0])
  obtain ⟨r1, r2⟩ := KM.out _ w2 ((HF.out.alloc (.cells #[.int .u64 pv, .int .i64 0] 65)).drew) m1 m2
  have R1 := Lib.hid r1
  have R2 := Lib.hid r2
  have OB : Blk w2 w1.heap.size 2 (fun i => if i = 0 then .int .u64 pv else .int .i64 0) := ((Blk.new w1 #[.int .u64 pv, .int .i64 0] 65 2 (fun i => if i = 0 then .int .u64 pv else .int .i64 0) _ rfl rfl (fun i hi => by
    match i, hi with
    | 0, _ => rfl
    | 1, _ => rfl)).drew).fr m2 (fun q => by omega)
  have y1 : w2.cell? ⟨w1.heap.size, 1, none⟩ = some (.int .i64 0) := OB.cell (i := 1) (by omega)
  have yl := OB.lt
  have z5 : w2.cell? ⟨b, 5, none⟩ = some (.int .i64 pin) := r1.ce 5 (by omega)
  have zl := r1.lc.blk.lt
  have zf := r1.lc.blk.frozen 5
  clear m1 m2 r1 r2 OB
  have KP : Hid (∀ z : Int, z = ((pin - 1 : Nat) : Int) → MM (w2.setCell ⟨b, 5, none⟩ (.int .i64 z)) b n room (updP pg id (some (pv, 0))) (pin - 1) len mb v h L ∧ Fr (MF b mb v h L) w (w2.setCell ⟨b, 5, none⟩ (.int .i64 z))) := by
    rintro z rfl
    obtain ⟨q1, q2⟩ := R1.out.setPin (pin' := pin - 1) (by omega)
    exact ⟨q1, R2.out.trans q2 (fun i q => .inl (.inl q))⟩
  have hcw2 : IntKind.i64.wrap ((pin : Int) - 1) = (pin : Int) - 1 := IntWalk.i64_in _ (by omega)
  go_region
  all_goals
    go_wp2
    go_returns
    exact ⟨rfl, KP.out _ (by omega)⟩
set_option maxHeartbeats 1000000 in
theorem unpin_more (H : MM w b n room pg pin len mb v h L) {id : Nat} (hid : okId id) {pv q : Nat} (hp : pg id = some (pv, (q + 1 + 1)))  : Calls Tryd.prog 16 #[.pointer (some ⟨b, 0, none⟩), .int .u32 id] w fun e w' => e = .returned (.int .i64 0) ∧
    MM w' b n room (updP pg id (some (pv, (q + 1)))) pin len mb v h L ∧ Fr (MF b mb v h L) w w' := by
  have HH : Hid (Calls Tryd.prog 27 #[.pointer (some ⟨b, 0, none⟩), .int .u32 id] w _) := held_calls H hid
  unfold heldA at HH
  have HM := Lib.hid H
  have hlen := H.len_le
  have hpl := H.hp
  have hwf := wf_id hid
  have hok := H.ok id _ hp
  have HOK := Lib.hid hok.1
  have hpn : (q + 1 + 1) < 1000000 := hok.2
  have e1 : heldX (pg id) = pv := by rw [hp]; simp [heldX]
  have e2 : heldY (pg id) = (q + 1 + 1) := by rw [hp]; rfl
  have e3 : heldE (pg id) = 0 := by rw [hp]; simp [heldE]
  rw [e1, e2, e3] at HH
  have KM : Hid (∀ W w2, Fr NoF w W → MpV Tryd.prog 33 .u32 zeroP w2 mb (if (pgM pg (id : Int)).isSome then len else len + 1) (updV (pgM pg) (id : Int) (some (.agg #[.int .u64 pv, .int .i64 ((q : Int) + 1)]))) → Fr (fun i => i = mb) W w2 → MM w2 b n room (updP pg id (some (pv, (q + 1)))) pin len mb v h L ∧ Fr (MF b mb v h L) w w2) := fun W w2 f1 hm f2 => ⟨(HM.out.fr0 f1).put (p' := (pv, (q + 1))) hp ⟨hok.1, by show (q + 1) < 1000000; omega⟩ (by exact hm) f2, (f1.mono (fun _ q => q.elim)).trans f2 (fun i q => .inl (.inr (.inl q)))⟩
  have KC : Hid (∀ W, Fr NoF w W → W.cell? ⟨b, 1, none⟩ = some (.map (some mb)) ∧ b < W.heap.size) := fun W f => ⟨(HM.out.fr0 f).ce 1 (by omega), (HM.out.fr0 f).lc.blk.lt⟩
  have hml := H.mp.lt
  clear H hok hp e1 e2 e3
  have hcw : IntKind.i64.wrap ((q : Int) + 1 + 1 - 1) = (q : Int) + 1 := by rw [IntWalk.i64_in _ (by omega)]; omega
  have g0 : ((q : Int) + 1 == 0) = false := by simp; omega
  go_enter Tryd.func16, Tryd.ntmps16
  go_wp2_with fail
  refine HH.out.mono ?_
  clear HH
  rintro e w1 ⟨rfl, f⟩
  have HF := Lib.hid f
  have hs1 := f.size
  obtain ⟨x1, x2⟩ := KC.out w1 f
  clear f
  go_wp2
  obtain ⟨w2, hrun, m1, m2⟩ := (HM.out.fr0 ((HF.out.alloc (.cells #[.int .u64 pv, .int .i64 ((q : Int) + 1)] 65)).drew)).mp.put_run MVm (by omega) hwf (.agg #[.int .u64 pv, .int .i64 ((q : Int) + 1)])
  obtain ⟨r1, r2⟩ := KM.out _ w2 ((HF.out.alloc (.cells #[.int .u64 pv, .int .i64 ((q : Int) + 1)] 65)).drew) m1 m2
  have R1 := Lib.hid r1
  have R2 := Lib.hid r2
  have OB : Blk w2 w1.heap.size 2 (fun i => if i = 0 then .int .u64 pv else .int .i64 ((q : Int) + 1)) := ((Blk.new w1 #[.int .u64 pv, .int .i64 ((q : Int) + 1)] 65 2 (fun i => if i = 0 then .int .u64 pv else .int .i64 ((q : Int) + 1)) _ rfl rfl (fun i hi => by
    match i, hi with
    | 0, _ => rfl
    | 1, _ => rfl)).drew).fr m2 (fun q => by omega)
  have y1 : w2.cell? ⟨w1.heap.size, 1, none⟩ = some (.int .i64 ((q : Int) + 1)) := OB.cell (i := 1) (by omega)
  have yl := OB.lt
  have z5 : w2.cell? ⟨b, 5, none⟩ = some (.int .i64 pin) := r1.ce 5 (by omega)
  have zl := r1.lc.blk.lt
  have zf := r1.lc.blk.frozen 5
  clear m1 m2 r1 r2 OB
  go_region
  all_goals
    go_wp2
    go_returns
    exact ⟨rfl, R1.out, R2.out⟩
set_option maxHeartbeats 1000000 in
theorem fetch_none (H : MM w b n room pg pin len mb v h L) {id : Nat} (hid : okId id) (hp : pg id = none) : Calls Tryd.prog 15 #[.pointer (some ⟨b, 0, none⟩), .int .u32 id] w fun e w' => e = .returned (.int .i64 3) ∧ Fr NoF w w' := by
  have c1 : w.cell? ⟨b, 1, none⟩ = some (.map (some mb)) := H.ce 1 (by omega)
  have lb := H.lc.blk.lt
  have lk := H.look hid w (Fr.refl NoF w)
  rw [hp] at lk
  simp only [Option.map_none, Option.getD_none, Option.isSome_none] at lk
  unfold zeroP at lk
  clear H hp
  go_enter Tryd.func15, Tryd.ntmps15
  go_wp2
  go_returns
  exact ⟨rfl, (Fr.refl NoF w).alloc _⟩
set_option maxHeartbeats 1000000 in
theorem fetch_full (H : MM w b n room pg pin len mb v h L) {id : Nat} (hid : okId id) {pv : Nat} (hp : pg id = some (pv, 0)) (hf : pin = n) : Calls Tryd.prog 15 #[.pointer (some ⟨b, 0, none⟩), .int .u32 id] w fun e w' => e = .returned (.int .i64 6) ∧ Fr NoF w w' := by
  have c1 : w.cell? ⟨b, 1, none⟩ = some (.map (some mb)) := H.ce 1 (by omega)
  have c0 : w.cell? ⟨b, 0, none⟩ = some (.int .i64 n) := H.ce 0 (by omega)
  have c5 : w.cell? ⟨b, 5, none⟩ = some (.int .i64 pin) := H.ce 5 (by omega)
  rw [hf] at c5
  have lb := H.lc.blk.lt
  have lk := H.look hid w (Fr.refl NoF w)
  rw [hp] at lk
  simp only [Option.map_some, Option.getD_some, Option.isSome_some] at lk
  unfold pageV at lk
  have gq : ((n : Int) == (n : Int)) = true := by simp
  clear H hp hf
  go_enter Tryd.func15, Tryd.ntmps15
  go_wp2
  go_region
  all_goals
    go_wp2
    go_returns
    exact ⟨rfl, by repeat (first | exact Fr.refl NoF _ | apply Fr.drew | apply Fr.alloc)⟩
set_option maxHeartbeats 1000000 in
theorem fetch_first (H : MM w b n room pg pin len mb v h L) {id : Nat} (hid : okId id) {pv : Nat} (hp : pg id = some (pv, 0)) (hf : ¬ pin = n) (hpl : pin + 1 ≤ len) : Calls Tryd.prog 15 #[.pointer (some ⟨b, 0, none⟩), .int .u32 id] w fun e w' => e = .returned (.int .i64 0) ∧
    MM w' b n room (updP pg id (some (pv, 1))) (pin + 1) len mb v h L ∧ Fr (MF b mb v h L) w w' := by
  have c1 : w.cell? ⟨b, 1, none⟩ = some (.map (some mb)) := H.ce 1 (by omega)
  have c0 : w.cell? ⟨b, 0, none⟩ = some (.int .i64 n) := H.ce 0 (by omega)
  have c5 : w.cell? ⟨b, 5, none⟩ = some (.int .i64 pin) := H.ce 5 (by omega)
  have lb := H.lc.blk.lt
  have f5 := H.lc.blk.frozen 5
  have hlen := H.len_le
  have hwf := wf_id hid
  have lk := H.look hid w (Fr.refl NoF w)
  rw [hp] at lk
  simp only [Option.map_some, Option.getD_some, Option.isSome_some] at lk
  unfold pageV at lk
  have hok := H.ok id _ hp
  have gq : ((pin : Int) == (n : Int)) = false := by simp; omega
  have hcw : IntKind.i64.wrap ((pin : Int) + 1) = (pin : Int) + 1 := IntWalk.i64_in _ (by omega)
  obtain ⟨s1, s2⟩ := H.setPin (pin' := pin + 1) hpl
  have S1 : Hid (MM (w.setCell ⟨b, 5, none⟩ (.int .i64 ((pin : Int) + 1))) b n room pg (pin + 1) len mb v h L) := s1
  have S2 : Hid (Fr (fun i => i = b) w (w.setCell ⟨b, 5, none⟩ (.int .i64 ((pin : Int) + 1)))) := s2
  have KM : Hid (∀ W w2, Fr NoF (w.setCell ⟨b, 5, none⟩ (.int .i64 ((pin : Int) + 1))) W → MpV Tryd.prog 33 .u32 zeroP w2 mb (if (pgM pg (id : Int)).isSome then len else len + 1) (updV (pgM pg) (id : Int) (some (.agg #[.int .u64 pv, .int .i64 1]))) → Fr (fun i => i = mb) W w2 → MM w2 b n room (updP pg id (some (pv, 1))) (pin + 1) len mb v h L ∧ Fr (MF b mb v h L) w w2) := fun W w2 f1 hm f2 =>
    ⟨(S1.out.fr0 f1).put (p' := (pv, 1)) hp ⟨hok.1, by show 1 < 1000000; omega⟩ hm f2, ((S2.out.mono (fun i q => .inl q)).trans f1 (fun i q => q.elim)).trans f2 (fun i q => .inl (.inr (.inl q)))⟩
  have y1 : (w.setCell ⟨b, 5, none⟩ (.int .i64 ((pin : Int) + 1))).cell? ⟨b, 1, none⟩ = some (.map (some mb)) := S1.out.ce 1 (by omega)
  clear s1 s2 H hp hf hok
  go_enter Tryd.func15, Tryd.ntmps15
  go_wp2
  go_region
  go_wp2
  have FW : Fr NoF (w.setCell ⟨b, 5, none⟩ (.int .i64 ((pin : Int) + 1))) (((w.setCell ⟨b, 5, none⟩ (.int .i64 ((pin : Int) + 1))).alloc (.cells #[.int .u64 pv, .int .i64 1] 65)).drew.drew) := (((Fr.refl NoF _).alloc _).drew).drew
  obtain ⟨w2, hrun, m1, m2⟩ := (S1.out.fr0 FW).mp.put_run MVm (by omega) hwf (.agg #[.int .u64 pv, .int .i64 1])
  obtain ⟨r1, r2⟩ := KM.out _ w2 FW m1 m2
  have R1 := Lib.hid r1
  have R2 := Lib.hid r2
  clear m1 m2 r1 r2 FW
  go_region
  all_goals
    go_wp2
    go_returns
    exact ⟨rfl, R1.out, R2.out⟩
set_option maxHeartbeats 1000000 in
theorem fetch_more (H : MM w b n room pg pin len mb v h L) {id : Nat} (hid : okId id) {pv q : Nat} (hp : pg id = some (pv, q + 1)) (hq : q + 2 < 1000000) : Calls Tryd.prog 15 #[.pointer (some ⟨b, 0, none⟩), .int .u32 id] w fun e w' => e = .returned (.int .i64 0) ∧
    MM w' b n room (updP pg id (some (pv, q + 2))) pin len mb v h L ∧ Fr (MF b mb v h L) w w' := by
  have c1 : w.cell? ⟨b, 1, none⟩ = some (.map (some mb)) := H.ce 1 (by omega)
  have lb := H.lc.blk.lt
  have hlen := H.len_le
  have hwf := wf_id hid
  have HM := Lib.hid H
  have lk := H.look hid w (Fr.refl NoF w)
  rw [hp] at lk
  simp only [Option.map_some, Option.getD_some, Option.isSome_some] at lk
  unfold pageV at lk
  have hok := H.ok id _ hp
  have KM : Hid (∀ W w2, Fr NoF w W → MpV Tryd.prog 33 .u32 zeroP w2 mb (if (pgM pg (id : Int)).isSome then len else len + 1) (updV (pgM pg) (id : Int) (some (.agg #[.int .u64 pv, .int .i64 ((q : Int) + 2)]))) → Fr (fun i => i = mb) W w2 → MM w2 b n room (updP pg id (some (pv, q + 2))) pin len mb v h L ∧ Fr (MF b mb v h L) w w2) := fun W w2 f1 hm f2 =>
    ⟨(HM.out.fr0 f1).put (p' := (pv, q + 2)) hp ⟨hok.1, hq⟩ (by exact hm) f2, (f1.mono (fun _ q => q.elim)).trans f2 (fun i q => .inl (.inr (.inl q)))⟩
  have g0 : ((q : Int) + 1 == 0) = false := by simp; omega
  have hcw : IntKind.i64.wrap ((q : Int) + 1 + 1) = (q : Int) + 2 := by rw [IntWalk.i64_in _ (by omega)]; omega
  clear H hp hok
  go_enter Tryd.func15, Tryd.ntmps15
  go_wp2
  go_region
  go_wp2
  have FW : Fr NoF w ((w.alloc (.cells #[.int .u64 pv, .int .i64 ((q : Int) + 2)] 65)).drew.drew) := (((Fr.refl NoF _).alloc _).drew).drew
  obtain ⟨w2, hrun, m1, m2⟩ := (HM.out.fr0 FW).mp.put_run MVm (by omega) hwf (.agg #[.int .u64 pv, .int .i64 ((q : Int) + 2)])
  obtain ⟨r1, r2⟩ := KM.out _ w2 FW m1 m2
  have R1 := Lib.hid r1
  have R2 := Lib.hid r2
  clear m1 m2 r1 r2 FW
  go_region
  all_goals
    go_wp2
    go_returns
    exact ⟨rfl, R1.out, R2.out⟩
end
end Go.Proofs.YtnjdoifgljdjcaaDoor
