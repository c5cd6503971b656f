/-
  FrontNews: of all numbers of clients it is told whether there may be a Front; of one that isn't there nothing is told: the row, and its card. No condition of its own; the library's table of trailing zeros (math/bits.deBruijn64tab) is as its initialiser lays it: the card ties it to the program's text.
  What the rows of layer 9 have in common: the library's table, from the row's condition; a world that meets it.
  FrontNews: of all numbers of clients it is told whether there may be a Front; of one that isn't there nothing is told: the walk. (genFroW.py)
  Front: what the law is told, in memory: the walk.
  Front: what the law is told, in memory.
  Front: what the law is told, pure.
  A new pool, whichever Replacer it has.
  pool: a new one, whole; what the law is told first.
  pool: New.
-/
import Derived.Test.YtmpjnphnljakiaaGreatDoorK27
import Derived.Deep.RegionHeld3
import Derived.Deep.Cut
import Derived.Test.YtmpjnphnljakiaaGreatDoorK22
import Derived.Test.YtmpjnphnljakiaaGreatDoorK19
import Derived.Test.YtmpjnphnljakiaaGreatDoorK18
import Derived.Test.YtmpjnphnljakiaaGreatDoorK09
import Derived.Test.YtmpjnphnljakiaaGreatDoorTie
import Derived.ProofKit
import Derived.OpenShut
import Derived.ChangeOld
import Derived.Below
import Derived.LaidLaws
import Derived.Handed
import Derived.Lib.LaidTab
import Derived.SevenTiedAt
import Derived.Test.YtmpjnphnljakiaaGreatDoorCards
namespace Go.Proofs.YtmpjnphnljakiaaGreatDoor
open Go.RowKit Go.Maps
set_option linter.unusedVariables false
set_option linter.unusedSimpArgs false
set_option linter.unusedSectionVars false
set_option maxRecDepth 100000
section
variable {w w' : World}
theorem pnew_nil (n : Int) (l : Nat) : Calls Tryz.prog 5 #[.pointer none, .int .i64 n, advV l] w fun e w' => e = .returned (.tuple #[.pointer none, .int .i64 1]) ∧ w = w' := by
  unfold advV
  go_enter Tryz.func5, Tryz.ntmps5
  go_wp2
  go_returns
  exact ⟨rfl, rfl⟩
theorem pnew_no (n : Int) (l db : Nat) (h : n < 1 ∨ 65535 < n) : Calls Tryz.prog 5 #[.pointer (some ⟨db, 0, none⟩), .int .i64 n, advV l] w fun e w' => e = .returned (.tuple #[.pointer none, .int .i64 1]) ∧ w = w' := by
  unfold advV
  rcases Int.lt_or_le n 1 with h1 | h1
  · have g1 : decide (n < 1) = true := decide_eq_true h1
    go_enter Tryz.func5, Tryz.ntmps5
    go_wp2
    go_returns
    exact ⟨rfl, rfl⟩
  · have g1 : decide (n < 1) = false := decide_eq_false (by omega)
    have g2 : decide (65535 < n) = true := decide_eq_true (by omega)
    have g3 : decide (n > 65535) = true := decide_eq_true (by omega)
    go_enter Tryz.func5, Tryz.ntmps5
    go_wp2
    go_returns
    exact ⟨rfl, rfl⟩
/-- A set, and between which blocks it lies. -/
theorem full_at (n : Nat) (w : World) (h1 : 1 ≤ n) (h2 : n ≤ 65535) : Calls Tryz.prog 15 #[.int .i64 n] w fun e w' => ∃ v h L lo hi, lo = w.heap.size ∧ hi = w'.heap.size ∧ e = .returned (.agg #[.int .i64 n, .int .i64 n, v]) ∧ LS w' n (belowB n) v h L ∧ (∀ k, LF v h L k → lo ≤ k ∧ k < hi) ∧ Fr NoF w w' :=
  (full_calls n w h1 h2).mono fun e w' ⟨v, h, L, he, q1, q2, q3⟩ => ⟨v, h, L, _, _, rfl, rfl, he, q1, fun k q => ⟨q2 k q, q1.r.lt k q⟩, q3⟩
theorem empty_at (n : Nat) (w : World) (h1 : 1 ≤ n) (h2 : n ≤ 65535) : Calls Tryz.prog 16 #[.int .i64 n] w fun e w' => ∃ v h L lo hi, lo = w.heap.size ∧ hi = w'.heap.size ∧ e = .returned (.agg #[.int .i64 n, .int .i64 0, v]) ∧ LS w' n noneB v h L ∧ (∀ k, LF v h L k → lo ≤ k ∧ k < hi) ∧ Fr NoF w w' :=
  (empty_calls n w h1 h2).mono fun e w' ⟨v, h, L, he, q1, q2, q3⟩ => ⟨v, h, L, _, _, rfl, rfl, he, q1, fun k q => ⟨q2 k q, q1.r.lt k q⟩, q3⟩
theorem frV_made {n b : Nat} (hb : b = w.heap.size) : Blk (w.alloc (.cells (madeCells #[.int .u32 0, .int .u64 0, .int .i64 0, .bool false] (n * 4)) 109)) b (n * 4) (frV fun _ => zF) := by
  refine Blk.new w _ _ _ _ _ hb (size_madeCells _ _) (fun i hi => ?_)
  rw [made_at hi]
  unfold frV
  have h4 : i % 4 = 0 ∨ i % 4 = 1 ∨ i % 4 = 2 ∨ i % 4 = 3 := by omega
  show some (#[Value.int .u32 0, .int .u64 0, .int .i64 0, .bool false][i % 4]!) = _
  rcases h4 with e | e | e | e <;> rw [e] <;> rfl
theorem mpi_new {b : Nat} (hb : b = w.heap.size) : MpV Tryz.prog 44 .u32 (.int .i64 0) (w.alloc (.map #[] 0)) b 0 (plV fun _ => none) := by
  subst hb
  have e : plV (fun _ => none) = fun _ => none := by funext x; unfold plV; split <;> rfl
  rw [e]; exact MpV.made _ _ _ _ _
theorem mpi_drew {b c : Nat} {m : Int → Option Value} (h : MpV Tryz.prog 44 .u32 (.int .i64 0) w b c m) : MpV Tryz.prog 44 .u32 (.int .i64 0) w.drew b c m := h.ofHeap rfl
theorem ls_fr {bound : Nat} {S : Nat → Bool} {v : Value} {h : Nat → Nat} {L : Nat} (H : LS w bound S v h L) (f : Fr NoF w w') : LS w' bound S v h L := ⟨H.r.fr f (fun _ _ q => q), H.dom⟩
theorem fr_no {a b c : World} (h : Fr NoF a b) (k : Fr NoF b c) : Fr NoF a c := h.trans k (fun _ q => q.elim)
/-- The struct is laid. -/
theorem pnew_fin {X : World} {n db fb mb pb loE hiE loI hiI : Nat} {rv ev iv : Value} {eh ih : Nat → Nat} {eL iL : Nat} (hw : Fr NoF w X) (hpb : pb = X.heap.size) (hn : 1 ≤ n ∧ n ≤ 65535) (ht : TabT w)
    (hf : Blk X fb (n * 4) (frV fun _ => zF)) (hm : MpV Tryz.prog 44 .u32 (.int .i64 0) X mb 0 (plV fun _ => none)) (he : LS X n (belowB n) ev eh eL) (hi : LS X n noneB iv ih iL)
    (b1 : ∀ k, LF ev eh eL k → loE ≤ k ∧ k < hiE) (b2 : ∀ k, LF iv ih iL k → loI ≤ k ∧ k < hiI) (d1 : ¬ fb = mb ∧ w.heap.size ≤ fb ∧ w.heap.size ≤ mb ∧ w.heap.size ≤ loE ∧ w.heap.size ≤ loI) (d2 : hiE ≤ loI ∨ hiI ≤ loE) (d3 : (fb < loE ∨ hiE ≤ fb) ∧ (fb < loI ∨ hiI ≤ fb) ∧ (mb < loE ∨ hiE ≤ mb) ∧ (mb < loI ∨ hiI ≤ mb)) :
    MP (X.alloc (.cells #[.pointer (some ⟨db, 0, none⟩), rv, .slice (some ⟨fb, 0, none⟩) n n, .map (some mb), .int .i64 n, .int .i64 n, ev, .int .i64 n, .int .i64 0, iv, .int .i64 0] 60)) ⟨n, pb, db, fb, mb, rv, ev, eh, eL, iv, ih, iL⟩ (fun _ => zF) (fun _ => none) (belowB n) noneB 0 0 ∧
    (∀ i, (PP.mk n pb db fb mb rv ev eh eL iv ih iL).own i → w.heap.size ≤ i) ∧ Fr NoF w (X.alloc (.cells #[.pointer (some ⟨db, 0, none⟩), rv, .slice (some ⟨fb, 0, none⟩) n n, .map (some mb), .int .i64 n, .int .i64 n, ev, .int .i64 n, .int .i64 0, iv, .int .i64 0] 60)) := by
  have fz := (Fr.refl NoF X).alloc (.cells #[.pointer (some ⟨db, 0, none⟩), rv, .slice (some ⟨fb, 0, none⟩) n n, .map (some mb), .int .i64 n, .int .i64 n, ev, .int .i64 n, .int .i64 0, iv, .int .i64 0] 60)
  have lf := hf.lt
  have lm := hm.lt
  have le := he.r.lt
  have li := hi.r.lt
  have hs := hw.size
  have htl := ht.lt
  have howns : ∀ i, (PP.mk n pb db fb mb rv ev eh eL iv ih iL).own i → w.heap.size ≤ i := fun i q => by
    rcases q with q | q | q | q | q
    · have q' : i = pb := q; omega
    · have q' : i = fb := q; omega
    · have q' : i = mb := q; omega
    · have := b1 i q; omega
    · have := b2 i q; omega
  refine ⟨⟨Blk.new X _ _ 11 _ _ hpb rfl (fun i hi => ?_), hf.fr fz (fun q => q), ⟨0, Nat.le_refl _, hm.fr fz (fun q => q)⟩, ls_fr he fz, ls_fr hi fz, ⟨by show ¬ fb = pb; omega, by show ¬ mb = pb; omega, by show ¬ mb = fb; omega⟩, fun i q => ?_, fun i q => ?_, (ht.fr0 hw).fr0 fz, fun q => by have := howns _ q; omega, Nat.le_refl _, fun i => ⟨by show 0 < _; omega, by show 0 < _; omega, by show 0 ≤ 0; omega⟩⟩, howns, fr_no hw fz⟩
  · have e1 : cntB (belowB n) n = n := cntB_below n n (Nat.le_refl _)
    have e2 : cntB noneB n = 0 := (cnt_none n noneB).2 (by
      cases e : fstB n noneB with
      | none => rfl
      | some x => have := (fstB_some e).2.1; cases this)
    show _ = some (pH _ (cntB (belowB n) n) (cntB noneB n) 0 i)
    rw [e1, e2]
    match i, hi with
    | 0, _ | 1, _ | 2, _ | 3, _ | 4, _ | 5, _ | 6, _ | 7, _ | 8, _ | 9, _ | 10, _ => rfl
  · have q' : LF ev eh eL i := q
    have r1 := b1 i q'
    have r2 := le i q'
    refine ⟨by show ¬ i = pb; omega, by show ¬ i = fb; omega, by show ¬ i = mb; omega, fun k => ?_⟩
    have r3 := b2 i k
    omega
  · have q' : LF iv ih iL i := q
    have r1 := b2 i q'
    have r2 := li i q'
    exact ⟨by show ¬ i = pb; omega, by show ¬ i = fb; omega, by show ¬ i = mb; omega⟩
theorem pnew_step {X : World} {n db fb mb loE hiE loI hiI : Nat} {rv ev iv : Value} {eh ih : Nat → Nat} {eL iL : Nat} {Post : Ending → World → Prop} (hw : Fr NoF w X) (hn : 1 ≤ n ∧ n ≤ 65535) (ht : TabT w)
    (hf : Blk X fb (n * 4) (frV fun _ => zF)) (hm : MpV Tryz.prog 44 .u32 (.int .i64 0) X mb 0 (plV fun _ => none)) (he : LS X n (belowB n) ev eh eL) (hi : LS X n noneB iv ih iL)
    (b1 : ∀ k, LF ev eh eL k → loE ≤ k ∧ k < hiE) (b2 : ∀ k, LF iv ih iL k → loI ≤ k ∧ k < hiI) (d1 : ¬ fb = mb ∧ w.heap.size ≤ fb ∧ w.heap.size ≤ mb ∧ w.heap.size ≤ loE ∧ w.heap.size ≤ loI) (d2 : hiE ≤ loI ∨ hiI ≤ loE) (d3 : (fb < loE ∨ hiE ≤ fb) ∧ (fb < loI ∨ hiI ≤ fb) ∧ (mb < loE ∨ hiE ≤ mb) ∧ (mb < loI ∨ hiI ≤ mb))
    (h : ∀ XW (p : PP), (p.n = n ∧ p.db = db ∧ p.rv = rv ∧ p.pb = X.heap.size ∧ p.mb = mb) → MP XW p (fun _ => zF) (fun _ => none) (belowB n) noneB 0 0 → (∀ i, p.own i → w.heap.size ≤ i) → Fr NoF w XW → Calls Tryz.prog 17 #[.pointer (some ⟨db, 0, none⟩)] XW Post) :
    Calls Tryz.prog 17 #[.pointer (some ⟨db, 0, none⟩)] (X.alloc (.cells #[.pointer (some ⟨db, 0, none⟩), rv, .slice (some ⟨fb, 0, none⟩) n n, .map (some mb), .int .i64 n, .int .i64 n, ev, .int .i64 n, .int .i64 0, iv, .int .i64 0] 60)) Post := by
  obtain ⟨q1, q2, q3⟩ := pnew_fin (db := db) (rv := rv) hw rfl hn ht hf hm he hi b1 b2 d1 d2 d3
  exact h _ _ ⟨rfl, rfl, rfl, rfl, rfl⟩ q1 q2 q3
/-- The first k of the disk's pages are known. -/
def plK (ids : List Nat) (k : Nat) : Nat → Option Int := fun id => if id ∈ ids.take k then some (-1) else none
theorem plK_0 (ids : List Nat) : plK ids 0 = fun _ => none := by funext x; simp [plK]
theorem mem_take (ids : List Nat) {k : Nat} (hk : k < ids.length) (y : Nat) : y ∈ ids.take (k + 1) ↔ y ∈ ids.take k ∨ y = ids[k] := by
  rw [List.take_add_one, List.mem_append]
  simp [hk]
theorem plK_next (ids : List Nat) {k : Nat} (hk : k < ids.length) : updO (plK ids k) ids[k] (some (-1)) = plK ids (k + 1) := by
  funext y
  by_cases e : y = ids[k]
  · rw [e, updO_same]
    unfold plK
    rw [if_pos ((mem_take ids hk _).2 (.inr rfl))]
  · rw [updO_other _ _ e]
    unfold plK
    by_cases q : y ∈ ids.take k
    · rw [if_pos q, if_pos ((mem_take ids hk y).2 (.inl q))]
    · rw [if_neg q, if_neg (fun h => ((mem_take ids hk y).1 h).elim q e)]
theorem drew_size (w : World) : w.drew.heap.size = w.heap.size := rfl
theorem plK_all (ids : List Nat) : plK ids ids.length = fun id => if id ∈ ids then some (-1) else none := by funext y; unfold plK; rw [List.take_length]
set_option maxHeartbeats 8000000 in
theorem pnew_made (n db : Nat) {rv : Value} {it : TypeId} {iv0 : Value} (hrv : rv = .iface it iv0) (w : World) (hn : 1 ≤ n ∧ n ≤ 65535) (ht : TabT w) {ids : List Nat} (hil : ids.length ≤ 1000) (hid : ∀ x ∈ ids, x < 4294967296) (hP : ∀ W, Fr NoF w W → Calls Tryz.prog 17 #[.pointer (some ⟨db, 0, none⟩)] W fun e w' => ∃ v, e = .returned v ∧ OwK .u32 W.heap.size 44 w' v ids ∧ Fr NoF W w') :
    Calls Tryz.prog 5 #[.pointer (some ⟨db, 0, none⟩), .int .i64 n, rv] w fun e w' => ∃ p : PP, p.n = n ∧ p.db = db ∧ p.rv = rv ∧ e = .returned (.tuple #[p.ptr, .int .i64 0]) ∧ MP w' p (fun _ => zF) (fun id => if id ∈ ids then some (-1) else none) (belowB n) noneB 0 1000 ∧ (∀ i, p.own i → w.heap.size ≤ i) ∧ Fr NoF w w' := by
  subst hrv
  obtain ⟨i0, hi0, hz0, hz1, hz2⟩ := info_parts' (P := Tryz.prog) (e := 109) (z := .agg #[.int .u32 0, .int .u64 0, .int .i64 0, .bool false]) (s := 4) (b := 32) (by kernel_rfl)
  have mk1 : ∀ (w : World), (Instr.makeSlice 53 (.int .i64 (n : Int)) (.int .i64 (n : Int))).run Tryz.prog w =
      .ok (.slice (some ⟨w.heap.size, 0, none⟩) n n) (w.alloc (.cells (madeCells #[.int .u32 0, .int .u64 0, .int .i64 0, .bool false] (n * 4)) 109)) := by
    intro w
    have := run_make (P := Tryz.prog) w 53 109 i0 _ Tryz.underlying53 hi0 hz0 .i64 .i64 (n : Int) (n : Int) (by omega) (Int.le_refl _) (by rw [hz2]; omega) (by omega)
    rw [show (n : Int).toNat = n from by omega, hz1] at this
    exact this
  have hmm := @run_makeMap Tryz.prog
  have g1 : decide ((n : Int) < 1) = false := by simp; omega
  have g2 : decide (65535 < (n : Int)) = false := by simp; omega
  have HNN := Lib.hid hn
  have HP := Lib.hid hP
  have HT := Lib.hid ht
  have HID := Lib.hid hid
  clear hi0 hz0 hz1 hz2 hn hP ht hid
  go_enter Tryz.func5, Tryz.ntmps5
  go_upto_region 3 with fail
  clear g1 g2
  go_region_held3 (fun w' => True)
    (trivial)
    (first
    | (go_at_call 15; (refine (full_at n _ HNN.out.1 HNN.out.2).mono ?_); rintro e wE ⟨ev, eh, eL, loE, hiE, zE1, zE2, rfl, k1, k2, fE⟩; have K1 := Lib.hid k1; have K2 := Lib.hid k2; have FE := Lib.hid fE; have ZE1 := Lib.hid zE1; have ZE2 := Lib.hid zE2; clear k1 k2 fE zE1 zE2)
    | (go_at_call 16; (refine (empty_at n _ HNN.out.1 HNN.out.2).mono ?_); rintro e wI ⟨iv, ih, iL, loI, hiI, zI1, zI2, rfl, k3, k4, fI⟩; have K3 := Lib.hid k3; have K4 := Lib.hid k4; have FI := Lib.hid fI; have ZI1 := Lib.hid zI1; have ZI2 := Lib.hid zI2; clear k3 k4 fI zI1 zI2))
  all_goals
    go_wp2_with fail
    have a1 := ZE1.out
    have a2 := ZE2.out
    have a3 := ZI1.out
    have a4 := ZI2.out
    have a5 := FE.out.size
    have a6 := FI.out.size
    (try simp only [alloc_size, drew_size] at a1)
    (try simp only [alloc_size, drew_size] at a2)
    (try simp only [alloc_size, drew_size] at a3)
    (try simp only [alloc_size, drew_size] at a4)
    (try simp only [alloc_size, drew_size] at a5)
    (try simp only [alloc_size, drew_size] at a6)
    refine pnew_step
       (by repeat (first | (with_reducible exact Fr.refl NoF _) | (with_reducible refine Fr.alloc ?_ _) | (with_reducible refine Fr.drew ?_) | (with_reducible refine fr_no ?_ FE.out) | (with_reducible refine fr_no ?_ FI.out)))
       HNN.out HT.out
       (by repeat (first | ((with_reducible refine frV_made ?_); first | rfl | (simp only [alloc_size]; done) | simp) | (with_reducible refine Blk.alloc ?_ _) | (with_reducible refine Blk.drew ?_) | (with_reducible refine Blk.fr ?_ FE.out (fun q => q)) | (with_reducible refine Blk.fr ?_ FI.out (fun q => q))))
       (by repeat (first | ((with_reducible refine mpi_new ?_); first | rfl | (simp only [alloc_size]; done) | simp) | (with_reducible refine MpV.alloc ?_ _) | (with_reducible refine mpi_drew ?_) | (with_reducible refine MpV.fr ?_ FE.out (fun q => q)) | (with_reducible refine MpV.fr ?_ FI.out (fun q => q))))
       (ls_fr K1.out (by repeat (first | (with_reducible exact Fr.refl NoF _) | (with_reducible refine Fr.alloc ?_ _) | (with_reducible refine Fr.drew ?_) | (with_reducible refine fr_no ?_ FI.out))))
       (ls_fr K3.out (by repeat (first | (with_reducible exact Fr.refl NoF _) | (with_reducible refine Fr.alloc ?_ _) | (with_reducible refine Fr.drew ?_) | (with_reducible refine fr_no ?_ FE.out))))
       K2.out K4.out
       (by omega) (by omega) (by omega) ?_
    rintro XW p ⟨hpn, hpd, hpr, hpb, hpm⟩ hmp hown hfr
    (try simp only [alloc_size, drew_size] at hpb)
    (try simp only [alloc_size, drew_size] at hpm)
    have HPN := Lib.hid hpn
    have HPD := Lib.hid hpd
    have HPR := Lib.hid hpr
    have HPB := Lib.hid hpb
    have HPM := Lib.hid hpm
    clear hpn hpd hpr hpb hpm
    have HM := Lib.hid hmp
    have HW := Lib.hid hown
    have HF := Lib.hid hfr
    have hs0 := hfr.size
    clear hmp hown hfr a1 a2 a3 a4 a5 a6 FE FI K1 K2 K3 K4 ZE1 ZE2 ZI1 ZI2
    refine (HP.out XW HF.out).mono ?_
    rintro e w4 ⟨v, rfl, ho, f4⟩
    have HO := Lib.hid ho
    have F4 := Lib.hid f4
    obtain ⟨sa, sc, rfl, s1, s2⟩ := SlK.shape ho.sl
    have HSC := Lib.hid s2
    have hmp4 := HM.out.fr0 f4
    have ho2 := ho
    clear ho f4 s2
    have hbase := ho2.base
    have hmbx : p.mb < XW.heap.size := HM.out.lt _ (.inr (.inr (.inl rfl)))
    have HMP4 := Lib.hid hmp4
    have HBX := Lib.hid (show ∀ b, (Value.slice sa ids.length sc).ownBlock = some b → ¬ b = p.mb from fun b q e => by have := hbase b q; omega)
    clear hmp4 ho2 hbase hmbx
    go_wp2_with fail
    go_loopw [39] (fun i wr => ∃ k : Nat, k ≤ ids.length ∧ i = .int .i64 k ∧ MP wr p (fun _ => zF) (plK ids k) (belowB n) noneB 0 k ∧ Fr (fun i => i = p.mb) w4 wr) (fun i _ => ids.length - (intOf i).toNat)
    case atStart => exact ⟨0, Nat.zero_le _, rfl, by rw [plK_0]; exact HMP4.out, Fr.refl _ _⟩
    case round =>
      obtain ⟨k, hk, rfl, hm5, f5⟩ := hrel
      have HM5 := Lib.hid hm5
      have F5 := Lib.hid f5
      have c3 : wr.cell? ⟨p.pb, 3, none⟩ = some (.map (some p.mb)) := hm5.ce 3 (by omega)
      have l5 := hm5.hd.lt
      rw [HPB.out, HPM.out] at c3
      rw [HPB.out] at l5
      by_cases hlt : k < ids.length
      · obtain ⟨b, off, c, ev5, q1, q2, q3, q4⟩ := (SlK.fr HO.out.sl f5 (fun b q e => HBX.out b q e)).at hlt
        simp only [Value.slice.injEq] at ev5
        obtain ⟨rfl, _, rfl⟩ := ev5
        obtain ⟨w6, r6, h6, g6⟩ := hm5.put (by omega) (HID.out _ (List.getElem_mem hlt)) (-1)
        rw [plK_next ids hlt] at h6
        rw [HPM.out] at r6
        have H6 := Lib.hid h6
        have G6 := Lib.hid g6
        generalize ids[k] = idk at *
        clear hm5 f5 h6 g6
        go_wp2
        go_roundw
        case rel => exact ⟨k + 1, by omega, by go_num, H6.out, F5.out.trans G6.out (fun i q => .inl q)⟩
        case measure => simp [intOf]; omega
      · obtain rfl : k = ids.length := by omega
        clear hm5 f5
        go_wp2
        go_returns
        refine ⟨p, HPN.out, HPD.out, HPR.out, by unfold PP.ptr; rw [HPB.out]; rfl, by rw [← plK_all]; exact HM5.out.more (by omega), HW.out, ?_⟩
        refine (HF.out.trans F4.out (fun _ q => q.elim)).trans F5.out (fun i q => .inr (by rw [q]; exact HW.out _ (.inr (.inr (.inl rfl)))))
end
end Go.Proofs.YtmpjnphnljakiaaGreatDoor
namespace Go.Proofs.YtmpjnphnljakiaaGreatDoor
open Go.RowKit Go.Maps
set_option linter.unusedVariables false
set_option linter.unusedSimpArgs false
set_option linter.unusedSectionVars false
set_option maxRecDepth 100000
theorem emB_zero (n : Nat) : emB n (fun _ => zF) = belowB n := by funext i; unfold emB belowB; simp [zF]
theorem idB_zero (n : Nat) : idB n (fun _ => zF) = noneB := by funext i; unfold idB noneB; simp [zF]
theorem plO_zero (n : Nat) (r : RS) (h0 : r.has 0 = false) : plO n (fun _ => zF) r = fun id => if id ∈ r.L.map (·.1) then some (-1) else none := by
  funext id
  unfold plO
  by_cases h : r.has id = true
  · rw [if_pos h, if_pos (show id ∈ r.L.map (·.1) from (r.has_iff id).1 h), frm_eq_none (fun i hi q => by rw [← q] at h; rw [show (zF.id) = 0 from rfl, h0] at h; cases h)]
    rfl
  · rw [if_neg h, if_neg (show ¬ id ∈ r.L.map (·.1) from fun q => h ((r.has_iff id).2 q))]
theorem pnew_pw {τ : Type} {RR : World → τ → (Nat → Prop) → Prop} {ok : Nat → τ → (Nat → Nat) → (Nat → Bool) → Prop} {a : τ} {n db m0 : Nat} {r : RS} {rv iv0 : Value} {it : TypeId} {w : World} {FD FA : Nat → Prop} (hcd : CD db r m0 w FD) (hm0 : m0 ≤ 1000) (hrr : RR w a FA) (hfr : ∀ {w w' : World}, RR w a FA → Fr NoF w w' → RR w' a FA) (hlt : ∀ i, FA i → i < w.heap.size)
    (hs : ∀ i, FD i → ¬ FA i) (ht : TabT w) (ht1 : ¬ FD 0 ∧ ¬ FA 0) (hrv : rv = .iface it iv0) (hn : 1 ≤ n ∧ n ≤ 65535) (hL : r.L.length ≤ 1000) (hI : Inv n (fun _ => zF) r) (hok : ok 1000 a (fun _ => 0) (fun _ => true)) :
    Calls Tryz.prog 5 #[.pointer (some ⟨db, 0, none⟩), .int .i64 n, rv] w fun e w' => ∃ p : PP, p.n = n ∧ p.db = db ∧ p.rv = rv ∧ e = .returned (.tuple #[p.ptr, .int .i64 0]) ∧ (∃ F, PW RR ok p ⟨fun _ => zF, r, a, 0⟩ 1000 w' F ∧ (∀ i, F i → FD i ∨ FA i ∨ w.heap.size ≤ i)) ∧ Fr NoF w w' := by
  have hroom := hcd.room
  have hh0 : r.has 0 = false := by
    cases e : r.has 0 with
    | false => rfl
    | true => have := hI.pos e; omega
  refine (pnew_made n db hrv w hn ht (ids := r.L.map (·.1)) (by rw [List.length_map]; exact hL) (fun x hx => by
    obtain ⟨y, hy, rfl⟩ := List.mem_map.1 hx
    have := hcd.ids y hy
    omega) (fun W hW => cd_pages (hcd.fr0 hW))).mono ?_
  rintro e w' ⟨p, h1, h2, h3, he, hmp, hown, hf⟩
  refine ⟨p, h1, h2, h3, he, ⟨fun i => p.own i ∨ FD i ∨ FA i, ⟨⟨FD, FA, ⟨?_, by rw [h2]; exact (hcd.fr0 hf).more hm0, hfr hrr hf, fun i q => ⟨fun k => ?_, fun k => ?_⟩, hs, ht1⟩, fun i => Iff.rfl⟩, by rw [h1]; exact hI, hok⟩, fun i q => ?_⟩, hf⟩
  · show MP w' p (fun _ => zF) (plO p.n (fun _ => zF) r) (emB p.n (fun _ => zF)) (idB p.n (fun _ => zF)) 0 1000
    rw [emB_zero, idB_zero, plO_zero p.n r hh0, h1]
    exact hmp
  · have := hown i q; have := hcd.lt i k; omega
  · have := hown i q; have := hlt i k; omega
  · rcases q with q | q | q
    · exact .inr (.inr (hown i q))
    · exact .inl q
    · exact .inr (.inl q)
/-! The first pages, reckoned. -/
def tX0 : PS (List Int) := ⟨fun _ => zF, ⟨9, [], [], [], 0, 0, false, 0⟩, [], 0⟩
def tX1 : PS (List Int) := ⟨upd (fun _ => zF) 0 ⟨1, 0, 1, false⟩, ⟨9, [(1, 0)], [], [], 0, 0, false, 0⟩, [], 0⟩
def tX2 : PS (List Int) := ⟨upd (upd (fun _ => zF) 0 ⟨1, 0, 1, false⟩) 0 ⟨1, 0, 0, false⟩, ⟨9, [(1, 0)], [], [], 0, 0, false, 0⟩, [], 0⟩
def tX3 : PS (List Int) := ⟨upd (upd (upd (upd (fun _ => zF) 0 ⟨1, 0, 1, false⟩) 0 ⟨1, 0, 0, false⟩) 0 zF) 0 ⟨2, 0, 1, false⟩, ⟨9, [(1, 0), (2, 0)], [], [], 0, 0, false, 0⟩, [], 1⟩
theorem gap_0 : gapOf [] = 0 := Gap.same (gapOf_is []) ⟨Nat.le_refl _, fun j hj _ => absurd hj (Nat.not_lt_zero j), fun hk => absurd hk (Nat.lt_irrefl 0)⟩
theorem gap_1 : gapOf [(1, 0)] = 1 := Gap.same (gapOf_is [(1, 0)]) ⟨Nat.le_refl _, fun j hj h => by
  have e : j = 0 := by omega
  subst e; rfl, fun hk => absurd hk (Nat.lt_irrefl 1)⟩
theorem t_np0 : tX0.newPage advP 1 = ((1, 0), tX1) := by
  unfold PS.newPage
  rw [show tX0.D.L = [] from rfl, gap_0]
  rfl
theorem t_np1 : tX1.newPage advP 1 = ((0, 6), tX1) := by
  unfold PS.newPage
  rw [show tX1.all 1 = true from rfl]
  rfl
theorem t_un1 : tX1.unpin advP 1 1 = (0, tX2) := rfl
theorem t_np2 : tX2.newPage advP 1 = ((2, 0), tX3) := by
  unfold PS.newPage
  rw [show tX2.D.L = [(1, 0)] from rfl, gap_1]
  rfl
theorem t_fe3 : tX3.fetch advP 1 1 = (6, tX3) := rfl
theorem t_fr2 : tX3.frame 1 2 = 0 := rfl
theorem t_fr1 : tX3.frame 1 1 = -1 := rfl
theorem t_hs1 : tX3.D.has 1 = true := rfl
theorem t_inv : Inv 1 (fun _ => zF) tX0.D := by
  refine ⟨fun i hi h => rfl, fun i hi h => absurd rfl h, fun i j hi hj h => absurd rfl h, ⟨dk0 9, ?_⟩, fun x hx => (by cases hx), fun i hi => by decide⟩
  exact ⟨rfl, rfl, rfl, rfl, rfl, fun q => (by cases q), fun id _ _ => rfl, fun id _ _ => rfl, by show 0 ≤ 9; omega⟩
end Go.Proofs.YtmpjnphnljakiaaGreatDoor
namespace Go.Proofs.YtmpjnphnljakiaaGreatDoor
open Go.RowKit Go.Maps
set_option linter.unusedVariables false
set_option linter.unusedSimpArgs false
set_option linter.unusedSectionVars false
set_option maxRecDepth 100000

/-- A Replacer of n frames that knows none of them yet; q: its victims may go. -/
def NewRep (n : Nat) (q : Bool) (rv : Value) (w : World) (F : Nat → Prop) : Prop :=
  (∃ it iv, rv = .iface it iv) ∧ ∃ (τ : Type) (P : Adv τ) (RR : World → τ → (Nat → Prop) → Prop) (ok : Nat → τ → (Nat → Nat) → (Nat → Bool) → Prop) (s : τ), (∀ pb, RepSys P RR pb rv n ok) ∧ RR w s F ∧ ok 1000 s (fun _ => 0) (fun _ => true) ∧ (q = true → Good0 P n ok)
theorem NewRep.fr0 {n : Nat} {q : Bool} {rv : Value} {w w' : World} {F : Nat → Prop} (h : NewRep n q rv w F) (f : Fr NoF w w') : NewRep n q rv w' F := by
  obtain ⟨e, τ, P, RR, ok, s, h1, h2, h3, h4⟩ := h
  exact ⟨e, τ, P, RR, ok, s, h1, (h1 0).fr h2 f (fun _ _ q => q), h3, h4⟩
theorem NewRep.lt {n : Nat} {q : Bool} {rv : Value} {w : World} {F : Nat → Prop} (h : NewRep n q rv w F) : ∀ i, F i → i < w.heap.size := by
  obtain ⟨e, τ, P, RR, ok, s, h1, h2, h3, h4⟩ := h
  exact (h1 0).lt h2
theorem newA {n lb : Nat} {w : World} {l : List Int} {F : Nat → Prop} (h : AR lb w l F) : NewRep n false (advV lb) w F :=
  ⟨⟨_, _, rfl⟩, List Int, advP, AR lb, (fun _ _ _ _ => True), l, fun pb => adv_sys pb lb n, h, trivial, fun q => by cases q⟩
/-- A new disk's map. -/
def am0 (room : Nat) : AM := ⟨[], fun _ => 0, fun _ => 0, room⟩
theorem abs_0 {τ : Type} {n room : Nat} {a : τ} (hI : Inv n (fun _ => zF) ⟨room, [], [], [], 0, 0, false, 0⟩) : Abs n ⟨fun _ => zF, ⟨room, [], [], [], 0, 0, false, 0⟩, a, 0⟩ (am0 room) :=
  ⟨hI, rfl, rfl, fun id h1 => by
    show 0 = pinF n (fun _ => zF) id
    rw [pinF_no (fun i _ q => by have : (0 : Nat) = id := q; omega)], fun id _ hm => (by cases hm), fun i _ h0 => (h0 rfl).elim, ⟨rfl, rfl, rfl⟩⟩
theorem inv_0 (n : Nat) {room : Nat} (h : room ≤ 65535) : Inv n (fun _ => zF) ⟨room, [], [], [], 0, 0, false, 0⟩ := by
  refine ⟨fun i hi h => rfl, fun i hi h => absurd rfl h, fun i j hi hj h => absurd rfl h, ⟨dk0 room, ?_⟩, fun x hx => (by cases hx), fun i hi => by decide⟩
  exact ⟨rfl, rfl, rfl, rfl, rfl, fun q => (by cases q), fun id _ _ => rfl, fun id _ _ => rfl, Nat.zero_le _⟩
theorem any_new {q : Bool} {room n db m0 : Nat} {rv : Value} {w : World} {FD FA : Nat → Prop} (hcd : CD db ⟨room, [], [], [], 0, 0, false, 0⟩ m0 w FD) (hm0 : m0 ≤ 1000) (hr : NewRep n q rv w FA) (hs : ∀ i, FD i → ¬ FA i) (ht : TabT w) (ht1 : ¬ FD 0 ∧ ¬ FA 0) (hn : 1 ≤ n ∧ n ≤ 65535) (hroom : room ≤ 65535) :
    Calls Tryz.prog 5 #[.pointer (some ⟨db, 0, none⟩), .int .i64 n, rv] w fun e w' => ∃ p : PP, p.n = n ∧ p.db = db ∧ p.rv = rv ∧ e = .returned (.tuple #[p.ptr, .int .i64 0]) ∧ (∃ F, AnyK p q 0 0 (fun _ => -1) (am0 room) 1000 w' F ∧ (∀ i, F i → FD i ∨ FA i ∨ w.heap.size ≤ i)) ∧ Fr NoF w w' := by
  obtain ⟨⟨it, iv, hiv⟩, τ, P, RR, ok, s, h1, h2, h3, h4⟩ := hr
  refine (pnew_pw hcd hm0 h2 (fun h f => (h1 0).fr h f (fun _ _ q => q)) ((h1 0).lt h2) hs ht ht1 hiv hn (Nat.zero_le _) (inv_0 n hroom) h3).mono ?_
  rintro e w' ⟨p, e1, e2, e3, he, ⟨F, k1, k2⟩, f⟩
  refine ⟨p, e1, e2, e3, he, ⟨F, ⟨τ, P, RR, ok, _, by rw [e1, e3]; exact h1 _, k1, by rw [e1]; exact abs_0 (inv_0 n hroom), fun x _ => rfl, fun hq => ⟨rfl, by rw [e1]; exact h4 hq⟩, rfl, (by show 0 + drt p.n (fun _ => zF) ≤ 0; rw [drt_0]; exact Nat.le_refl _), fun id => rfl⟩, k2⟩, f⟩
end Go.Proofs.YtmpjnphnljakiaaGreatDoor
namespace Go.Proofs.YtmpjnphnljakiaaGreatDoor
open Go.RowKit Go.Maps
set_option linter.unusedVariables false
set_option linter.unusedSimpArgs false
set_option maxRecDepth 100000
/-- Two clients: one makes a page, the other reads it. -/
def toldL : Nat → List OpF := fun i => if i = 0 then [⟨0, 0, 0⟩] else [⟨3, 1, 0⟩]
def toldM : AM := { am0 9 with ids := [1], val := upd (fun _ => 0) 1 0, pin := upd (fun _ => 0) 1 1 }
theorem gap_am0 (r : Nat) : (am0 r).gap = 0 := by
  exact Nat.le_zero.1 (gapOf_is ((am0 r).ids.map (fun x => (x, 0)))).le
theorem told_new : (am0 9).ccall 2 ⟨0, 0, 0⟩ (fun _ => 0) = (⟨0, 1, 0⟩, toldM, upd (fun _ => 0) 1 1) := by
  have e : (am0 9).newPage 2 = ((1, 0), toldM) := by
    unfold AM.newPage
    rw [if_neg (by decide), if_neg (by decide), gap_am0]
    rfl
  unfold AM.ccall
  rw [if_neg (by decide)]
  unfold AM.call
  rw [if_pos rfl, e]
  rfl
theorem told_read : toldM.ccall 2 ⟨3, 1, 0⟩ (fun _ => 0) = (⟨5, 0, 0⟩, toldM, fun _ => 0) := by
  unfold AM.ccall
  rw [if_pos (by decide)]
  rfl
theorem round2 {a b : Bool} {M0 M1 M2 : AM} {S0 S1 S2 : FSt} (hn : S0.n = 2) (h0 : S0.pick 2 M0 0 = (a, M1, S1)) (h1 : S1.pick 2 M1 1 = (b, M2, S2)) : S0.round 2 M0 = (a || b, M2, S2) := by
  unfold FSt.round
  rw [hn]
  simp only [FSt.sweep, h0, h1, Bool.false_or]
def tC (d s : Nat) (p : Nat → Nat) : CSt := ⟨[⟨0, 0, 0⟩], d, p, s⟩
def tD (d s : Nat) : CSt := ⟨[⟨3, 1, 0⟩], d, fun _ => 0, s⟩
def tS (la : Option Nat) (c0 c1 : CSt) (log : List EnF) : FSt := ⟨2, fun i => if i = 0 then c0 else if i = 1 then c1 else tD 0 1, la, log⟩
theorem tS_0 (la la' : Option Nat) (c0 c1 c : CSt) (log log' : List EnF) : (⟨2, upd (tS la c0 c1 log).cl 0 c, la', log'⟩ : FSt) = tS la' c c1 log' := by
  unfold tS
  congr 1
  funext i
  by_cases h : i = 0
  · subst h; rw [upd_same]; rfl
  · rw [upd_other _ _ h]; simp [h]
theorem tS_1 (la la' : Option Nat) (c0 c1 c : CSt) (log log' : List EnF) : (⟨2, upd (tS la c0 c1 log).cl 1 c, la', log'⟩ : FSt) = tS la' c0 c log' := by
  unfold tS
  congr 1
  funext i
  by_cases h : i = 1
  · subst h; rw [upd_same]; rfl
  · rw [upd_other _ _ h]; simp [h]
def tP : Nat → Nat := upd (fun _ => 0) 1 1
def tE : EnF := ⟨0, 0, ⟨0, 0, 0⟩, ⟨0, 1, 0⟩⟩
def tF : EnF := ⟨1, 0, ⟨3, 1, 0⟩, ⟨5, 0, 0⟩⟩
theorem told_0 : FSt.new 2 toldL = tS none (tC 0 1 fun _ => 0) (tD 0 1) [] := by
  unfold FSt.new tS
  congr 1
  funext i
  by_cases h : i = 0
  · subst h; rfl
  · by_cases h1 : i = 1
    · subst h1; rfl
    · rw [if_neg h, if_neg h1]; unfold toldL; rw [if_neg h]; rfl
section
variable (M : AM) (la : Option Nat) (c0 c1 : CSt) (log : List EnF)
theorem p0_take (h : c0.st = 1) : (tS none c0 c1 log).pick 2 M 0 = (true, M, tS (some 0) { c0 with st := 2 } c1 log) := by
  rw [← tS_0 none (some 0) c0 c1 _ log log]
  unfold FSt.pick
  rw [if_pos (show ((tS none c0 c1 log).cl 0).st = 1 from h)]
  rfl
theorem p1_take (h : c1.st = 1) : (tS none c0 c1 log).pick 2 M 1 = (true, M, tS (some 1) c0 { c1 with st := 2 } log) := by
  rw [← tS_1 none (some 1) c0 c1 _ log log]
  unfold FSt.pick
  rw [if_pos (show ((tS none c0 c1 log).cl 1).st = 1 from h)]
  rfl
theorem p1_wait (x : Nat) (h : c1.st = 1) : (tS (some x) c0 c1 log).pick 2 M 1 = (false, M, tS (some x) c0 c1 log) := by
  unfold FSt.pick
  rw [if_pos (show ((tS (some x) c0 c1 log).cl 1).st = 1 from h)]
  rfl
theorem p0_idle (h : c0.st = 0) : (tS la c0 c1 log).pick 2 M 0 = (false, M, tS la c0 c1 log) := by
  have e : ((tS la c0 c1 log).cl 0).st = 0 := h
  unfold FSt.pick
  rw [e]
  rfl
theorem p1_idle (h : c1.st = 0) : (tS la c0 c1 log).pick 2 M 1 = (false, M, tS la c0 c1 log) := by
  have e : ((tS la c0 c1 log).cl 1).st = 0 := h
  unfold FSt.pick
  rw [e]
  rfl
theorem p0_give (h : c0.st = 3) : (tS la c0 c1 log).pick 2 M 0 = (true, M, tS none { c0 with st := go1 c0.done c0.ops.length } c1 log) := by
  rw [← tS_0 la none c0 c1 _ log log]
  have e : ((tS la c0 c1 log).cl 0).st = 3 := h
  unfold FSt.pick
  rw [e]
  rfl
theorem p1_give (h : c1.st = 3) : (tS la c0 c1 log).pick 2 M 1 = (true, M, tS none c0 { c1 with st := go1 c1.done c1.ops.length } log) := by
  rw [← tS_1 la none c0 c1 _ log log]
  have e : ((tS la c0 c1 log).cl 1).st = 3 := h
  unfold FSt.pick
  rw [e]
  rfl
theorem p0_do : (tS (some 0) (tC 0 2 fun _ => 0) c1 []).pick 2 (am0 9) 0 = (true, toldM, tS (some 0) (tC 1 3 tP) c1 [tE]) := by
  rw [← tS_0 (some 0) (some 0) (tC 0 2 fun _ => 0) c1 (tC 1 3 tP) [] [tE]]
  have e : ((tS (some 0) (tC 0 2 fun _ => 0) c1 []).cl 0) = tC 0 2 fun _ => 0 := rfl
  unfold FSt.pick
  rw [e, if_neg (by decide), if_pos (show (tC 0 2 fun _ => 0).st = 2 from rfl), show (tC 0 2 fun _ => 0).op = ⟨0, 0, 0⟩ from rfl, show (tC 0 2 fun _ => 0).pin = fun _ => 0 from rfl, told_new]
  rfl
theorem p1_do : (tS (some 1) c0 (tD 0 2) [tE]).pick 2 toldM 1 = (true, toldM, tS (some 1) c0 (tD 1 3) [tE, tF]) := by
  rw [← tS_1 (some 1) (some 1) c0 (tD 0 2) (tD 1 3) [tE] [tE, tF]]
  have e : ((tS (some 1) c0 (tD 0 2) [tE]).cl 1) = tD 0 2 := rfl
  unfold FSt.pick
  rw [e, if_neg (by decide), if_pos (show (tD 0 2).st = 2 from rfl), show (tD 0 2).op = ⟨3, 1, 0⟩ from rfl, show (tD 0 2).pin = fun _ => 0 from rfl, told_read]
  rfl
end
theorem restG_go {g : Nat} {M M' : AM} {S S' : FSt} (h : S.round 2 M = (true, M', S')) : FSt.restG 2 (g + 1) M S = FSt.restG 2 g M' S' := by
  show (if (S.round 2 M).1 = true then FSt.restG 2 g (S.round 2 M).2.1 (S.round 2 M).2.2 else (S.round 2 M).2) = _
  rw [h]
  rfl
theorem restG_end {g : Nat} {M M' : AM} {S S' : FSt} (h : S.round 2 M = (false, M', S')) : FSt.restG 2 (g + 1) M S = (M', S') := by
  show (if (S.round 2 M).1 = true then FSt.restG 2 g (S.round 2 M).2.1 (S.round 2 M).2.2 else (S.round 2 M).2) = _
  rw [h]
  rfl
/-- What the told picks come to. -/
theorem told_end : (tS (some 0) (tC 0 2 fun _ => 0) (tD 0 1) []).rest 2 (am0 9) = (toldM, tS none (tC 1 0 tP) (tD 1 0) [tE, tF]) := by
  have r : (tS (some 0) (tC 0 2 fun _ => 0) (tD 0 1) []).rem + 1 = 6 := rfl
  unfold FSt.rest
  rw [r]
  have a1 := round2 rfl (p0_do (tD 0 1)) (p1_wait toldM (tC 1 3 tP) (tD 0 1) [tE] 0 rfl)
  have a2 := round2 rfl (p0_give toldM (some 0) (tC 1 3 tP) (tD 0 1) [tE] rfl) (p1_take toldM (tC 1 0 tP) (tD 0 1) [tE] rfl)
  have a3 := round2 rfl (p0_idle toldM (some 1) (tC 1 0 tP) (tD 0 2) [tE] rfl) (p1_do (tC 1 0 tP))
  have a4 := round2 rfl (p0_idle toldM (some 1) (tC 1 0 tP) (tD 1 3) [tE, tF] rfl) (p1_give toldM (some 1) (tC 1 0 tP) (tD 1 3) [tE, tF] rfl)
  have a5 := round2 rfl (p0_idle toldM none (tC 1 0 tP) (tD 1 0) [tE, tF] rfl) (p1_idle toldM none (tC 1 0 tP) (tD 1 0) [tE, tF] rfl)
  exact (restG_go a1).trans ((restG_go a2).trans ((restG_go a3).trans ((restG_go a4).trans (restG_end a5))))
end Go.Proofs.YtmpjnphnljakiaaGreatDoor
namespace Go.Proofs.YtmpjnphnljakiaaGreatDoor
open Go.RowKit Go.Maps
set_option linter.unusedVariables false
set_option linter.unusedSimpArgs false
set_option maxRecDepth 100000
/-- A pool with advice, made: none of its blocks is elder than w0. -/
theorem pool_adv {w0 w1 w2 : World} {room n db lb : Nat} {FD FA : Nat → Prop} (hd : CD db ⟨room, [], [], [], 0, 0, false, 0⟩ 0 w1 FD) (d2 : ∀ i, FD i → w0.heap.size ≤ i) (d3 : Fr NoF w0 w1) (ha : AR lb w2 [] FA) (a2 : ∀ i, FA i → w1.heap.size ≤ i) (a3 : Fr NoF w1 w2) (ht : TabT w0) (hn : 1 ≤ n ∧ n ≤ 65535) (hr : room ≤ 65535) :
    Calls Tryz.prog 5 #[.pointer (some ⟨db, 0, none⟩), .int .i64 n, advV lb] w2 fun e w' => ∃ p : PP, p.n = n ∧ e = .returned (.tuple #[p.ptr, .int .i64 0]) ∧ (∃ F, AnyP p false (am0 room) 1000 w' F ∧ ∀ i, F i → w0.heap.size ≤ i ∧ i < w'.heap.size) ∧ Fr NoF w0 w' := by
  have htl := ht.lt
  have s1 := d3.size
  refine (any_new (hd.fr0 a3) (by omega) (newA (n := n) ha) (fun i q k => by have := hd.lt i q; have := a2 i k; omega) ((ht.fr0 d3).fr0 a3) ⟨fun q => by have := d2 _ q; omega, fun q => by have := a2 _ q; omega⟩ hn hr).mono ?_
  rintro e w' ⟨p, h1, h2, h3, he, ⟨F, h4, h5⟩, f⟩
  have s2 := a3.size
  refine ⟨p, h1, he, ⟨F, h4.any, fun i q => ⟨?_, h4.any.lt i q⟩⟩, (d3.trans a3 (fun _ z => .inl z)).trans f (fun _ z => .inl z)⟩
  rcases h5 i q with z | z | z
  · exact d2 i z
  · have := a2 i z; omega
  · omega
end Go.Proofs.YtmpjnphnljakiaaGreatDoor
namespace Go.Proofs.YtmpjnphnljakiaaGreatDoor
open Go.RowKit Go.Maps
set_option linter.unusedVariables false
set_option linter.unusedSimpArgs false
set_option maxRecDepth 100000
set_option maxHeartbeats 4000000 in
theorem toldF_calls {w : World} (hT : TabT w) : Calls Tryz.prog 10 #[] w fun e w' => e = .returned (.bool true) ∧ Fr NoF w w' := by
  have HT := Lib.hid hT
  clear hT
  go_enter Tryz.func10, Tryz.ntmps10
  go_wp2_with fail
  refine (cd_new 9 _ (by omega) (by omega)).mono ?_
  rintro e w1 ⟨db, FD, rfl, d1, d2, d3⟩
  have D1 := Lib.hid d1
  have D2 := Lib.hid d2
  have D3 := Lib.hid d3
  clear d1 d2 d3
  go_wp2_with fail
  refine (advise_calls (v := .slice none 0 0) (l := []) (SlC.nil _ _) (by show 0 ≤ 65535; omega)).mono ?_
  rintro e w2 ⟨lb, FA, rfl, a1, a2, a3⟩
  have HN := Lib.hid (pool_adv (n := 2) D1.out D2.out D3.out a1 a2 a3 HT.out ⟨by omega, by omega⟩ (by omega))
  clear a1 a2 a3 D1 D2 D3
  go_wp2_with fail
  refine HN.out.mono ?_
  clear HN
  rintro e w3 ⟨p, hpn, rfl, h3, f3⟩
  have HP := Lib.hid hpn
  have H3 := Lib.hid h3
  have F3 := Lib.hid f3
  have HQ : Hid (p.ptr = .pointer (some ⟨p.pb, 0, none⟩)) := rfl
  clear hpn h3 f3
  unfold PP.ptr
  go_wp2_with fail
  obtain ⟨F, hA, hFl⟩ := H3.out
  have s3 := F3.out.size
  have htl := HT.out.lt
  have fa : Fr NoF w3 (((w3.alloc (.cells #[.int .i64 0, .int .u32 0, .int .u64 0] 73)).alloc (.cells #[.int .i64 3, .int .u32 1, .int .u64 0] 73)).alloc (.cells #[.slice (some ⟨w3.heap.size, 0, none⟩) 1 1, .slice (some ⟨w3.heap.size + 1, 0, none⟩) 1 1] 70)) := (((Fr.refl NoF w3).alloc _).alloc _).alloc _
  have sa := fa.size
  have i0 : SlC w3 0 (.slice none 0 0) 0 [] := SlC.nil _ _
  have o0 := ((SlC.ofOwn (own_new (w0 := w3) (Nat.le_refl _) #[.int .i64 0, .int .u32 0, .int .u64 0] 73 3 1 _ rfl rfl (by unfold maxLen; omega)) (by intro u hu; simp at hu; rcases hu with rfl | rfl | rfl <;> rfl)).keep ((Fr.refl NoF _).alloc (.cells #[.int .i64 3, .int .u32 1, .int .u64 0] 73))).keep ((Fr.refl NoF _).alloc (.cells #[.slice (some ⟨w3.heap.size, 0, none⟩) 1 1, .slice (some ⟨w3.heap.size + 1, 0, none⟩) 1 1] 70))
  have o1 := (SlC.ofOwn (own_new (w0 := w3.alloc (.cells #[.int .i64 0, .int .u32 0, .int .u64 0] 73)) (Nat.le_refl _) #[.int .i64 3, .int .u32 1, .int .u64 0] 73 3 1 (w3.heap.size + 1) (by simp) rfl (by unfold maxLen; omega)) (by intro u hu; simp at hu; rcases hu with rfl | rfl | rfl <;> rfl)).keep ((Fr.refl NoF _).alloc (.cells #[.slice (some ⟨w3.heap.size, 0, none⟩) 1 1, .slice (some ⟨w3.heap.size + 1, 0, none⟩) 1 1] 70))
  have oo := SlC.ofOwn (own_new (w := (w3.alloc (.cells #[.int .i64 0, .int .u32 0, .int .u64 0] 73)).alloc (.cells #[.int .i64 3, .int .u32 1, .int .u64 0] 73)) (w0 := (w3.alloc (.cells #[.int .i64 0, .int .u32 0, .int .u64 0] 73)).alloc (.cells #[.int .i64 3, .int .u32 1, .int .u64 0] 73)) (Nat.le_refl _) #[.slice (some ⟨w3.heap.size, 0, none⟩) 1 1, .slice (some ⟨w3.heap.size + 1, 0, none⟩) 1 1] 70 1 2 (w3.heap.size + 1 + 1) (by simp) rfl (by unfold maxLen; omega)) (by intro u hu; simp at hu; rcases hu with rfl | rfl <;> rfl)
  have HW := Lib.hid (newX (L := toldL) (hA.fr0 fa) (by show 9 ≤ 65535; omega) oo (by omega) (by omega) (fun i hi => by
    match i, hi with
    | 0, _ => exact ⟨_, rfl, o0⟩
    | 1, _ => exact ⟨_, rfl, o1⟩) (fun i hi => by
    match i, hi with
    | 0, _ => exact ⟨by decide, fun o ho => by obtain rfl := List.mem_singleton.1 ho; unfold OpF.ok; simp⟩
    | 1, _ => exact ⟨by decide, fun o ho => by obtain rfl := List.mem_singleton.1 ho; unfold OpF.ok; simp⟩) (fun x z => by have := (hFl x z).2; omega) (by omega) (fun z => by have := (hFl _ z).1; omega) (by show 1000 + 100 * 2 < 58000; omega))
  rw [HQ.out] at HW
  have FZ := Lib.hid (F3.out.trans fa (fun _ z => .inl z))
  have GZ : Hid (∀ x, F x → w.heap.size ≤ x) := Lib.hid (fun x z => (hFl x z).1)
  clear oo o0 o1 i0 fa hA hFl H3 HQ
  refine HW.out.mono ?_
  clear HW
  rintro e w4 ⟨A, G, rfl, k1, k2, k3⟩
  have F4 := Lib.hid (FZ.out.trans k2 (fun _ z => .inl z))
  have G4 : Hid (∀ x, G x → w.heap.size ≤ x) := Lib.hid (fun x z => by
    rcases k3 x z with y | y
    · exact GZ.out x y
    · have := FZ.out.size; omega)
  clear k2 k3 FZ GZ sa s3
  rw [told_0] at k1
  have hn := HP.out
  have X1 := pickX (k := 0) k1 (by omega)
  rw [hn, show whoF 0 (tS none (tC 0 1 fun _ => 0) (tD 0 1) []).n = 0 from rfl, p0_take (am0 9) (tC 0 1 fun _ => 0) (tD 0 1) [] rfl] at X1
  have X1 := Lib.hid X1
  clear k1
  go_wp2_with fail
  refine X1.out.mono ?_
  clear X1
  rintro e w5 ⟨rfl, G5, k1, f5, g5⟩
  have F5 := Lib.hid (F4.out.trans f5 (fun x z => .inr (G4.out x z)))
  have G6 : Hid (∀ x, G5 x → w.heap.size ≤ x) := Lib.hid (fun x z => (g5 x z).elim (G4.out x) (fun y => by have := F4.out.size; omega))
  have X1 := pickX (k := 1) k1 (by omega)
  rw [hn, show whoF 1 (tS (some 0) { (tC 0 1 fun _ => 0) with st := 2 } (tD 0 1) []).n = 1 from rfl, p1_wait (am0 9) _ (tD 0 1) [] 0 rfl] at X1
  have X1 := Lib.hid X1
  clear k1 f5 g5 F4 G4
  go_wp2_with fail
  refine X1.out.mono ?_
  clear X1
  rintro e w6 ⟨rfl, G7, k1, f5, g5⟩
  have F6 := Lib.hid (F5.out.trans f5 (fun x z => .inr (G6.out x z)))
  have G8 : Hid (∀ x, G7 x → w.heap.size ≤ x) := Lib.hid (fun x z => (g5 x z).elim (G6.out x) (fun y => by have := F5.out.size; omega))
  have X1 := restX k1 (by omega)
  rw [hn, show (tS (some 0) { (tC 0 1 fun _ => 0) with st := 2 } (tD 0 1) []).rest 2 (am0 9) = _ from told_end] at X1
  have X1 := Lib.hid X1
  clear k1 f5 g5 F5 G6
  go_wp2_with fail
  refine X1.out.mono ?_
  clear X1
  rintro e w7 ⟨rfl, G9, k1, f5, g5⟩
  have F7 := Lib.hid (F6.out.trans f5 (fun x z => .inr (G8.out x z)))
  have X1 := Lib.hid (logX k1)
  clear k1 f5 g5 F6 G8
  go_wp2_with fail
  refine X1.out.mono ?_
  clear X1
  rintro e w8 ⟨v', rfl, l1, k1, f5⟩
  have F8 := Lib.hid (F7.out.trans f5 (fun x z => z.elim))
  have one : ∀ u ∈ logC [tE, tF], u.oneCell' = true := logC_one _
  have l2 := SlC.ofOwn l1 one
  obtain ⟨b1, o1, c1, rfl, -, -, hb1, g1⟩ := l2.at (k := 0) (by show 0 < 2; omega) (by omega)
  have q6 := g1 6 (.int .u32 1) rfl
  have q8 := g1 8 (.int .i64 1) rfl
  have q13 := g1 13 (.int .i64 5) rfl
  have X1 := Lib.hid (holdsX (c := 0) (id := 1) k1 (by omega))
  rw [show (tS none (tC 1 0 tP) (tD 1 0) [tE, tF]).log.length = 2 from rfl]
  rw [show (tS none (tC 1 0 tP) (tD 1 0) [tE, tF]).holds 0 1 = 1 from rfl] at X1
  clear k1 f5 l1 l2 one g1 F7
  go_wp2_with fail
  refine X1.out.mono ?_
  clear X1
  rintro e w9 ⟨rfl, k9, f9⟩
  have F9 := Lib.hid (F8.out.trans f9 (fun x z => z.elim))
  have X3 := latchX k9
  rw [show (tS none (tC 1 0 tP) (tD 1 0) [tE, tF]).latch = -1 from rfl] at X3
  have X3 := Lib.hid X3
  clear k9 f9 F8
  go_wp2_with fail
  refine X3.out.mono ?_
  clear X3
  rintro e w10 ⟨rfl, rfl⟩
  go_wp2
  go_returns
  exact ⟨rfl, F9.out⟩
end Go.Proofs.YtmpjnphnljakiaaGreatDoor
namespace Go.Proofs.YtmpjnphnljakiaaGreatDoor
open Go.RowKit Go.Maps
set_option linter.unusedVariables false
set_option linter.unusedSimpArgs false
set_option maxRecDepth 100000
theorem one_slW (w : World) (t : TypeId) : SlZ (w.alloc (.cells #[.int .i64 1] t)) (.slice (some ⟨w.heap.size, 0, none⟩) 1 1) [1] := by
  have := own_new (w0 := w) (w := w) (Nat.le_refl _) #[.int .i64 1] t 1 1 _ rfl rfl (by unfold maxLen; omega)
  exact SlC.ofOwn this (fun u hu => by simp at hu; rw [hu]; rfl)
theorem mk_ops (n : Nat) (hn : n ≤ 12) (w : World) : (Instr.makeSlice 36 (.int .i64 (n : Int)) (.int .i64 (n : Int))).run Tryz.prog w =
      .ok (.slice (some ⟨w.heap.size, 0, none⟩) n n) (w.alloc (.cells (madeCells #[.slice none 0 0] n) 70)) := by
  obtain ⟨i0, hi0, hz0, hz1, hz2⟩ := info_parts' (P := Tryz.prog) (e := 70) (z := .slice none 0 0) (s := 1) (b := 24) (by kernel_rfl)
  have := run_make (P := Tryz.prog) w 36 70 i0 _ Tryz.underlying36 hi0 hz0 .i64 .i64 (n : Int) (n : Int) (by omega) (Int.le_refl _) (by rw [hz2]; omega) (by omega)
  rw [show ((n : Int)).toNat = n from by omega, hz1, Nat.mul_one] at this
  exact this
theorem sl_ops (n : Nat) (hn : n ≤ 12) (w : World) : SlC (w.alloc (.cells (madeCells #[.slice none 0 0] n) 70)) 1 (.slice (some ⟨w.heap.size, 0, none⟩) n n) n (madeCells #[.slice none 0 0] n).toList := by
  refine SlC.ofOwn (own_new (w0 := w) (Nat.le_refl _) _ 70 1 n _ rfl (by simp [madeCells]) (by unfold maxLen; omega)) (fun u hu => ?_)
  obtain ⟨i, hi, rfl⟩ := List.mem_iff_getElem.1 hu
  have hi2 : i < n := by simpa [madeCells] using hi
  have e : (madeCells #[Value.slice none 0 0] n)[i]? = some (Value.slice none 0 0) := by
    have := made_at (z := #[Value.slice none 0 0]) hi2
    simpa [Nat.mod_one] using this
  have e2 : (madeCells #[Value.slice none 0 0] n).toList[i]? = some (Value.slice none 0 0) := by simpa using e
  rw [List.getElem?_eq_getElem hi] at e2
  rw [Option.some.inj e2]; rfl
theorem nil_at (n i : Nat) (hi : i < n) (w : World) : ∃ v, (madeCells #[Value.slice none 0 0] n).toList[i]? = some v ∧ SlC w 3 v ((fun _ => [] : Nat → List OpF) i).length (opsC ((fun _ => [] : Nat → List OpF) i)) := by
  have e : (madeCells #[Value.slice none 0 0] n)[i]? = some (Value.slice none 0 0) := by
    have := made_at (z := #[Value.slice none 0 0]) hi
    simpa [Nat.mod_one] using this
  exact ⟨_, by simpa using e, SlC.nil _ _⟩
theorem tot_nil (n : Nat) : (FSt.new n fun _ => []).total = 0 := by
  show sumN (fun i => 0) n = 0
  induction n with
  | zero => rfl
  | succ n ih => show sumN (fun i => 0) n + 0 = 0; rw [ih]
set_option maxHeartbeats 4000000 in
theorem fnews_none_lo (c : Int) {n : Nat} (en : Hid (wrap64 ((IntKind.u64.wrap c).tmod 12) = (n : Int))) (h12 : n ≤ 12) (h1 : n < 1) {w : World} (hT : TabT w) : Calls Tryz.prog 3 #[.int .i64 c, .bool true] w fun e w' => e = .returned (.bool true) ∧ Fr NoF w w' := by
  have HT := Lib.hid hT
  have MK := Lib.hid (mk_ops n h12)
  have g1 : decide (1 ≤ (n : Int)) = false := by simp; omega
  clear hT
  go_enter Tryz.func3, Tryz.ntmps3
  go_wp2_with fail
  rw [en.out]
  refine (cd_new 3 _ (by omega) (by omega)).mono ?_
  rintro e w1 ⟨db, FD, rfl, d1, d2, d3⟩
  have D1 := Lib.hid d1
  have D2 := Lib.hid d2
  have D3 := Lib.hid d3
  clear d1 d2 d3
  go_wp2_with fail
  refine (advise_calls (v := .slice none 0 0) (l := []) (SlC.nil _ _) (by show 0 ≤ 65535; omega)).mono ?_
  rintro e w2 ⟨lb, FA, rfl, a1, a2, a3⟩
  have HN := Lib.hid (pool_adv (n := 1) D1.out D2.out D3.out a1 a2 a3 HT.out ⟨by omega, by omega⟩ (by omega))
  clear a1 a2 a3 D1 D2 D3
  go_wp2_with fail
  refine HN.out.mono ?_
  clear HN
  rintro e w3 ⟨p, hpn, rfl, h3, f3⟩
  have H3 := Lib.hid h3
  have F3 := Lib.hid f3
  have HQ : Hid (p.ptr = .pointer (some ⟨p.pb, 0, none⟩)) := rfl
  clear hpn h3 f3
  unfold PP.ptr
  have mk1 := MK.out
  go_wp2_with fail
  clear mk1
  refine (new_nil _ _).mono ?_
  rintro e w4 ⟨rfl, hw4⟩
  have F4 : Hid (Fr NoF w w4) := by
    rw [← hw4]; exact F3.out.trans ((Fr.refl NoF w3).alloc (.cells (madeCells #[.slice none 0 0] n) 70)) (fun _ z => z.elim)
  clear hw4 F3 H3
  have F5 := Lib.hid (F4.out.trans ((Fr.refl NoF w4).alloc (.cells #[.int .i64 1] 3)) (fun _ z => z.elim))
  go_wp2_with fail
  refine (nil_run (one_slW w4 3) (by show 1 ≤ 100000; omega)).mono ?_
  rintro e wz ⟨rfl, rfl⟩
  generalize w4.alloc (.cells #[.int .i64 1] 3) = w5 at *
  go_wp2_with fail
  refine (nil_rest _).mono ?_
  rintro e wz ⟨rfl, rfl⟩
  have HL := Lib.hid (toldF_calls (HT.out.fr0 F5.out))
  go_wp2_with fail
  refine HL.out.mono ?_
  clear HL
  rintro e w6 ⟨rfl, f6⟩
  have F6 := Lib.hid (F5.out.trans f6 (fun _ z => z.elim))
  clear f6 F5
  go_wp2_with fail
  refine (nil_pick _ _).mono ?_
  rintro e wz ⟨rfl, rfl⟩
  go_wp2_with fail
  refine (nil_log _).mono ?_
  rintro e wz ⟨rfl, rfl⟩
  go_wp2_with fail
  refine (nil_holds _ 1 _).mono ?_
  rintro e wz ⟨rfl, rfl⟩
  go_wp2_with fail
  refine (nil_latch _).mono ?_
  rintro e wz ⟨rfl, rfl⟩
  go_wp2
  go_returns
  exact ⟨rfl, F6.out⟩
set_option maxHeartbeats 4000000 in
theorem fnews_none_hi (c : Int) {n : Nat} (en : Hid (wrap64 ((IntKind.u64.wrap c).tmod 12) = (n : Int))) (h12 : n ≤ 12) (h1 : 1 ≤ n) (h8 : 8 < n) {w : World} (hT : TabT w) : Calls Tryz.prog 3 #[.int .i64 c, .bool true] w fun e w' => e = .returned (.bool true) ∧ Fr NoF w w' := by
  have HT := Lib.hid hT
  have MK := Lib.hid (mk_ops n h12)
  have g1 : decide (1 ≤ (n : Int)) = true := by simp; omega
  have g2 : decide ((n : Int) ≤ 8) = false := by simp; omega
  clear hT
  go_enter Tryz.func3, Tryz.ntmps3
  go_wp2_with fail
  rw [en.out]
  refine (cd_new 3 _ (by omega) (by omega)).mono ?_
  rintro e w1 ⟨db, FD, rfl, d1, d2, d3⟩
  have D1 := Lib.hid d1
  have D2 := Lib.hid d2
  have D3 := Lib.hid d3
  clear d1 d2 d3
  go_wp2_with fail
  refine (advise_calls (v := .slice none 0 0) (l := []) (SlC.nil _ _) (by show 0 ≤ 65535; omega)).mono ?_
  rintro e w2 ⟨lb, FA, rfl, a1, a2, a3⟩
  have HN := Lib.hid (pool_adv (n := 1) D1.out D2.out D3.out a1 a2 a3 HT.out ⟨by omega, by omega⟩ (by omega))
  clear a1 a2 a3 D1 D2 D3
  go_wp2_with fail
  refine HN.out.mono ?_
  clear HN
  rintro e w3 ⟨p, hpn, rfl, h3, f3⟩
  have H3 := Lib.hid h3
  have F3 := Lib.hid f3
  have HQ : Hid (p.ptr = .pointer (some ⟨p.pb, 0, none⟩)) := rfl
  clear hpn h3 f3
  unfold PP.ptr
  have mk1 := MK.out
  go_wp2_with fail
  clear mk1
  refine (new_nil _ _).mono ?_
  rintro e w4 ⟨rfl, hw4⟩
  have F4 : Hid (Fr NoF w w4) := by
    rw [← hw4]; exact F3.out.trans ((Fr.refl NoF w3).alloc (.cells (madeCells #[.slice none 0 0] n) 70)) (fun _ z => z.elim)
  clear hw4 F3 H3
  have F5 := Lib.hid (F4.out.trans ((Fr.refl NoF w4).alloc (.cells #[.int .i64 1] 3)) (fun _ z => z.elim))
  go_wp2_with fail
  refine (nil_run (one_slW w4 3) (by show 1 ≤ 100000; omega)).mono ?_
  rintro e wz ⟨rfl, rfl⟩
  generalize w4.alloc (.cells #[.int .i64 1] 3) = w5 at *
  go_wp2_with fail
  refine (nil_rest _).mono ?_
  rintro e wz ⟨rfl, rfl⟩
  have HL := Lib.hid (toldF_calls (HT.out.fr0 F5.out))
  go_wp2_with fail
  refine HL.out.mono ?_
  clear HL
  rintro e w6 ⟨rfl, f6⟩
  have F6 := Lib.hid (F5.out.trans f6 (fun _ z => z.elim))
  clear f6 F5
  go_wp2_with fail
  refine (nil_pick _ _).mono ?_
  rintro e wz ⟨rfl, rfl⟩
  go_wp2_with fail
  refine (nil_log _).mono ?_
  rintro e wz ⟨rfl, rfl⟩
  go_wp2_with fail
  refine (nil_holds _ 1 _).mono ?_
  rintro e wz ⟨rfl, rfl⟩
  go_wp2_with fail
  refine (nil_latch _).mono ?_
  rintro e wz ⟨rfl, rfl⟩
  go_wp2
  go_returns
  exact ⟨rfl, F6.out⟩
set_option maxHeartbeats 4000000 in
theorem fnews_none_ok (c : Int) {n : Nat} (en : Hid (wrap64 ((IntKind.u64.wrap c).tmod 12) = (n : Int))) (h12 : n ≤ 12) (h1 : 1 ≤ n) (h8 : n ≤ 8) {w : World} (hT : TabT w) : Calls Tryz.prog 3 #[.int .i64 c, .bool true] w fun e w' => e = .returned (.bool true) ∧ Fr NoF w w' := by
  have HT := Lib.hid hT
  have MK := Lib.hid (mk_ops n h12)
  have g1 : decide (1 ≤ (n : Int)) = true := by simp; omega
  have g2 : decide ((n : Int) ≤ 8) = true := by simp; omega
  clear hT
  go_enter Tryz.func3, Tryz.ntmps3
  go_wp2_with fail
  rw [en.out]
  refine (cd_new 3 _ (by omega) (by omega)).mono ?_
  rintro e w1 ⟨db, FD, rfl, d1, d2, d3⟩
  have D1 := Lib.hid d1
  have D2 := Lib.hid d2
  have D3 := Lib.hid d3
  clear d1 d2 d3
  go_wp2_with fail
  refine (advise_calls (v := .slice none 0 0) (l := []) (SlC.nil _ _) (by show 0 ≤ 65535; omega)).mono ?_
  rintro e w2 ⟨lb, FA, rfl, a1, a2, a3⟩
  have HN := Lib.hid (pool_adv (n := 1) D1.out D2.out D3.out a1 a2 a3 HT.out ⟨by omega, by omega⟩ (by omega))
  clear a1 a2 a3 D1 D2 D3
  go_wp2_with fail
  refine HN.out.mono ?_
  clear HN
  rintro e w3 ⟨p, hpn, rfl, h3, f3⟩
  have H3 := Lib.hid h3
  have F3 := Lib.hid f3
  have HQ : Hid (p.ptr = .pointer (some ⟨p.pb, 0, none⟩)) := rfl
  clear hpn h3 f3
  unfold PP.ptr
  have mk1 := MK.out
  go_wp2_with fail
  clear mk1
  refine (new_nil _ _).mono ?_
  rintro e w4 ⟨rfl, hw4⟩
  have F4 : Hid (Fr NoF w w4) := by
    rw [← hw4]; exact F3.out.trans ((Fr.refl NoF w3).alloc (.cells (madeCells #[.slice none 0 0] n) 70)) (fun _ z => z.elim)
  clear hw4 F3 H3
  have F5 := Lib.hid (F4.out.trans ((Fr.refl NoF w4).alloc (.cells #[.int .i64 1] 3)) (fun _ z => z.elim))
  go_wp2_with fail
  refine (nil_run (one_slW w4 3) (by show 1 ≤ 100000; omega)).mono ?_
  rintro e wz ⟨rfl, rfl⟩
  generalize w4.alloc (.cells #[.int .i64 1] 3) = w5 at *
  go_wp2_with fail
  refine (nil_rest _).mono ?_
  rintro e wz ⟨rfl, rfl⟩
  have HL := Lib.hid (toldF_calls (HT.out.fr0 F5.out))
  go_wp2_with fail
  refine HL.out.mono ?_
  clear HL
  rintro e w6 ⟨rfl, f6⟩
  have F6 := Lib.hid (F5.out.trans f6 (fun _ z => z.elim))
  clear f6 F5
  go_wp2_with fail
  refine (nil_pick _ _).mono ?_
  rintro e wz ⟨rfl, rfl⟩
  go_wp2_with fail
  refine (nil_log _).mono ?_
  rintro e wz ⟨rfl, rfl⟩
  go_wp2_with fail
  refine (nil_holds _ 1 _).mono ?_
  rintro e wz ⟨rfl, rfl⟩
  go_wp2_with fail
  refine (nil_latch _).mono ?_
  rintro e wz ⟨rfl, rfl⟩
  go_wp2
  go_returns
  exact ⟨rfl, F6.out⟩
set_option maxHeartbeats 4000000 in
theorem fnews_lo (c : Int) {n : Nat} (en : Hid (wrap64 ((IntKind.u64.wrap c).tmod 12) = (n : Int))) (h12 : n ≤ 12) (h1 : n < 1) {w : World} (hT : TabT w) : Calls Tryz.prog 3 #[.int .i64 c, .bool false] w fun e w' => e = .returned (.bool true) ∧ Fr NoF w w' := by
  have HT := Lib.hid hT
  have MK := Lib.hid (mk_ops n h12)
  have g1 : decide (1 ≤ (n : Int)) = false := by simp; omega
  have hn : n < 1 ∨ 8 < n := .inl h1
  clear hT
  go_enter Tryz.func3, Tryz.ntmps3
  go_wp2_with fail
  rw [en.out]
  refine (cd_new 3 _ (by omega) (by omega)).mono ?_
  rintro e w1 ⟨db, FD, rfl, d1, d2, d3⟩
  have D1 := Lib.hid d1
  have D2 := Lib.hid d2
  have D3 := Lib.hid d3
  clear d1 d2 d3
  go_wp2_with fail
  refine (advise_calls (v := .slice none 0 0) (l := []) (SlC.nil _ _) (by show 0 ≤ 65535; omega)).mono ?_
  rintro e w2 ⟨lb, FA, rfl, a1, a2, a3⟩
  have HN := Lib.hid (pool_adv (n := 1) D1.out D2.out D3.out a1 a2 a3 HT.out ⟨by omega, by omega⟩ (by omega))
  clear a1 a2 a3 D1 D2 D3
  go_wp2_with fail
  refine HN.out.mono ?_
  clear HN
  rintro e w3 ⟨p, hpn, rfl, h3, f3⟩
  have H3 := Lib.hid h3
  have F3 := Lib.hid f3
  have HQ : Hid (p.ptr = .pointer (some ⟨p.pb, 0, none⟩)) := rfl
  clear hpn h3 f3
  unfold PP.ptr
  have mk1 := MK.out
  go_wp2_with fail
  clear mk1
  refine (new_few _ (sl_ops n h12 w3) hn).mono ?_
  rintro e w4 ⟨rfl, hw4⟩
  have F4 : Hid (Fr NoF w w4) := by
    rw [← hw4]; exact F3.out.trans ((Fr.refl NoF w3).alloc (.cells (madeCells #[.slice none 0 0] n) 70)) (fun _ z => z.elim)
  clear hw4 F3 H3
  have F5 := Lib.hid (F4.out.trans ((Fr.refl NoF w4).alloc (.cells #[.int .i64 1] 3)) (fun _ z => z.elim))
  go_wp2_with fail
  refine (nil_run (one_slW w4 3) (by show 1 ≤ 100000; omega)).mono ?_
  rintro e wz ⟨rfl, rfl⟩
  generalize w4.alloc (.cells #[.int .i64 1] 3) = w5 at *
  go_wp2_with fail
  refine (nil_rest _).mono ?_
  rintro e wz ⟨rfl, rfl⟩
  have HL := Lib.hid (toldF_calls (HT.out.fr0 F5.out))
  go_wp2_with fail
  refine HL.out.mono ?_
  clear HL
  rintro e w6 ⟨rfl, f6⟩
  have F6 := Lib.hid (F5.out.trans f6 (fun _ z => z.elim))
  clear f6 F5
  go_wp2_with fail
  refine (nil_pick _ _).mono ?_
  rintro e wz ⟨rfl, rfl⟩
  go_wp2_with fail
  refine (nil_log _).mono ?_
  rintro e wz ⟨rfl, rfl⟩
  go_wp2_with fail
  refine (nil_holds _ 1 _).mono ?_
  rintro e wz ⟨rfl, rfl⟩
  go_wp2_with fail
  refine (nil_latch _).mono ?_
  rintro e wz ⟨rfl, rfl⟩
  go_wp2
  go_returns
  exact ⟨rfl, F6.out⟩
set_option maxHeartbeats 4000000 in
theorem fnews_hi (c : Int) {n : Nat} (en : Hid (wrap64 ((IntKind.u64.wrap c).tmod 12) = (n : Int))) (h12 : n ≤ 12) (h1 : 1 ≤ n) (h8 : 8 < n) {w : World} (hT : TabT w) : Calls Tryz.prog 3 #[.int .i64 c, .bool false] w fun e w' => e = .returned (.bool true) ∧ Fr NoF w w' := by
  have HT := Lib.hid hT
  have MK := Lib.hid (mk_ops n h12)
  have g1 : decide (1 ≤ (n : Int)) = true := by simp; omega
  have g2 : decide ((n : Int) ≤ 8) = false := by simp; omega
  have hn : n < 1 ∨ 8 < n := .inr h8
  clear hT
  go_enter Tryz.func3, Tryz.ntmps3
  go_wp2_with fail
  rw [en.out]
  refine (cd_new 3 _ (by omega) (by omega)).mono ?_
  rintro e w1 ⟨db, FD, rfl, d1, d2, d3⟩
  have D1 := Lib.hid d1
  have D2 := Lib.hid d2
  have D3 := Lib.hid d3
  clear d1 d2 d3
  go_wp2_with fail
  refine (advise_calls (v := .slice none 0 0) (l := []) (SlC.nil _ _) (by show 0 ≤ 65535; omega)).mono ?_
  rintro e w2 ⟨lb, FA, rfl, a1, a2, a3⟩
  have HN := Lib.hid (pool_adv (n := 1) D1.out D2.out D3.out a1 a2 a3 HT.out ⟨by omega, by omega⟩ (by omega))
  clear a1 a2 a3 D1 D2 D3
  go_wp2_with fail
  refine HN.out.mono ?_
  clear HN
  rintro e w3 ⟨p, hpn, rfl, h3, f3⟩
  have H3 := Lib.hid h3
  have F3 := Lib.hid f3
  have HQ : Hid (p.ptr = .pointer (some ⟨p.pb, 0, none⟩)) := rfl
  clear hpn h3 f3
  unfold PP.ptr
  have mk1 := MK.out
  go_wp2_with fail
  clear mk1
  refine (new_few _ (sl_ops n h12 w3) hn).mono ?_
  rintro e w4 ⟨rfl, hw4⟩
  have F4 : Hid (Fr NoF w w4) := by
    rw [← hw4]; exact F3.out.trans ((Fr.refl NoF w3).alloc (.cells (madeCells #[.slice none 0 0] n) 70)) (fun _ z => z.elim)
  clear hw4 F3 H3
  have F5 := Lib.hid (F4.out.trans ((Fr.refl NoF w4).alloc (.cells #[.int .i64 1] 3)) (fun _ z => z.elim))
  go_wp2_with fail
  refine (nil_run (one_slW w4 3) (by show 1 ≤ 100000; omega)).mono ?_
  rintro e wz ⟨rfl, rfl⟩
  generalize w4.alloc (.cells #[.int .i64 1] 3) = w5 at *
  go_wp2_with fail
  refine (nil_rest _).mono ?_
  rintro e wz ⟨rfl, rfl⟩
  have HL := Lib.hid (toldF_calls (HT.out.fr0 F5.out))
  go_wp2_with fail
  refine HL.out.mono ?_
  clear HL
  rintro e w6 ⟨rfl, f6⟩
  have F6 := Lib.hid (F5.out.trans f6 (fun _ z => z.elim))
  clear f6 F5
  go_wp2_with fail
  refine (nil_pick _ _).mono ?_
  rintro e wz ⟨rfl, rfl⟩
  go_wp2_with fail
  refine (nil_log _).mono ?_
  rintro e wz ⟨rfl, rfl⟩
  go_wp2_with fail
  refine (nil_holds _ 1 _).mono ?_
  rintro e wz ⟨rfl, rfl⟩
  go_wp2_with fail
  refine (nil_latch _).mono ?_
  rintro e wz ⟨rfl, rfl⟩
  go_wp2
  go_returns
  exact ⟨rfl, F6.out⟩
set_option maxHeartbeats 4000000 in
theorem fnews_ok (c : Int) {n : Nat} (en : Hid (wrap64 ((IntKind.u64.wrap c).tmod 12) = (n : Int))) (h12 : n ≤ 12) (h1 : 1 ≤ n) (h8 : n ≤ 8) {w : World} (hT : TabT w) : Calls Tryz.prog 3 #[.int .i64 c, .bool false] w fun e w' => e = .returned (.bool true) ∧ Fr NoF w w' := by
  have HT := Lib.hid hT
  have MK := Lib.hid (mk_ops n h12)
  have g1 : decide (1 ≤ (n : Int)) = true := by simp; omega
  have g2 : decide ((n : Int) ≤ 8) = true := by simp; omega
  clear hT
  go_enter Tryz.func3, Tryz.ntmps3
  go_wp2_with fail
  rw [en.out]
  refine (cd_new 3 _ (by omega) (by omega)).mono ?_
  rintro e w1 ⟨db, FD, rfl, d1, d2, d3⟩
  have D1 := Lib.hid d1
  have D2 := Lib.hid d2
  have D3 := Lib.hid d3
  clear d1 d2 d3
  go_wp2_with fail
  refine (advise_calls (v := .slice none 0 0) (l := []) (SlC.nil _ _) (by show 0 ≤ 65535; omega)).mono ?_
  rintro e w2 ⟨lb, FA, rfl, a1, a2, a3⟩
  have HN := Lib.hid (pool_adv (n := 1) D1.out D2.out D3.out a1 a2 a3 HT.out ⟨by omega, by omega⟩ (by omega))
  clear a1 a2 a3 D1 D2 D3
  go_wp2_with fail
  refine HN.out.mono ?_
  clear HN
  rintro e w3 ⟨p, hpn, rfl, h3, f3⟩
  have H3 := Lib.hid h3
  have F3 := Lib.hid f3
  have HQ : Hid (p.ptr = .pointer (some ⟨p.pb, 0, none⟩)) := rfl
  clear hpn h3 f3
  unfold PP.ptr
  have mk1 := MK.out
  obtain ⟨F, hA, hFl⟩ := H3.out
  have s3 := F3.out.size
  have htl := HT.out.lt
  have fa : Fr NoF w3 (w3.alloc (.cells (madeCells #[.slice none 0 0] n) 70)) := ((Fr.refl NoF w3).alloc (.cells (madeCells #[.slice none 0 0] n) 70))
  have sa := fa.size
  have HW := Lib.hid (newX (L := fun _ => []) (hA.fr0 fa) (by show 3 ≤ 65535; omega) (sl_ops n h12 w3) h1 h8 (fun i hi => nil_at n i hi _) (fun i hi => ⟨Nat.zero_le _, fun o ho => by cases ho⟩) (fun x z => by have := (hFl x z).2; omega) (by omega) (fun z => by have := (hFl _ z).1; omega) (by rw [tot_nil]; omega))
  rw [HQ.out] at HW
  have FZ := Lib.hid (F3.out.trans fa (fun _ z => .inl z))
  clear fa sa s3 htl hA hFl H3 HQ F3
  go_wp2_with fail
  clear mk1
  refine HW.out.mono ?_
  clear HW
  rintro e w4 ⟨A, G, rfl, k1, k2, k3⟩
  have F4 := Lib.hid (FZ.out.trans k2 (fun _ z => .inl z))
  clear k1 k2 k3 FZ
  have F5 := Lib.hid (F4.out.trans ((Fr.refl NoF w4).alloc (.cells #[.int .i64 1] 3)) (fun _ z => z.elim))
  go_wp2_with fail
  refine (nil_run (one_slW w4 3) (by show 1 ≤ 100000; omega)).mono ?_
  rintro e wz ⟨rfl, rfl⟩
  generalize w4.alloc (.cells #[.int .i64 1] 3) = w5 at *
  go_wp2_with fail
  refine (nil_rest _).mono ?_
  rintro e wz ⟨rfl, rfl⟩
  have HL := Lib.hid (toldF_calls (HT.out.fr0 F5.out))
  go_wp2_with fail
  refine HL.out.mono ?_
  clear HL
  rintro e w6 ⟨rfl, f6⟩
  have F6 := Lib.hid (F5.out.trans f6 (fun _ z => z.elim))
  clear f6 F5
  go_wp2_with fail
  refine (nil_pick _ _).mono ?_
  rintro e wz ⟨rfl, rfl⟩
  go_wp2_with fail
  refine (nil_log _).mono ?_
  rintro e wz ⟨rfl, rfl⟩
  go_wp2_with fail
  refine (nil_holds _ 1 _).mono ?_
  rintro e wz ⟨rfl, rfl⟩
  go_wp2_with fail
  refine (nil_latch _).mono ?_
  rintro e wz ⟨rfl, rfl⟩
  go_wp2
  go_returns
  exact ⟨rfl, F6.out⟩
namespace frontNews
/-- Whatever is asked. -/
theorem walk (c : Int) (b : Bool) (w : World) (hT : TabT w) : Calls Tryz.prog 3 #[.int .i64 c, .bool b] w fun e w' => e = .returned (.bool true) ∧ Fr NoF w w' := by
  obtain ⟨n, hn, en⟩ := modu c (k := 12) (by decide) (by decide)
  have h12 : n ≤ 12 := by omega
  have en := Lib.hid en
  rcases Nat.lt_or_ge n 1 with h1 | h1
  · cases b
    · exact fnews_lo c en h12 h1 hT
    · exact fnews_none_lo c en h12 h1 hT
  · rcases Nat.lt_or_ge 8 n with h8 | h8
    · cases b
      · exact fnews_hi c en h12 h1 h8 hT
      · exact fnews_none_hi c en h12 h1 h8 hT
    · cases b
      · exact fnews_ok c en h12 h1 h8 hT
      · exact fnews_none_ok c en h12 h1 h8 hT
end frontNews
end Go.Proofs.YtmpjnphnljakiaaGreatDoor
namespace Go.Proofs.YtmpjnphnljakiaaGreatDoor
open Go.ChangeShapes Go.WideShapes Go.ChangeAt Go.RowKit
set_option linter.unusedVariables false

/-- The table's numbers. -/
def tabZ : List Int := Lib.deBruijn64tab.map fun (n : Nat) => (n : Int)
theorem tabG : Tryz.prog.globalNamed "math/bits.deBruijn64tab" = some 0 := by kernel_rfl
theorem tabT_of {W : World} (h : laidMet Tryz.prog [("math/bits.deBruijn64tab", Lib.tabData .u8 tabZ)] W) : TabT W := by
  have h1 := Lib.tabIs_of_head (t := 141) (e := 5) (n := 64) tabG (by kernel_rfl) Tryz.underlying141 Tryz.underlying5 (by kernel_rfl) (by kernel_rfl) h
  refine ⟨fun j hj => ?_⟩
  have h2 := h1.cell tabG j (by simpa [tabZ] using hj)
  rw [h2]
  congr 2
  unfold tabZ
  rw [List.getD_eq_getElem?_getD, List.getElem?_map, List.getD_eq_getElem?_getD]
  have : j < Lib.deBruijn64tab.length := hj
  simp [List.getElem?_eq_getElem this]
/-- A world that meets the condition: the settled one, the table laid. -/
noncomputable def tabWorld (os : Os) : World :=
  let w0 := World.holding Tryz.prog os ⟨#[], #[], []⟩
  { w0 with heap := w0.heap.modify 0 fun
      | .cells _ t frozen => .cells (tabZ.map fun z => Value.int .u8 z).toArray t frozen
      | o => o }
theorem tab_met (os : Os) (args : Array Value) : laidMet Tryz.prog [("math/bits.deBruijn64tab", Lib.tabData .u8 tabZ)] ((tabWorld os).forCall (fun _ _ => 0) ⟨#[], args, []⟩).memory :=
  laidMet_of_run' 8 (by kernel_rfl) (by kernel_rfl)
theorem ownM : ownKnob Tryz.prog.godebug = none := by kernel_rfl
theorem laidOutM : laidOutB Tryz.prog = true := by kernel_rfl
end Go.Proofs.YtmpjnphnljakiaaGreatDoor
namespace Go.Proofs.YtmpjnphnljakiaaGreatDoor
open Go.ChangeShapes Go.WideShapes Go.ChangeAt Go.RowKit
set_option linter.unusedVariables false

namespace frontNews
set_option maxRecDepth 100000 in
theorem lifted (os : Os) (started : os.Started) (H : Type) (enc : TypeId × Value → H) :
    ReturnsInHanded {} Tryz.checked os 3 .any (fun w args => (Rows.frontNewsSpec.pre enc Tryz.prog Tryz.f3 Rows.frontNewsRow.domain false w args ∧ laidMet Tryz.prog Rows.frontNewsRow.laid w) ∧ sizedMet enc Tryz.prog Tryz.f3 (OpenSpec.ofChange Rows.frontNewsSpec) false w args)
      (Rows.frontNewsSpec.post enc Tryz.prog Tryz.f3 false true false false) := by
  refine returnsInHanded_of_change_and (C := Tryz.checked) (X := fun w _ => laidMet Tryz.prog Rows.frontNewsRow.laid w) (fun _ _ _ hh h => h.of_heap hh) ownM started (by kernel_rfl) Tryz.func3
    (ChangeSpec.witness_at (enc := enc) (C := Tryz.checked) (os := os) (X := fun w _ => laidMet Tryz.prog Rows.frontNewsRow.laid w) false (tabWorld os) #[.int .i64 0, .bool false] 8 rfl (by kernel_rfl) (by kernel_rfl) (by kernel_rfl) (by kernel_rfl) (by kernel_rfl) (tab_met os _)) ?_
  intro W base args ds gs before hval0 hW _ _ hL _
  have hval : ∀ (j : Nat) t v, Tryz.f3.params[j]? = some t → args[j]? = some v → Value.okWide Tryz.prog W .any base t v := hval0
  have hW' := hW
  obtain ⟨p, q, hA0, hV, rfl, hfz, hnd⟩ := hW
  have hA : DataW.TrodAll enc Tryz.prog W 0 (fun _ => true) true Tryz.f3.params.toList args.toList ds p := hA0
  rw [Tryz.params3] at hA hval
  obtain ⟨v0, vs0, d0, ds0, p0, q0, hargs, rfl, rfl, h0, r0⟩ := trodAll_cons hA
  obtain ⟨v1, vs1, d1, ds1, p1, q1, rfl, rfl, rfl, h1, r1⟩ := trodAll_cons r0
  obtain ⟨rfl, rfl, rfl⟩ := trodAll_nil r1
  obtain rfl : args = #[v0, v1] := by cases args; simp_all
  obtain ⟨rfl, rfl⟩ := trodVars_none hV
  obtain ⟨a0, rfl, rfl, rfl, w0⟩ := open_int Tryz.underlying3 (hval 0 3 v0 rfl rfl) h0
  obtain ⟨a1, rfl, rfl, rfl⟩ := open_bool Tryz.underlying4 (hval 1 4 v1 rfl rfl) h1
  clear hA0 hval0
  have hT : TabT W := tabT_of hL
  simp only [List.append_nil] at hW'
  refine (walk a0 a1 W hT).mono fun e W' ⟨he, hf⟩ => ?_
  subst he
  exact ⟨_, rfl, _, _, _, [], [], [], hW', trodAll_cons_mk (shut_bool Tryz.underlying4 _) trodAll_mk0, trodAll_cons_mk (shut_int Tryz.underlying3 w0) (trodAll_cons_mk (shut_bool Tryz.underlying4 _) trodAll_mk0), rfl, hf.below.frame _, fun h => by cases h⟩

/-- The row. -/
theorem said : Rows.FrontNewsSaid :=
  OpenClaim.holds_of_wide 3 Tryz.f3 rfl rfl rfl rfl rfl rfl rfl ⟨rfl, rfl, rfl, rfl, rfl⟩ rfl rfl rfl rfl rfl (by kernel_rfl) Tryz.func3 (by kernel_rfl)
    (of_decide_eq_true (by kernel_rfl)) (by unfold Func.isWrapper; first | (rw [if_pos (by decide +kernel)]; kernel_rfl) | (rw [if_neg (by decide +kernel)]; exact ⟨rfl, rfl⟩))
    (fun os started H enc _ => lifted os started H enc)
/-- THE STATEMENT. -/
theorem proved : Rows.FrontNewsCardSaid :=
  Claim7.holds_tied_plain_at .later [] [.data] true (true, "a0e5310b20e8c3fabd640b384ce225125b50def644831d1b579d81ec3fb26074") true
    said (fun _ h => by cases h) (by kernel_rfl) (fun _ h => by cases h) frontNews_row_tie rfl ⟨rfl, rfl⟩ (by kernel_rfl) rfl
    (fun f fn hf hfn => by
      obtain rfl : f = 3 := Option.some.inj ((show Tryz.prog.funcNamed "hatcheck/hatchecklaw11.FrontNews" = some 3 by kernel_rfl).symm.trans hf) |>.symm
      obtain rfl : fn = Tryz.f3 := (Option.some.inj (Tryz.func3.symm.trans hfn)).symm
      exact ⟨by kernel_rfl, fun j t ht => by
        rw [Tryz.params3] at ht
        have h3 : t = 3 ∨ t = 4 := by
          rcases j with _ | _ | j
          · left; simpa using ht.symm
          · right; simpa using ht.symm
          · simp at ht
        rcases h3 with rfl | rfl
        · exact (show Tryz.prog.wantsStandIn 3 = false by kernel_rfl)
        · exact (show Tryz.prog.wantsStandIn 4 = false by kernel_rfl)⟩)
    (by kernel_rfl)
#print axioms proved
end frontNews
end Go.Proofs.YtmpjnphnljakiaaGreatDoor
