/-
  pool's advice: a Replacer whose victims are a list's numbers.
  Front: Run, round, Rest.
  Front: a round, Rest.
  Front: Log, Holds, Latch.
  Front: a new client.
  Front: New: what it refuses; its loop, pure.
  Front: New.
  pool: Advise.
-/
import Derived.Test.YtmpjnphnljakiaaGreatDoorK21
import Derived.Test.YtmpjnphnljakiaaGreatDoorK26
import Derived.Deep.LoopGhost
import Derived.Test.YtmpjnphnljakiaaGreatDoorK24
namespace Go.Proofs.YtmpjnphnljakiaaGreatDoor
open Go.RowKit
set_option linter.unusedVariables false
set_option linter.unusedSimpArgs false
set_option linter.unusedSectionVars false
set_option maxRecDepth 100000

/-- Numbers as a slice's cells. -/
def SlZ (w : World) (v : Value) (l : List Int) : Prop := SlC w 1 v l.length (l.map fun x => Value.int .i64 x)
theorem SlZ.at {w : World} {v : Value} {x : Int} {l : List Int} (h : SlZ w v (x :: l)) : ∃ b off c, v = .slice (some ⟨b, off, none⟩) (l.length + 1) c ∧ l.length + 1 ≤ c ∧ c ≤ maxLen ∧ b < w.heap.size ∧ w.cell? ⟨b, off, none⟩ = some (.int .i64 x) := by
  obtain ⟨b, off, c, e, h1, h2, h3, h4⟩ := SlC.at h (k := 0) (by show 0 < l.length + 1; omega) (by omega)
  exact ⟨b, off, c, e, h1, h2, h3, h4 0 _ rfl⟩
theorem SlZ.tail {w : World} {x : Int} {l : List Int} {b off c : Nat} (h : SlZ w (.slice (some ⟨b, off, none⟩) (l.length + 1) c) (x :: l)) : (c = 1 → SlZ w (.slice (some ⟨b, off, none⟩) 0 0) l ∧ l = []) ∧ (¬ c = 1 → SlZ w (.slice (some ⟨b, off + 1, none⟩) l.length (c - 1)) l) := by
  have hlt := SlC.lt h b rfl
  obtain ⟨_, _, e, hc, hm⟩ := SlC.shape h
  simp only [Value.slice.injEq] at e
  obtain ⟨_, _, rfl⟩ := e
  simp only [List.length_cons] at hc
  refine ⟨fun e => ?_, fun e => ?_⟩
  · have e0 : l = [] := List.length_eq_zero_iff.1 (by omega)
    subst e0
    exact ⟨⟨_, _, rfl, rfl, by simp, by show 0 ≤ 0; omega, by unfold maxLen; omega, .inr ⟨b, off, rfl, hlt, fun j u hj => by simp at hj⟩⟩, rfl⟩
  · obtain ⟨b', o', e1, h1⟩ := SlC.cut (lo := 1) (hi := l.length + 1) h (by omega) (Nat.le_refl _) rfl (by omega)
    simp only [Option.some.injEq, Addr.mk.injEq] at e1
    obtain ⟨rfl, rfl, _⟩ := e1
    have e2 : (List.take ((l.length + 1 - 1) * 1) (List.drop (1 * 1) (List.map (fun x => Value.int .i64 x) (x :: l)))) = l.map fun x => Value.int .i64 x := by
      simp
      exact List.take_of_length_le (by rw [List.length_map]; exact Nat.le_refl _)
    rw [e2, show l.length + 1 - 1 = l.length from by omega, show off + 1 * 1 = off + 1 from by omega] at h1
    exact h1
/-- Advice, as functions. -/
def advP : Adv (List Int) where
  miss := fun l _ => l
  access := fun l _ _ => l
  set := fun l _ _ => l
  victim := fun l _ => match l with
    | [] => none
    | x :: _ => if x < 0 then none else some x.toNat
  aft := fun l _ => l.tail
  remove := fun l _ => l
/-- Advice in memory, at block lb. -/
def AR (lb : Nat) (w : World) (l : List Int) (F : Nat → Prop) : Prop := ∃ v, Blk w lb 1 (fun _ => v) ∧ SlZ w v l ∧ ¬ v.ownBlock = some lb ∧ ∀ i, F i ↔ i = lb ∨ v.ownBlock = some i
def advV (lb : Nat) : Value := .iface 62 (.pointer (some ⟨lb, 0, none⟩))
section
variable {w w' : World} {lb : Nat} {l : List Int} {F : Nat → Prop}
theorem AR.fr (h : AR lb w l F) {G : Nat → Prop} (f : Fr G w w') (hG : ∀ i, F i → ¬ G i) : AR lb w' l F := by
  obtain ⟨v, h1, h2, h3, h4⟩ := h
  exact ⟨v, h1.fr f (hG _ ((h4 _).2 (.inl rfl))), SlC.fr h2 f (fun b q => hG b ((h4 b).2 (.inr q))), h3, h4⟩
theorem AR.lt (h : AR lb w l F) : ∀ i, F i → i < w.heap.size := by
  obtain ⟨v, h1, h2, h3, h4⟩ := h
  intro i q
  rcases (h4 i).1 q with rfl | q
  · exact h1.lt
  · exact SlC.lt h2 i q
theorem AR.tld (h : AR lb w l F) : Tld (AR lb) l F w w := ⟨F, h, Fr.refl _ _, fun i q => .inl q⟩
theorem av_miss {id : Nat} : Calls Tryz.prog 130 #[.pointer (some ⟨lb, 0, none⟩), .int .u32 id] w fun e w' => e = .returned (.tuple #[]) ∧ w = w' := by
  go_enter Tryz.func130, Tryz.ntmps130
  go_wp2
  go_returns
  exact ⟨rfl, rfl⟩
theorem av_access {id k : Nat} : Calls Tryz.prog 128 #[.pointer (some ⟨lb, 0, none⟩), .int .i64 k, .int .u32 id] w fun e w' => e = .returned (.tuple #[]) ∧ w = w' := by
  go_enter Tryz.func128, Tryz.ntmps128
  go_wp2
  go_returns
  exact ⟨rfl, rfl⟩
theorem av_set {k : Nat} {b : Bool} : Calls Tryz.prog 132 #[.pointer (some ⟨lb, 0, none⟩), .int .i64 k, .bool b] w fun e w' => e = .returned (.tuple #[]) ∧ w = w' := by
  go_enter Tryz.func132, Tryz.ntmps132
  go_wp2
  go_returns
  exact ⟨rfl, rfl⟩
theorem av_remove {k : Nat} : Calls Tryz.prog 131 #[.pointer (some ⟨lb, 0, none⟩), .int .i64 k] w fun e w' => e = .returned (.tuple #[]) ∧ w = w' := by
  go_enter Tryz.func131, Tryz.ntmps131
  go_wp2
  go_returns
  exact ⟨rfl, rfl⟩
set_option maxHeartbeats 1000000 in
theorem av_victim (h : AR lb w l F) {id : Nat} : Calls Tryz.prog 134 #[.pointer (some ⟨lb, 0, none⟩), .int .u32 id] w fun e w' =>
    (match advP.victim l id with
      | none => ∃ x : Int, e = .returned (.tuple #[.int .i64 x, .bool false])
      | some a => e = .returned (.tuple #[.int .i64 a, .bool true])) ∧ Tld (AR lb) (advP.aft l id) F w w' := by
  have h0 := h
  obtain ⟨v, h1, h2, h3, h4⟩ := h
  have c0 : w.cell? ⟨lb, 0, none⟩ = some v := h1.cell (by omega)
  have z0 := h1.frozen 0
  have lb0 := h1.lt
  cases l with
  | nil =>
    obtain ⟨a, c, e, g1, g2⟩ := SlC.shape h2
    subst e
    have H0 := Lib.hid h0
    show Calls _ _ _ _ fun e w' => (∃ x : Int, e = .returned (.tuple #[.int .i64 x, .bool false])) ∧ Tld (AR lb) [] F w w'
    rw [show ([] : List Int).length = 0 from rfl] at c0
    clear h0 h1 h2 h3 h4
    go_enter Tryz.func134, Tryz.ntmps134
    go_wp2
    go_returns
    exact ⟨⟨0, rfl⟩, H0.out.tld⟩
  | cons x l =>
    obtain ⟨b, off, c, e, g1, g2, g3, g4⟩ := h2.at
    subst e
    obtain ⟨t1, t2⟩ := h2.tail
    have hcb : ¬ lb = b := fun e => h3 (by rw [e]; rfl)
    have hcb2 : ¬ b = lb := fun e => h3 (by rw [← e]; rfl)
    have KW : Hid (∀ nv : Value, (nv = .slice (some ⟨b, off, none⟩) 0 0 ∧ c = 1 ∨ nv = .slice (some ⟨b, off + 1, none⟩) l.length (c - 1) ∧ ¬ c = 1) → Tld (AR lb) l F w (w.setCell ⟨lb, 0, none⟩ nv)) := fun nv hv => by
      have f : Fr (fun i => i = lb) w (w.setCell ⟨lb, 0, none⟩ nv) := (Fr.refl (fun i => i = lb) w).setCell (p := ⟨lb, 0, none⟩) (.inl rfl) _
      have hs : SlZ w nv l ∧ nv.ownBlock = some b := by
        rcases hv with ⟨rfl, q⟩ | ⟨rfl, q⟩
        · exact ⟨(t1 q).1, rfl⟩
        · exact ⟨t2 q, rfl⟩
      refine ⟨F, ⟨nv, (h1.set 0 nv).congr (fun i hi => ?_), SlC.fr hs.1 f (fun k q => ?_), fun q => ?_, fun i => ?_⟩, f.mono (fun i q => (h4 i).2 (.inl q)), fun i q => .inl q⟩
      · obtain rfl : i = 0 := by omega
        rw [upd_same]
      · rw [hs.2] at q; cases q; exact hcb2
      · rw [hs.2] at q; cases q; exact hcb rfl
      · rw [h4 i, hs.2]; exact Iff.rfl
    show Calls _ _ _ _ fun e w' => (match (if x < 0 then none else some x.toNat : Option Nat) with
      | none => ∃ x : Int, e = .returned (.tuple #[.int .i64 x, .bool false])
      | some a => e = .returned (.tuple #[.int .i64 a, .bool true])) ∧ Tld (AR lb) l F w w'
    have hll : l.length + 1 ≤ 9223372036854775807 := by unfold maxLen at g2; omega
    have HLL := Lib.hid hll
    generalize l.length = n at *
    clear h0 h1 h2 h3 h4 t1 t2 hll
    unfold maxLen at g2
    by_cases hx : x < 0
    · rw [if_pos hx]
      have hd : decide (x < 0) = true := decide_eq_true hx
      by_cases hc : c = 1
      · subst hc
        obtain rfl : n = 0 := by omega
        have HG := Lib.hid g2
        clear g2
        go_enter Tryz.func134, Tryz.ntmps134
        go_wp2
        go_returns
        exact ⟨⟨0, rfl⟩, KW.out _ (.inl ⟨by first | rfl | trivial, by first | rfl | trivial⟩)⟩
      · have hc2 : 1 < c := by omega
        have HG := Lib.hid g2
        clear g2
        go_enter Tryz.func134, Tryz.ntmps134
        go_wp2
        go_returns
        exact ⟨⟨0, rfl⟩, KW.out _ (.inr ⟨by first | rfl | (simp; done) | (congr 1 <;> omega), hc⟩)⟩
    · rw [if_neg hx]
      have hd : decide (x < 0) = false := decide_eq_false hx
      obtain ⟨k, rfl⟩ := Int.eq_ofNat_of_zero_le (show 0 ≤ x by omega)
      rw [show (k : Int).toNat = k from by omega]
      by_cases hc : c = 1
      · subst hc
        obtain rfl : n = 0 := by omega
        have HG := Lib.hid g2
        clear g2
        go_enter Tryz.func134, Tryz.ntmps134
        go_wp2
        go_returns
        exact ⟨rfl, KW.out _ (.inl ⟨by first | rfl | trivial, by first | rfl | trivial⟩)⟩
      · have hc2 : 1 < c := by omega
        have HG := Lib.hid g2
        clear g2
        go_enter Tryz.func134, Tryz.ntmps134
        go_wp2
        go_returns
        exact ⟨rfl, KW.out _ (.inr ⟨by first | rfl | (simp; done) | (congr 1 <;> omega), hc⟩)⟩
theorem ad_p1 {id b2 : Nat} (h : AR lb w l F) (q2 : w.cell? ⟨b2, 0, none⟩ = some (.int .u32 id)) (q4 : b2 < w.heap.size) : Calls Tryz.prog 61 #[advV lb, .pointer (some ⟨b2, 0, none⟩)] w fun e w' => e = .returned (.tuple #[]) ∧ Tld (AR lb) l F w w' := by
  have HM : Hid (Calls _ _ _ _ _) := av_miss (lb := lb) (w := w) (id := id)
  have HT := Lib.hid h.tld
  unfold advV
  clear h
  go_enter Tryz.func61, Tryz.ntmps61
  go_wp2_with fail
  refine HM.out.mono ?_
  rintro e w1 ⟨rfl, rfl⟩
  go_wp2
  go_returns
  exact ⟨rfl, HT.out⟩
theorem ad_p2 {k id b1 b2 : Nat} (h : AR lb w l F) (q1 : w.cell? ⟨b1, 0, none⟩ = some (.int .i64 k)) (q2 : w.cell? ⟨b2, 0, none⟩ = some (.int .u32 id)) (q3 : b1 < w.heap.size) (q4 : b2 < w.heap.size) : Calls Tryz.prog 64 #[advV lb, .pointer (some ⟨b1, 0, none⟩), .pointer (some ⟨b2, 0, none⟩)] w fun e w' => e = .returned (.tuple #[]) ∧ Tld (AR lb) l F w w' := by
  have HM : Hid (Calls _ _ _ _ _) := av_access (lb := lb) (w := w) (k := k) (id := id)
  have HT := Lib.hid h.tld
  unfold advV
  clear h
  go_enter Tryz.func64, Tryz.ntmps64
  go_wp2_with fail
  refine HM.out.mono ?_
  rintro e w1 ⟨rfl, rfl⟩
  go_wp2
  go_returns
  exact ⟨rfl, HT.out⟩
theorem ad_e1 {k id b1 b2 : Nat} (h : AR lb w l F) (q1 : w.cell? ⟨b1, 0, none⟩ = some (.int .i64 k)) (q2 : w.cell? ⟨b2, 0, none⟩ = some (.int .u32 id)) (q3 : b1 < w.heap.size) (q4 : b2 < w.heap.size) : Calls Tryz.prog 70 #[advV lb, .pointer (some ⟨b1, 0, none⟩), .pointer (some ⟨b2, 0, none⟩)] w fun e w' => e = .returned (.tuple #[]) ∧ Tld (AR lb) l F w w' := by
  have HM : Hid (Calls _ _ _ _ _) := av_access (lb := lb) (w := w) (k := k) (id := id)
  have HT := Lib.hid h.tld
  unfold advV
  clear h
  go_enter Tryz.func70, Tryz.ntmps70
  go_wp2_with fail
  refine HM.out.mono ?_
  rintro e w1 ⟨rfl, rfl⟩
  go_wp2
  go_returns
  exact ⟨rfl, HT.out⟩
theorem ad_t1 {k id b1 b2 : Nat} (h : AR lb w l F) (q1 : w.cell? ⟨b1, 0, none⟩ = some (.int .i64 k)) (q2 : w.cell? ⟨b2, 0, none⟩ = some (.int .u32 id)) (q3 : b1 < w.heap.size) (q4 : b2 < w.heap.size) : Calls Tryz.prog 71 #[advV lb, .pointer (some ⟨b1, 0, none⟩), .pointer (some ⟨b2, 0, none⟩)] w fun e w' => e = .returned (.tuple #[]) ∧ Tld (AR lb) l F w w' := by
  have HM : Hid (Calls _ _ _ _ _) := av_access (lb := lb) (w := w) (k := k) (id := id)
  have HT := Lib.hid h.tld
  unfold advV
  clear h
  go_enter Tryz.func71, Tryz.ntmps71
  go_wp2_with fail
  refine HM.out.mono ?_
  rintro e w1 ⟨rfl, rfl⟩
  go_wp2
  go_returns
  exact ⟨rfl, HT.out⟩
theorem ad_p3 {k b1 : Nat} (h : AR lb w l F) (q1 : w.cell? ⟨b1, 0, none⟩ = some (.int .i64 k)) (q3 : b1 < w.heap.size) : Calls Tryz.prog 65 #[advV lb, .pointer (some ⟨b1, 0, none⟩)] w fun e w' => e = .returned (.tuple #[]) ∧ Tld (AR lb) l F w w' := by
  have HM : Hid (Calls _ _ _ _ _) := av_set (lb := lb) (w := w) (k := k) (b := true)
  have HT := Lib.hid h.tld
  unfold advV
  clear h
  go_enter Tryz.func65, Tryz.ntmps65
  go_wp2_with fail
  refine HM.out.mono ?_
  rintro e w1 ⟨rfl, rfl⟩
  go_wp2
  go_returns
  exact ⟨rfl, HT.out⟩
theorem ad_u1 {k b1 : Nat} (h : AR lb w l F) (q1 : w.cell? ⟨b1, 0, none⟩ = some (.int .i64 k)) (q3 : b1 < w.heap.size) : Calls Tryz.prog 56 #[advV lb, .pointer (some ⟨b1, 0, none⟩)] w fun e w' => e = .returned (.tuple #[]) ∧ Tld (AR lb) l F w w' := by
  have HM : Hid (Calls _ _ _ _ _) := av_set (lb := lb) (w := w) (k := k) (b := true)
  have HT := Lib.hid h.tld
  unfold advV
  clear h
  go_enter Tryz.func56, Tryz.ntmps56
  go_wp2_with fail
  refine HM.out.mono ?_
  rintro e w1 ⟨rfl, rfl⟩
  go_wp2
  go_returns
  exact ⟨rfl, HT.out⟩
theorem ad_t2 {k b1 : Nat} (h : AR lb w l F) (q1 : w.cell? ⟨b1, 0, none⟩ = some (.int .i64 k)) (q3 : b1 < w.heap.size) : Calls Tryz.prog 72 #[advV lb, .pointer (some ⟨b1, 0, none⟩)] w fun e w' => e = .returned (.tuple #[]) ∧ Tld (AR lb) l F w w' := by
  have HM : Hid (Calls _ _ _ _ _) := av_set (lb := lb) (w := w) (k := k) (b := false)
  have HT := Lib.hid h.tld
  unfold advV
  clear h
  go_enter Tryz.func72, Tryz.ntmps72
  go_wp2_with fail
  refine HM.out.mono ?_
  rintro e w1 ⟨rfl, rfl⟩
  go_wp2
  go_returns
  exact ⟨rfl, HT.out⟩
theorem ad_v1 {k b1 : Nat} (h : AR lb w l F) (q1 : w.cell? ⟨b1, 0, none⟩ = some (.int .i64 k)) (q3 : b1 < w.heap.size) : Calls Tryz.prog 83 #[advV lb, .pointer (some ⟨b1, 0, none⟩)] w fun e w' => e = .returned (.tuple #[]) ∧ Tld (AR lb) l F w w' := by
  have HM : Hid (Calls _ _ _ _ _) := av_remove (lb := lb) (w := w) (k := k)
  have HT := Lib.hid h.tld
  unfold advV
  clear h
  go_enter Tryz.func83, Tryz.ntmps83
  go_wp2_with fail
  refine HM.out.mono ?_
  rintro e w1 ⟨rfl, rfl⟩
  go_wp2
  go_returns
  exact ⟨rfl, HT.out⟩
theorem ad_r1 {k b1 : Nat} (h : AR lb w l F) (q1 : w.cell? ⟨b1, 0, none⟩ = some (.int .i64 k)) (q3 : b1 < w.heap.size) : Calls Tryz.prog 74 #[advV lb, .pointer (some ⟨b1, 0, none⟩)] w fun e w' => e = .returned (.tuple #[]) ∧ Tld (AR lb) l F w w' := by
  have HM : Hid (Calls _ _ _ _ _) := av_remove (lb := lb) (w := w) (k := k)
  have HT := Lib.hid h.tld
  unfold advV
  clear h
  go_enter Tryz.func74, Tryz.ntmps74
  go_wp2_with fail
  refine HM.out.mono ?_
  rintro e w1 ⟨rfl, rfl⟩
  go_wp2
  go_returns
  exact ⟨rfl, HT.out⟩
set_option maxHeartbeats 1000000 in
theorem ad_ask {pb id : Nat} (h : AR lb w l F) (q1 : w.cell? ⟨pb, 1, none⟩ = some (advV lb)) (q2 : pb < w.heap.size) : Calls Tryz.prog 82 #[.pointer (some ⟨pb, 0, none⟩), .int .u32 id] w fun e w' =>
    (match advP.victim l id with
      | none => ∃ x : Int, e = .returned (.tuple #[.int .i64 x, .bool false])
      | some a => e = .returned (.tuple #[.int .i64 a, .bool true])) ∧ Tld (AR lb) (advP.aft l id) F w w' := by
  have HV := Lib.hid (av_victim h (id := id))
  unfold advV at q1
  clear h
  generalize advP.aft l id = l2 at *
  generalize advP.victim l id = v at *
  cases v with
  | none =>
    go_enter_defers Tryz.func82, Tryz.ntmps82
    go_wp2_with fail
    refine HV.out.mono ?_
    rintro e w1 ⟨⟨x, rfl⟩, h1⟩
    have H1 := Lib.hid h1
    clear h1
    go_wp2
    refine leaves_cons (f := 89) (args := #[]) (by simp) (by simp [go_sem]) ?_
    refine (ask_idle _).mono ?_
    rintro e u' w'' ⟨rfl, rfl, rfl⟩
    simp [Leaves, settle, results, Tryz.results82, go_sem]
    exact H1.out
  | some a =>
    go_enter_defers Tryz.func82, Tryz.ntmps82
    go_wp2_with fail
    refine HV.out.mono ?_
    rintro e w1 ⟨rfl, h1⟩
    have H1 := Lib.hid h1
    clear h1
    go_wp2
    refine leaves_cons (f := 89) (args := #[]) (by simp) (by simp [go_sem]) ?_
    refine (ask_idle _).mono ?_
    rintro e u' w'' ⟨rfl, rfl, rfl⟩
    simp [Leaves, settle, results, Tryz.results82, go_sem]
    exact H1.out
/-- All that a pool asks of a Replacer. -/
theorem adv_sys (pb lb n : Nat) : RepSys advP (AR lb) pb (advV lb) n (fun _ _ _ _ => True) where
  fr := fun h f hG => h.fr f hG
  lt := fun h => h.lt
  more := fun _ _ => trivial
  same := fun _ _ _ => trivial
  miss := fun h _ _ _ _ _ q2 q4 _ => ad_p1 h q2 q4
  acc := fun h _ _ _ _ _ _ q1 q2 q3 q4 _ _ hg => by
    rcases hg with rfl | rfl | rfl
    · exact ad_p2 h q1 q2 q3 q4
    · exact ad_e1 h q1 q2 q3 q4
    · exact ad_t1 h q1 q2 q3 q4
  setT := fun h _ _ _ _ q1 q3 _ hg => by
    rcases hg with rfl | rfl
    · exact ad_p3 h q1 q3
    · exact ad_u1 h q1 q3
  setF := fun h _ _ _ _ q1 q3 _ => ad_t2 h q1 q3
  rem := fun h _ _ _ _ q1 q3 _ hg => by
    rcases hg with rfl | rfl
    · exact ad_v1 h q1 q3
    · exact ad_r1 h q1 q3
  ask := fun h _ _ _ _ _ _ q1 q2 _ => ad_ask h q1 q2
  okMiss := fun _ _ _ _ => trivial
  okNew := fun _ _ _ _ _ _ => trivial
  okOld := fun _ _ _ _ _ => trivial
  okSet := fun _ _ _ _ _ => trivial
  okRem := fun _ _ _ _ => trivial
  okYes := fun _ _ _ _ _ _ => trivial
  okNo := fun _ _ _ _ _ => trivial
end
end Go.Proofs.YtmpjnphnljakiaaGreatDoor
namespace Go.Proofs.YtmpjnphnljakiaaGreatDoor
open Go.RowKit Go.Maps
set_option linter.unusedVariables false
set_option linter.unusedSimpArgs false
set_option linter.unusedSectionVars false
set_option maxRecDepth 100000
/-- The whole, by the log's length: its calls fit. -/
def FrX (p : PP) (q : Bool) (A : FA) (m0 : Nat) (M : AM) (S : FSt) (w : World) (G : Nat → Prop) : Prop :=
  FrW p q A M S (m0 + 100 * S.log.length) w G ∧ S.log.length = S.doneN ∧ m0 + 100 * S.total < 58000
section
variable {p : PP} {q : Bool} {M : AM} {m0 : Nat} {w w' : World} {A : FA} {S : FSt} {G : Nat → Prop}
theorem FSt.pick_total (nf : Nat) (M : AM) (S : FSt) (c : Nat) : (S.pick nf M c).2.2.total = S.total := by
  unfold FSt.total
  rw [FSt.pick_n]
  exact sumN_congr (fun i _ => by rw [FSt.pick_ops])
theorem FrX.n (h : FrX p q A m0 M S w G) : 1 ≤ S.n ∧ S.n ≤ 8 := by
  obtain ⟨⟨F, lv, kd, h1, h2, h3, h4, h5, h6, h7⟩, _⟩ := h
  exact ⟨h3.n1, h3.n8⟩
theorem FrX.ok (h : FrX p q A m0 M S w G) : ∀ i, i < S.n → (S.cl i).Ok (m0 + 100 * S.log.length) := by
  obtain ⟨⟨F, lv, kd, h1, h2, h3, h4, h5, h6, h7⟩, _⟩ := h
  exact h3.ok
theorem FrX.few (h : FrX p q A m0 M S w G) : S.log.length ≤ S.total := by
  rw [h.2.1]
  exact sumN_le (fun i hi => (h.ok i hi).dn)
theorem FrX.fr0 (h : FrX p q A m0 M S w G) (f : Fr NoF w w') : FrX p q A m0 M S w' G := ⟨h.1.fr0 f, h.2⟩
theorem FrX.lt (h : FrX p q A m0 M S w G) : ∀ j, G j → j < w.heap.size := by
  obtain ⟨⟨F, lv, kd, h1, h2, h3, h4, h5, h6, h7⟩, _⟩ := h
  exact fun j z => h3.lt j ((h5 j).1 z)
theorem pickX (h : FrX p q A m0 M S w G) (hn : p.n ≤ 64) (k : Int) :
    Calls Tryz.prog 11 #[.pointer (some ⟨A.fb, 0, none⟩), .int .i64 k] w fun e w' => e = .returned (.bool (S.pick p.n M (whoF k S.n)).1) ∧ Led (FrX p q A m0 (S.pick p.n M (whoF k S.n)).2.1 (S.pick p.n M (whoF k S.n)).2.2) G w w' := by
  have hc : whoF k S.n < S.n := Nat.mod_lt _ (by have := h.n; omega)
  have hd := FSt.pick_done (nf := p.n) (M := M) hc h.2.1
  have ht : m0 + 100 * (S.pick p.n M (whoF k S.n)).2.2.total < 58000 := by rw [FSt.pick_total]; exact h.2.2
  have hf := h.few
  have hm : m0 + 100 * S.log.length < 59000 := by have := h.2.2; omega
  have hs : (S.cl (whoF k S.n)).st = 0 ∨ (S.cl (whoF k S.n)).st = 1 ∨ (S.cl (whoF k S.n)).st = 2 ∨ (S.cl (whoF k S.n)).st = 3 := by have := (h.ok _ hc).st; omega
  have hl : ¬ (S.cl (whoF k S.n)).st = 2 → (S.pick p.n M (whoF k S.n)).2.2.log = S.log := fun z => by
    unfold FSt.pick
    repeat' split
    all_goals first | rfl | exact absurd ‹_› z
  rcases hs with hs | hs | hs | hs
  · have e1 : S.pick p.n M (whoF k S.n) = (false, M, S) := by unfold FSt.pick; rw [if_neg (by omega), if_neg (by omega), if_neg (by omega)]
    rw [e1]
    exact (pick_idle h.1 hs).mono fun e w' ⟨he, f⟩ => ⟨he, G, h.fr0 f, f.none, fun i z => .inl z⟩
  · exact (pick_take h.1 hs).mono fun e w' ⟨r, he, hr, hw⟩ => ⟨by rw [he, hr], hw.mono (fun F' z => ⟨by rw [hl (by omega)]; exact z, hd, ht⟩)⟩
  · refine (pick_do h.1 hm hn hs).mono fun e w' ⟨r, he, hr, hw⟩ => ⟨by rw [he, hr], hw.mono (fun F' z => ⟨?_, hd, ht⟩)⟩
    have e2 : (S.pick p.n M (whoF k S.n)).2.2.log.length = S.log.length + 1 := by
      unfold FSt.pick
      rw [if_neg (by omega), if_pos hs]
      exact List.length_append
    rw [e2, show m0 + 100 * (S.log.length + 1) = m0 + 100 * S.log.length + 100 by omega]
    exact z
  · exact (pick_give h.1 hs).mono fun e w' ⟨r, he, hr, hw⟩ => ⟨by rw [he, hr], hw.mono (fun F' z => ⟨by rw [hl (by omega)]; exact z, hd, ht⟩)⟩
end
/-- Picks, one behind the other. -/
noncomputable def FSt.run (nf : Nat) (M : AM) (S : FSt) : List Int → AM × FSt
  | [] => (M, S)
  | k :: l => FSt.run nf (S.pick nf M (whoF k S.n)).2.1 (S.pick nf M (whoF k S.n)).2.2 l
theorem FSt.run_snoc (nf : Nat) (k : Int) : ∀ (l : List Int) (M : AM) (S : FSt), FSt.run nf M S (l ++ [k]) = ((FSt.run nf M S l).2.pick nf (FSt.run nf M S l).1 (whoF k (FSt.run nf M S l).2.n)).2
  | [], M, S => rfl
  | x :: l, M, S => FSt.run_snoc nf k l _ _
section
variable {p : PP} {q : Bool} {M : AM} {m0 : Nat} {w w' : World} {A : FA} {S : FSt} {G : Nat → Prop}
set_option maxHeartbeats 4000000 in
theorem runX (h : FrX p q A m0 M S w G) (hn : p.n ≤ 64) {v : Value} {ks : List Int} (hv : SlZ w v ks) (hk : ks.length ≤ 100000) (hG : ∀ j, v.ownBlock = some j → ¬ G j) :
    Calls Tryz.prog 8 #[.pointer (some ⟨A.fb, 0, none⟩), v] w fun e w' => e = .returned (.tuple #[]) ∧ Led (FrX p q A m0 (FSt.run p.n M S ks).1 (FSt.run p.n M S ks).2) G w w' := by
  obtain ⟨a, c, rfl, h1, h2⟩ := SlC.shape hv
  unfold maxLen at h2
  have H := Lib.hid h
  have HV := Lib.hid hv
  clear h hv
  have hK : Hid (∀ (j : Nat) W G', j < ks.length → FrX p q A m0 (FSt.run p.n M S (ks.take j)).1 (FSt.run p.n M S (ks.take j)).2 W G' → Fr G w W → (∀ i, G' i → G i ∨ w.heap.size ≤ i) → ∀ x, ks[j]? = some x → Calls Tryz.prog 11 #[.pointer (some ⟨A.fb, 0, none⟩), .int .i64 x] W fun e w' => (∃ r, e = .returned (.bool r)) ∧ ∃ G'', FrX p q A m0 (FSt.run p.n M S (ks.take (j + 1))).1 (FSt.run p.n M S (ks.take (j + 1))).2 w' G'' ∧ Fr G w w' ∧ (∀ i, G'' i → G i ∨ w.heap.size ≤ i)) := Lib.hid fun j W G' hj h f hg x hx => by
    refine (pickX h hn x).mono fun e w' ⟨he, G'', k1, k2, k3⟩ => ⟨⟨_, he⟩, G'', ?_, f.trans k2 (fun i z => hg i z), fun i z => ?_⟩
    · have e : ks.take (j + 1) = ks.take j ++ [x] := by rw [List.take_add_one, hx]; rfl
      rw [e, FSt.run_snoc]
      exact k1
    · rcases k3 i z with y | y
      · exact hg i y
      · have := f.size; exact .inr (by omega)
  go_enter Tryz.func8, Tryz.ntmps8
  go_wp2_with fail
  go_loopw [8] (fun s8 wr => ∃ j : Nat, j ≤ ks.length ∧ s8 = .int .i64 j ∧ ∃ G', FrX p q A m0 (FSt.run p.n M S (ks.take j)).1 (FSt.run p.n M S (ks.take j)).2 wr G' ∧ Fr G w wr ∧ (∀ i, G' i → G i ∨ w.heap.size ≤ i)) (fun s8 _ => ks.length - (intOf s8).toNat)
  case atStart => exact ⟨0, Nat.zero_le _, rfl, G, H.out, Fr.refl _ _, fun i z => .inl z⟩
  case round =>
    obtain ⟨j, hj, rfl, G', h3, h4, h5⟩ := hrel
    by_cases hl : j < ks.length
    · have hlI : (j : Int) < (ks.length : Int) := by omega
      obtain ⟨b1, o1, c1, e1, -, -, hb1, g1⟩ := SlC.at HV.out hl (by omega)
      simp only [Value.slice.injEq] at e1
      obtain ⟨rfl, -, rfl⟩ := e1
      have gx := g1 j (.int .i64 ks[j]) (by simp [hl])
      rw [← h4.cell (p := ⟨b1, o1 + j, none⟩) hb1 (hG b1 rfl)] at gx
      have HP := Lib.hid (hK.out j wr G' hl h3 h4 h5 ks[j] (by simp [hl]))
      generalize ks[j] = x at *
      clear g1 h3 h4 h5
      go_wp2_with fail
      refine HP.out.mono ?_
      clear HP
      rintro e w2 ⟨⟨r, rfl⟩, G2, k1, k2, k3⟩
      have HK := Lib.hid (And.intro k1 (And.intro k2 k3))
      clear k1 k2 k3
      go_wp2
      go_roundw
      case rel => exact ⟨j + 1, by omega, by go_num, G2, HK.out⟩
      case measure => simp [intOf]; omega
    · obtain rfl : j = ks.length := by omega
      have HX : Hid (Led (FrX p q A m0 (FSt.run p.n M S ks).1 (FSt.run p.n M S ks).2) G w wr) := Lib.hid (by rw [List.take_length] at h3; exact ⟨G', h3, h4, h5⟩)
      clear h3 h4 h5 hl
      go_wp2
      go_returns
      exact ⟨rfl, HX.out⟩
end
end Go.Proofs.YtmpjnphnljakiaaGreatDoor
namespace Go.Proofs.YtmpjnphnljakiaaGreatDoor
open Go.RowKit Go.Maps
set_option linter.unusedVariables false
set_option linter.unusedSimpArgs false
set_option linter.unusedSectionVars false
set_option maxRecDepth 100000
/-- The clients picked in turn, the first j of them: whether one went on. -/
noncomputable def FSt.sweep (nf : Nat) (M : AM) (S : FSt) : Nat → Bool × AM × FSt
  | 0 => (false, M, S)
  | j + 1 => ((FSt.sweep nf M S j).1 || ((FSt.sweep nf M S j).2.2.pick nf (FSt.sweep nf M S j).2.1 j).1, ((FSt.sweep nf M S j).2.2.pick nf (FSt.sweep nf M S j).2.1 j).2)
/-- A round. -/
noncomputable def FSt.round (nf : Nat) (M : AM) (S : FSt) : Bool × AM × FSt := S.sweep nf M S.n
/-- Rounds till one in which none goes on. -/
noncomputable def FSt.restG (nf : Nat) : Nat → AM → FSt → AM × FSt
  | 0, M, S => (M, S)
  | g + 1, M, S => if (S.round nf M).1 = true then FSt.restG nf g (S.round nf M).2.1 (S.round nf M).2.2 else (S.round nf M).2
noncomputable def FSt.rest (nf : Nat) (M : AM) (S : FSt) : AM × FSt := FSt.restG nf (S.rem + 1) M S
theorem whoF_nat {j n : Nat} (h : j < n) (h8 : n ≤ 8) : whoF (j : Int) n = j := by
  unfold whoF
  have e : ((j : Int) % 18446744073709551616).toNat = j := by omega
  rw [e, Nat.mod_eq_of_lt h]
theorem FSt.sweep_n (nf : Nat) (M : AM) (S : FSt) : ∀ j, (S.sweep nf M j).2.2.n = S.n
  | 0 => rfl
  | j + 1 => by
    show ((FSt.sweep nf M S j).2.2.pick nf (FSt.sweep nf M S j).2.1 j).2.2.n = S.n
    rw [FSt.pick_n]
    exact FSt.sweep_n nf M S j
section
variable {p : PP} {q : Bool} {M : AM} {m0 : Nat} {w w' : World} {A : FA} {S : FSt} {G : Nat → Prop}
/-- A sweep in which none goes on changes nothing; in any other less is still to come. -/
def Swept (M : AM) (S : FSt) (r : Bool × AM × FSt) : Prop := (r.1 = false → r.2 = (M, S)) ∧ (r.1 = true → r.2.2.rem < S.rem)
theorem FSt.sweep_rem {nf m j : Nat} (hn : (S.sweep nf M j).2.2.n = S.n) (hj : j < S.n) (hok : ((S.sweep nf M j).2.2.cl j).Ok m) (h : Swept M S (S.sweep nf M j)) : Swept M S (S.sweep nf M (j + 1)) := by
  obtain ⟨a, b⟩ := FSt.pick_rem (nf := nf) (M := (S.sweep nf M j).2.1) (S := (S.sweep nf M j).2.2) (c := j) (by rw [hn]; exact hj) hok
  obtain ⟨c, d⟩ := h
  unfold Swept
  show ((_ || _) = false → _) ∧ ((_ || _) = true → _)
  cases e1 : (S.sweep nf M j).1 <;> cases e2 : ((S.sweep nf M j).2.2.pick nf (S.sweep nf M j).2.1 j).1
  · have c := c e1
    have a := a e2
    refine ⟨fun _ => ?_, fun z => by cases z⟩
    show ((S.sweep nf M j).2.2.pick nf (S.sweep nf M j).2.1 j).2 = _
    rw [← c]
    exact Prod.ext a.2 a.1
  · have c := c e1
    have b := b e2
    refine ⟨(fun z => by cases z), fun _ => ?_⟩
    show ((S.sweep nf M j).2.2.pick nf (S.sweep nf M j).2.1 j).2.2.rem < _
    have e3 : (S.sweep nf M j).2.2 = S := by rw [c]
    have e4 := congrArg FSt.rem e3
    omega
  · have d := d e1
    have a := a e2
    refine ⟨(fun z => by cases z), fun _ => ?_⟩
    show ((S.sweep nf M j).2.2.pick nf (S.sweep nf M j).2.1 j).2.2.rem < _
    rw [a.1]
    exact d
  · have d := d e1
    have b := b e2
    refine ⟨(fun z => by cases z), fun _ => ?_⟩
    show ((S.sweep nf M j).2.2.pick nf (S.sweep nf M j).2.1 j).2.2.rem < _
    omega
set_option maxHeartbeats 4000000 in
theorem roundX (h : FrX p q A m0 M S w G) (hn : p.n ≤ 64) :
    Calls Tryz.prog 20 #[.pointer (some ⟨A.fb, 0, none⟩)] w fun e w' => e = .returned (.bool (S.round p.n M).1) ∧ Led (FrX p q A m0 (S.round p.n M).2.1 (S.round p.n M).2.2) G w w' ∧ Swept M S (S.round p.n M) := by
  have n8 := h.n
  have h2 : (S.n : Int) ≤ 8 := by omega
  have hd : ∃ lv, Blk w A.fb 4 (frC p.ptr (.slice A.ca S.n A.cc) (S.la.map A.cb) lv) := by
    obtain ⟨⟨F, lv, kd, h1, h2, h3, _⟩, _⟩ := h
    exact ⟨lv, h3.hd⟩
  obtain ⟨lv, hd⟩ := hd
  have c0 := hd.cell (i := 1) (by omega)
  have lf := hd.lt
  simp only [frC] at c0
  have H := Lib.hid h
  have hK : Hid (∀ (j : Nat) W G', j < S.n → FrX p q A m0 (S.sweep p.n M j).2.1 (S.sweep p.n M j).2.2 W G' → Fr G w W → (∀ i, G' i → G i ∨ w.heap.size ≤ i) → Swept M S (S.sweep p.n M j) → Calls Tryz.prog 11 #[.pointer (some ⟨A.fb, 0, none⟩), .int .i64 j] W fun e w' => ∃ r, e = .returned (.bool r) ∧ ((S.sweep p.n M j).1 || r) = (S.sweep p.n M (j + 1)).1 ∧ (∃ G'', FrX p q A m0 (S.sweep p.n M (j + 1)).2.1 (S.sweep p.n M (j + 1)).2.2 w' G'' ∧ Fr G w w' ∧ (∀ i, G'' i → G i ∨ w.heap.size ≤ i)) ∧ Swept M S (S.sweep p.n M (j + 1))) := Lib.hid fun j W G' hj h f hg hs => by
    have en := FSt.sweep_n p.n M S j
    have e := whoF_nat hj n8.2
    have hk := pickX (k := (j : Int)) h hn
    rw [en, e] at hk
    refine hk.mono fun e w' ⟨he, G'', k1, k2, k3⟩ => ⟨_, he, rfl, ⟨G'', k1, f.trans k2 (fun i z => hg i z), fun i z => ?_⟩, FSt.sweep_rem en hj (h.ok j (by rw [en]; exact hj)) hs⟩
    rcases k3 i z with y | y
    · exact hg i y
    · have := f.size; exact .inr (by omega)
  clear h hd
  go_enter Tryz.func20, Tryz.ntmps20
  go_wp2_with fail
  go_loopw [3, 12] (fun s3 s12 wr => ∃ j : Nat, j ≤ S.n ∧ s3 = .bool (S.sweep p.n M j).1 ∧ s12 = .int .i64 j ∧ (∃ G', FrX p q A m0 (S.sweep p.n M j).2.1 (S.sweep p.n M j).2.2 wr G' ∧ Fr G w wr ∧ (∀ i, G' i → G i ∨ w.heap.size ≤ i)) ∧ Swept M S (S.sweep p.n M j)) (fun _ s12 _ => S.n - (intOf s12).toNat)
  case atStart => exact ⟨0, Nat.zero_le _, rfl, rfl, ⟨G, H.out, Fr.refl _ _, fun i z => .inl z⟩, fun _ => rfl, fun z => by cases z⟩
  case round =>
    obtain ⟨j, hj, rfl, rfl, ⟨G', h3, h4, h5⟩, h6⟩ := hrel
    by_cases hl : j < S.n
    · have hlI : (j : Int) < (S.n : Int) := by omega
      have HP := Lib.hid (hK.out j wr G' hl h3 h4 h5 h6)
      clear h3 h4 h5 h6
      go_wp2_with fail
      refine HP.out.mono ?_
      clear HP
      rintro e w2 ⟨r, rfl, k0, k1, k2⟩
      have HK := Lib.hid (And.intro k1 k2)
      clear k1 k2
      cases r
      · go_wp2
        go_roundw
        case rel => exact ⟨j + 1, by omega, by rw [← k0, Bool.or_false], by go_num, HK.out.1, HK.out.2⟩
        case measure => simp [intOf]; omega
      · go_wp2
        go_roundw
        case rel => exact ⟨j + 1, by omega, by rw [← k0, Bool.or_true], by go_num, HK.out.1, HK.out.2⟩
        case measure => simp [intOf]; omega
    · obtain rfl : j = S.n := by omega
      have HX := Lib.hid (And.intro (show Led (FrX p q A m0 (S.sweep p.n M S.n).2.1 (S.sweep p.n M S.n).2.2) G w wr from ⟨G', h3, h4, h5⟩) h6)
      clear h3 h4 h5 h6 hl
      go_wp2
      go_returns
      exact ⟨rfl, HX.out⟩
set_option maxHeartbeats 4000000 in
theorem restX (h : FrX p q A m0 M S w G) (hn : p.n ≤ 64) :
    Calls Tryz.prog 9 #[.pointer (some ⟨A.fb, 0, none⟩)] w fun e w' => e = .returned (.tuple #[]) ∧ Led (FrX p q A m0 (S.rest p.n M).1 (S.rest p.n M).2) G w w' := by
  have H := Lib.hid h
  have hK : Hid (∀ g M' S' W G', FrX p q A m0 M' S' W G' → Fr G w W → (∀ i, G' i → G i ∨ w.heap.size ≤ i) → S'.rem < g + 1 → FSt.restG p.n (g + 1) M' S' = S.rest p.n M → Calls Tryz.prog 20 #[.pointer (some ⟨A.fb, 0, none⟩)] W fun e w' => ∃ r, e = .returned (.bool r) ∧ ((r = true ∧ ∃ M'' S'' G'', FrX p q A m0 M'' S'' w' G'' ∧ Fr G w w' ∧ (∀ i, G'' i → G i ∨ w.heap.size ≤ i) ∧ S''.rem < g ∧ FSt.restG p.n g M'' S'' = S.rest p.n M) ∨ (r = false ∧ Led (FrX p q A m0 (S.rest p.n M).1 (S.rest p.n M).2) G w w'))) := Lib.hid fun g M' S' W G' h f hg hr he => by
    refine (roundX h hn).mono fun e w' ⟨k0, ⟨G'', k1, k2, k3⟩, k4, k5⟩ => ⟨_, k0, ?_⟩
    have kf : Fr G w w' := f.trans k2 (fun i z => hg i z)
    have kg : ∀ i, G'' i → G i ∨ w.heap.size ≤ i := fun i z => by
      rcases k3 i z with y | y
      · exact hg i y
      · have := f.size; exact .inr (by omega)
    have e1 : FSt.restG p.n (g + 1) M' S' = if (S'.round p.n M').1 = true then FSt.restG p.n g (S'.round p.n M').2.1 (S'.round p.n M').2.2 else (S'.round p.n M').2 := rfl
    rw [e1] at he
    by_cases e2 : (S'.round p.n M').1 = true
    · rw [if_pos e2] at he
      have k5 := k5 e2
      exact .inl ⟨e2, _, _, G'', k1, kf, kg, by omega, he⟩
    · rw [if_neg e2] at he
      refine .inr ⟨by simpa using e2, G'', ?_, kf, kg⟩
      rw [← he]
      exact k1
  clear h
  go_enter Tryz.func9, Tryz.ntmps9
  go_wp2_with fail
  go_loopg [] (S.rem + 1) (fun g wr => 0 < g ∧ ∃ M' S' G', FrX p q A m0 M' S' wr G' ∧ Fr G w wr ∧ (∀ i, G' i → G i ∨ w.heap.size ≤ i) ∧ S'.rem < g ∧ FSt.restG p.n g M' S' = S.rest p.n M)
  case atStart => exact ⟨by omega, M, S, G, H.out, Fr.refl _ _, fun i z => .inl z, by omega, rfl⟩
  case round =>
    obtain ⟨hg, M', S', G', h1, h2, h3, h4, h5⟩ := hrel
    obtain ⟨g, rfl⟩ : ∃ g, gk = g + 1 := ⟨gk - 1, by omega⟩
    have HP := Lib.hid (hK.out g M' S' wr G' h1 h2 h3 h4 h5)
    clear h1 h2 h3 h4 h5
    go_wp2_with fail
    refine HP.out.mono ?_
    clear HP
    rintro e w2 ⟨r, rfl, k⟩
    have HK := Lib.hid k
    clear k
    cases r
    · go_wp2
      go_returns
      rcases HK.out with ⟨z, _⟩ | ⟨_, z⟩
      · cases z
      · exact ⟨rfl, z⟩
    · go_wp2
      have hg2 : 0 < g := by
        rcases HK.out with ⟨_, M2, S2, G2, _, _, _, z, _⟩ | ⟨z, _⟩
        · omega
        · cases z
      go_roundg g
      case rel =>
        rcases HK.out with ⟨_, M2, S2, G2, z⟩ | ⟨z, _⟩
        · exact ⟨hg2, M2, S2, G2, z⟩
        · cases z
      case measure => omega
end
set_option maxHeartbeats 4000000 in
/-- Run and Rest of nobody. -/
theorem nil_run {v : Value} {ks : List Int} {w : World} (hv : SlZ w v ks) (hk : ks.length ≤ 100000) : Calls Tryz.prog 8 #[.pointer none, v] w fun e w' => e = .returned (.tuple #[]) ∧ w = w' := by
  obtain ⟨a, c, rfl, h1, h2⟩ := SlC.shape hv
  unfold maxLen at h2
  have HV := Lib.hid hv
  clear hv
  go_enter Tryz.func8, Tryz.ntmps8
  go_wp2_with fail
  go_loopw [8] (fun s8 wr => wr = w ∧ ∃ j : Nat, j ≤ ks.length ∧ s8 = .int .i64 j) (fun s8 _ => ks.length - (intOf s8).toNat)
  case atStart => exact ⟨rfl, 0, Nat.zero_le _, rfl⟩
  case round =>
    obtain ⟨rfl, j, hj, rfl⟩ := hrel
    by_cases hl : j < ks.length
    · have hlI : (j : Int) < (ks.length : Int) := by omega
      obtain ⟨b1, o1, c1, e1, -, -, hb1, g1⟩ := SlC.at HV.out hl (by omega)
      simp only [Value.slice.injEq] at e1
      obtain ⟨rfl, -, rfl⟩ := e1
      have gx := g1 j (.int .i64 ks[j]) (by simp [hl])
      generalize ks[j] = x at *
      clear g1
      go_wp2_with fail
      refine (nil_pick x _).mono ?_
      rintro e w2 ⟨rfl, rfl⟩
      go_wp2
      go_roundw
      case rel => exact ⟨by trivial, j + 1, by omega, by go_num⟩
      case measure => simp [intOf]; omega
    · obtain rfl : j = ks.length := by omega
      clear hl
      go_wp2
      go_returns
      exact ⟨rfl, rfl⟩
theorem nil_rest (w : World) : Calls Tryz.prog 9 #[.pointer none] w fun e w' => e = .returned (.tuple #[]) ∧ w = w' := by
  go_enter Tryz.func9, Tryz.ntmps9
  go_wp2_with fail
  go_loopw [] (fun wr => wr = w) (fun _ => 1)
  case atStart => rfl
  case round =>
    obtain rfl := hrel
    go_wp2_with fail
    refine (nil_round _).mono ?_
    rintro e w2 ⟨rfl, rfl⟩
    go_wp2
    go_returns
    exact ⟨rfl, rfl⟩
end Go.Proofs.YtmpjnphnljakiaaGreatDoor
namespace Go.Proofs.YtmpjnphnljakiaaGreatDoor
open Go.RowKit Go.Maps
set_option linter.unusedVariables false
set_option linter.unusedSimpArgs false
set_option linter.unusedSectionVars false
set_option maxRecDepth 100000
section
variable {w w' : World} {base : Nat} {lv : Value} {L : List EnF}
set_option maxHeartbeats 4000000 in
theorem clone_log (h : LogAt w base lv L) (hn : L.length ≤ 65535) : Calls Tryz.prog 21 #[lv] w fun e w' => ∃ v', e = .returned v' ∧ LogAt w' w.heap.size v' L ∧ Fr NoF w w' := by
  have HH := Lib.hid h
  obtain ⟨a, cap, rfl, h1, h2⟩ := SlC.shape (SlC.ofOwn h (logC_one L))
  have hone : Hid (∀ u ∈ logC L, u.oneCell' = true) := Lib.hid (logC_one L)
  unfold maxLen at h2
  cases a with
  | none =>
    have hz : Hid (∃ v', Ending.returned (Value.slice none L.length cap) = .returned v' ∧ LogAt w w.heap.size v' L) := Lib.hid ⟨_, rfl, h.1, by
      rcases h.2 with e | ⟨g, c2, cur, e, _⟩
      · exact .inl e
      · simp at e⟩
    have hz2 : L.length = 0 ∧ cap = 0 := by
      rcases h.2 with ⟨e, _⟩ | ⟨g, c2, cur, e, _⟩
      · simp only [Value.slice.injEq] at e; exact ⟨e.2.1, e.2.2⟩
      · simp at e
    obtain ⟨z1, rfl⟩ := hz2
    rw [z1] at hz ⊢
    have hbin : ∀ W : World, (binOp .eql 41 (.slice none 0 0) (.slice none 0 0)).run Tryz.prog W = .ok (.bool true) W := fun W => by first | rfl | kernel_rfl
    clear h HH hone z1 h1 h2
    go_enter Tryz.func21, Tryz.ntmps21
    go_wp2
    go_returns
    obtain ⟨v', e, z⟩ := hz.out
    exact ⟨v', e, z, Fr.refl _ _⟩
  | some p =>
    have hbin : ∀ W : World, (binOp .eql 41 (.slice (some p) L.length cap) (.slice none 0 0)).run Tryz.prog W = .ok (.bool false) W := fun W => by first | rfl | kernel_rfl
    clear h
    go_enter Tryz.func21, Tryz.ntmps21
    go_wp2_with (at_builtin; go_must (refine appLB (base := w.heap.size) EIe rfl _ _ rfl (by rfl) (by rfl) (by simp) (own_new (w0 := w) (Nat.le_refl _) #[] 77 8 0 _ rfl rfl (by unfold maxLen; omega)) (SlC.ofOwn (own_keep HH.out ((Fr.refl NoF _).alloc _) (fun _ _ q => q)) hone.out) (by unfold maxLen; omega) (by omega) ?_); intro v' w2 hown' hf' hob'; have HF' := Lib.hid hf'; have HO' := Lib.hid hown'; clear hf' hown' hob')
    go_returns
    refine ⟨_, rfl, ?_, ((Fr.refl NoF w).alloc _).trans HF'.out (fun i q => .inr (by cases q; exact Nat.le_refl _))⟩
    have h3 := HO'.out
    rw [Nat.zero_add] at h3
    exact h3
set_option maxHeartbeats 4000000 in
theorem log_calls {fb : Nat} {pv cv : Value} {la : Option Nat} (hf : Blk w fb 4 (frC pv cv la lv)) (h : LogAt w base lv L) (hn : L.length ≤ 65535) : Calls Tryz.prog 12 #[.pointer (some ⟨fb, 0, none⟩)] w fun e w' => ∃ v', e = .returned v' ∧ LogAt w' w.heap.size v' L ∧ Fr NoF w w' := by
  have c3 := hf.cell (i := 3) (by omega)
  have lf := hf.lt
  simp only [frC] at c3
  have HP := Lib.hid (clone_log h hn)
  clear hf h
  go_enter Tryz.func12, Tryz.ntmps12
  go_wp2_with fail
  refine HP.out.mono ?_
  clear HP
  rintro e w2 ⟨v', rfl, h1, h2⟩
  have HK := Lib.hid (And.intro h1 h2)
  clear h1 h2
  go_wp2
  go_returns
  exact ⟨_, rfl, HK.out⟩
end
section
variable {w w' : World} {fb n cc d mb s cnt i : Nat} {ca : Option Addr} {pv ov lv : Value} {la : Option Nat} {cb : Nat → Nat} {c : Int} {pin : Nat → Nat} {id : Nat}
set_option maxHeartbeats 4000000 in
theorem holds_none (hf : Blk w fb 4 (frC pv (.slice ca n cc) la lv)) (hc : c < 0 ∨ (n : Int) ≤ c) : Calls Tryz.prog 13 #[.pointer (some ⟨fb, 0, none⟩), .int .i64 c, .int .u32 id] w fun e w' => e = .returned (.int .i64 0) ∧ w = w' := by
  have c0 := hf.cell (i := 1) (by omega)
  have lf := hf.lt
  simp only [frC] at c0
  clear hf
  by_cases h : c < 0
  · clear hc
    go_enter Tryz.func13, Tryz.ntmps13
    go_wp2
    go_returns
    exact ⟨rfl, rfl⟩
  · have h2 : (n : Int) ≤ c := by omega
    clear hc
    go_enter Tryz.func13, Tryz.ntmps13
    go_wp2
    go_returns
    exact ⟨rfl, rfl⟩
set_option maxHeartbeats 4000000 in
theorem holds_some {j : Nat} (hj : j < n) (h8 : n ≤ 8) (hid : id < 4294967296) (hf : Blk w fb 4 (frC pv (.slice ca n cc) la lv)) (hs : SlC w 1 (.slice ca n cc) n (ptrsC n cb)) (hc : Blk w (cb j) 5 (clC i ov d mb (cb j) s)) (hm : PinsAt w mb cnt (pinM pin)) :
    Calls Tryz.prog 13 #[.pointer (some ⟨fb, 0, none⟩), .int .i64 j, .int .u32 id] w fun e w' => e = .returned (.int .i64 (pin id : Nat)) ∧ Fr NoF w w' := by
  obtain ⟨b1, o1, c1, e1, -, -, hb1, g1⟩ := hs.at hj (by omega)
  simp only [Value.slice.injEq] at e1
  obtain ⟨rfl, -, rfl⟩ := e1
  have p0 := g1 _ _ (ptrsC_at cb hj)
  have c0 := hf.cell (i := 1) (by omega)
  have lf := hf.lt
  have c3 := hc.cell (i := 3) (by omega)
  have lc := hc.lt
  simp only [frC] at c0
  simp only [clC] at c3
  have hwf := u32wf hid
  have h1 := hm.look_run MVf hwf
  rw [pinM_get] at h1
  have hjI : ((j : Nat) : Int) < (n : Int) := by omega
  have hj0 : ¬ ((j : Nat) : Int) < 0 := by omega
  generalize pin id = pn at *
  clear hf hs hc hm g1
  go_enter Tryz.func13, Tryz.ntmps13
  go_wp2
  go_returns
  exact ⟨rfl, Fr.refl _ _⟩
end
/-- Of the whole. -/
def FSt.holds (S : FSt) (c : Int) (id : Nat) : Nat := if 0 ≤ c ∧ c < (S.n : Int) then (S.cl c.toNat).pin id else 0
def FSt.latch (S : FSt) : Int := match S.la with | none => -1 | some c => (c : Int)
section
variable {p : PP} {q : Bool} {M : AM} {m0 : Nat} {w w' : World} {A : FA} {S : FSt} {G : Nat → Prop}
theorem logX (h : FrX p q A m0 M S w G) : Calls Tryz.prog 12 #[.pointer (some ⟨A.fb, 0, none⟩)] w fun e w' => ∃ v', e = .returned v' ∧ LogAt w' w.heap.size v' S.log ∧ FrX p q A m0 M S w' G ∧ Fr NoF w w' := by
  have hf := h.few
  have hm := h.2.2
  have H := h
  obtain ⟨⟨F, lv, kd, h1, h2, h3, _⟩, _⟩ := h
  exact (log_calls h3.hd h3.lg (by omega)).mono fun e w' ⟨v', a, b, f⟩ => ⟨v', a, b, H.fr0 f, f⟩
theorem holdsX (h : FrX p q A m0 M S w G) (c : Int) {id : Nat} (hid : id < 4294967296) : Calls Tryz.prog 13 #[.pointer (some ⟨A.fb, 0, none⟩), .int .i64 c, .int .u32 id] w fun e w' => e = .returned (.int .i64 (S.holds c id : Nat)) ∧ FrX p q A m0 M S w' G ∧ Fr NoF w w' := by
  have H := h
  obtain ⟨⟨F, lv, kd, h1, h2, h3, _⟩, _⟩ := h
  unfold FSt.holds
  by_cases hc : 0 ≤ c ∧ c < (S.n : Int)
  · rw [if_pos hc]
    obtain ⟨j, rfl⟩ : ∃ j : Nat, c = j := ⟨c.toNat, by omega⟩
    have hj : j < S.n := by omega
    obtain ⟨cnt, _, hp⟩ := h3.pn j hj
    exact (holds_some hj h3.n8 hid h3.hd h3.cs (h3.cl j hj) hp).mono fun e w' ⟨a, f⟩ => ⟨a, H.fr0 f, f⟩
  · rw [if_neg hc]
    exact (holds_none h3.hd (by omega)).mono fun e w' ⟨a, f⟩ => by subst f; exact ⟨a, H, Fr.refl _ _⟩
theorem latchX (h : FrX p q A m0 M S w G) : Calls Tryz.prog 14 #[.pointer (some ⟨A.fb, 0, none⟩)] w fun e w' => e = .returned (.int .i64 S.latch) ∧ w = w' := by
  obtain ⟨⟨F, lv, kd, h1, h2, h3, _⟩, _⟩ := h
  unfold FSt.latch
  cases hl : S.la with
  | none =>
    have hd := h3.hd
    rw [hl] at hd
    exact latch_none hd
  | some c =>
    have hd := h3.hd
    rw [hl] at hd
    exact latch_some hd (h3.cl c (h3.lal c hl))
end
end Go.Proofs.YtmpjnphnljakiaaGreatDoor
namespace Go.Proofs.YtmpjnphnljakiaaGreatDoor
open Go.RowKit Go.Maps
set_option linter.unusedVariables false
set_option linter.unusedSimpArgs false
set_option linter.unusedSectionVars false
set_option maxRecDepth 100000
theorem EIo : EI Tryz.prog 70 73 3 24 := EI.mk' (z := .agg #[.int .i64 0, .int .u32 0, .int .u64 0]) Tryz.underlying70 (by kernel_rfl) rfl (by decide)
theorem opsC_one (l : List OpF) : ∀ u ∈ opsC l, u.oneCell' = true := by
  intro u hu
  obtain ⟨o, _, ho⟩ := List.mem_flatMap.1 hu
  simp only [opC, List.mem_cons, List.not_mem_nil, or_false] at ho
  rcases ho with rfl | rfl | rfl <;> rfl
theorem pinM_zero : pinM (fun _ => 0) = fun _ => none := by
  funext x
  simp [pinM]
section
variable {w w' : World} {v : Value} {l : List OpF}
set_option maxHeartbeats 4000000 in
theorem clone_ops (h : SlC w 3 v l.length (opsC l)) (hn : l.length ≤ 65535) : Calls Tryz.prog 23 #[v] w fun e w' => ∃ v', e = .returned v' ∧ SlC w' 3 v' l.length (opsC l) ∧ (∀ b, v'.ownBlock = some b → w.heap.size ≤ b) ∧ Fr NoF w w' := by
  have HH := Lib.hid h
  obtain ⟨a, cap, rfl, h1, h2⟩ := SlC.shape h
  have hone : Hid (∀ u ∈ opsC l, u.oneCell' = true) := Lib.hid (opsC_one l)
  unfold maxLen at h2
  cases a with
  | none =>
    have hz2 : l.length = 0 ∧ cap = 0 := by
      obtain ⟨a2, c2, e, h3, h4, h5, h6, h7⟩ := h
      simp only [Value.slice.injEq] at e
      obtain ⟨rfl, -, rfl⟩ := e
      rcases h7 with ⟨_, z⟩ | ⟨g, z⟩
      · omega
      · simp at z
    obtain ⟨z1, rfl⟩ := hz2
    have hz : Hid (SlC w 3 (.slice none 0 0) 0 (opsC l)) := Lib.hid (by rw [z1] at h; exact h)
    rw [z1]
    have hbin : ∀ W : World, (binOp .eql 70 (.slice none 0 0) (.slice none 0 0)).run Tryz.prog W = .ok (.bool true) W := fun W => by first | rfl | kernel_rfl
    clear h HH hone h1 h2
    go_enter Tryz.func23, Tryz.ntmps23
    go_wp2
    go_returns
    exact ⟨_, rfl, hz.out, fun b q => (by cases q), Fr.refl _ _⟩
  | some p =>
    have hbin : ∀ W : World, (binOp .eql 70 (.slice (some p) l.length cap) (.slice none 0 0)).run Tryz.prog W = .ok (.bool false) W := fun W => by first | rfl | kernel_rfl
    clear h
    go_enter Tryz.func23, Tryz.ntmps23
    go_wp2_with (at_builtin; go_must (refine appLB (base := w.heap.size) EIo rfl _ _ rfl (by rfl) (by rfl) (by simp) (own_new (w0 := w) (Nat.le_refl _) #[] 73 3 0 _ rfl rfl (by unfold maxLen; omega)) (SlC.keep HH.out ((Fr.refl NoF _).alloc _)) (by unfold maxLen; omega) (by omega) ?_); intro v' w2 hown' hf' hob'; have HF' := Lib.hid hf'; have HO' := Lib.hid hown'; clear hf' hown' hob')
    go_returns
    have h3 := HO'.out
    rw [Nat.zero_add] at h3
    exact ⟨_, rfl, SlC.ofOwn h3 hone.out, ownBlock_own h3, ((Fr.refl NoF w).alloc _).trans HF'.out (fun i q => .inr (by cases q; exact Nat.le_refl _))⟩
/-- A client lies there. -/
def ClAt (w : World) (i : Nat) (l : List OpF) (cb mb : Nat) (oa : Option Addr) (oc : Nat) : Prop := Blk w cb 5 (clC i (.slice oa l.length oc) 0 mb cb (go1 0 l.length)) ∧ SlC w 3 (.slice oa l.length oc) l.length (opsC l) ∧ PinsAt w mb 0 (pinM fun _ => 0)
theorem ClAt.fr {i cb mb oc : Nat} {oa : Option Addr} {X : Nat → Prop} (h : ClAt w i l cb mb oa oc) (f : Fr X w w') (h1 : ¬ X cb) (h2 : ¬ X mb) (h3 : ∀ j, (Value.slice oa l.length oc).ownBlock = some j → ¬ X j) : ClAt w' i l cb mb oa oc :=
  ⟨h.1.fr f h1, h.2.1.fr f h3, h.2.2.fr f h2⟩
set_option maxHeartbeats 4000000 in
theorem newClient_calls (i : Nat) (h : SlC w 3 v l.length (opsC l)) (hn : l.length ≤ 1000) : Calls Tryz.prog 19 #[.int .i64 i, v] w fun e w' => ∃ cb mb oa oc, e = .returned (.pointer (some ⟨cb, 0, none⟩)) ∧ ClAt w' i l cb mb oa oc ∧ w.heap.size ≤ mb ∧ mb < cb ∧ (∀ j, (Value.slice oa l.length oc).ownBlock = some j → w.heap.size ≤ j ∧ j < mb) ∧ Fr NoF w w' := by
  have HP := Lib.hid (clone_ops h (by omega))
  have hmm := @run_makeMap Tryz.prog
  clear h
  go_enter Tryz.func19, Tryz.ntmps19
  go_wp2_with fail
  refine HP.out.mono ?_
  clear HP
  rintro e w2 ⟨v', rfl, h1, h2, h3⟩
  obtain ⟨a, c, rfl, -, -⟩ := h1.shape
  have s2 := h3.size
  have KK : Hid (∀ W : World, W = (w2.alloc (.map #[] 0)).alloc (.cells #[.int .i64 i, .slice a l.length c, .int .i64 0, .map (some w2.heap.size), .nilFunc] 80) → Calls Tryz.prog 24 #[.pointer (some ⟨w2.heap.size + 1, 0, none⟩)] W fun e w' => e = .returned (.tuple #[]) ∧ ∃ cb mb oa oc, Value.pointer (some ⟨w2.heap.size + 1, 0, none⟩) = .pointer (some ⟨cb, 0, none⟩) ∧ ClAt w' i l cb mb oa oc ∧ w.heap.size ≤ mb ∧ mb < cb ∧ (∀ j, (Value.slice oa l.length oc).ownBlock = some j → w.heap.size ≤ j ∧ j < mb) ∧ Fr NoF w w') := Lib.hid (by
    rintro W rfl
    have fa : Fr NoF w2 ((w2.alloc (.map #[] 0)).alloc (.cells #[.int .i64 i, .slice a l.length c, .int .i64 0, .map (some w2.heap.size), .nilFunc] 80)) := ((Fr.refl NoF w2).alloc _).alloc _
    have hb : Blk ((w2.alloc (.map #[] 0)).alloc (.cells #[.int .i64 i, .slice a l.length c, .int .i64 0, .map (some w2.heap.size), .nilFunc] 80)) (w2.heap.size + 1) 5 (clC i (.slice a l.length c) 0 w2.heap.size (w2.heap.size + 1) 0) := by
      refine ⟨_, _, heap_alloc_new _ _ _ (by simp), rfl, fun k hk => ?_⟩
      match k, hk with
      | 0, _ => rfl
      | 1, _ => rfl
      | 2, _ => rfl
      | 3, _ => rfl
      | 4, _ => rfl
    have hm : PinsAt ((w2.alloc (.map #[] 0)).alloc (.cells #[.int .i64 i, .slice a l.length c, .int .i64 0, .map (some w2.heap.size), .nilFunc] 80)) w2.heap.size 0 (pinM fun _ => 0) := by
      rw [pinM_zero]
      exact (MpV.made _ _ _ _ w2).fr ((Fr.refl NoF _).alloc _) (fun q => q)
    have ho := h1.keep fa
    refine (goOn_calls (by omega) (by omega) hb).mono fun e w' ⟨he, k1, k2⟩ => ⟨he, w2.heap.size + 1, w2.heap.size, a, c, rfl, ⟨k1, ho.fr k2 (fun j z y => ?_), hm.fr k2 (by omega)⟩, s2, by omega, fun j z => ⟨h2 j z, h1.lt j z⟩, ?_⟩
    · have := h1.lt j z; omega
    · exact (h3.trans fa (fun j z => .inl z)).trans k2 (fun j z => .inr (by omega)))
  clear h1 h2 h3 s2
  go_wp2_with fail
  refine (KK.out _ rfl).mono ?_
  clear KK
  rintro e w3 ⟨rfl, h4⟩
  have HK := Lib.hid h4
  clear h4
  go_wp2
  go_returns
  obtain ⟨cb, mb, oa, oc, z, y⟩ := HK.out
  exact ⟨cb, mb, oa, oc, by rw [← z]; rfl, y⟩
end
end Go.Proofs.YtmpjnphnljakiaaGreatDoor
namespace Go.Proofs.YtmpjnphnljakiaaGreatDoor
open Go.RowKit Go.Maps
set_option linter.unusedVariables false
set_option linter.unusedSimpArgs false
set_option linter.unusedSectionVars false
set_option maxRecDepth 100000
theorem EIc : EI Tryz.prog 66 67 1 8 := EI.mk' (z := .pointer none) Tryz.underlying66 (by kernel_rfl) rfl (by decide)
section
variable {w : World} {ov : Value} {ivs : List Value} {n : Nat}
theorem new_nil (ov : Value) (w : World) : Calls Tryz.prog 7 #[.pointer none, ov] w fun e w' => e = .returned (.tuple #[.pointer none, .int .i64 1]) ∧ w = w' := by
  go_enter Tryz.func7, Tryz.ntmps7
  go_wp2
  go_returns
  exact ⟨rfl, rfl⟩
theorem new_few (pa : Addr) (h : SlC w 1 ov n ivs) (hn : n < 1 ∨ 8 < n) : Calls Tryz.prog 7 #[.pointer (some pa), ov] w fun e w' => e = .returned (.tuple #[.pointer none, .int .i64 1]) ∧ w = w' := by
  obtain ⟨a, c, rfl, h1, h2⟩ := h.shape
  clear h h1 h2
  by_cases h : n < 1
  · have hI : (n : Int) < 1 := by omega
    clear hn
    go_enter Tryz.func7, Tryz.ntmps7
    go_wp2
    go_returns
    exact ⟨rfl, rfl⟩
  · have hI : ¬ (n : Int) < 1 := by omega
    have hJ : (8 : Int) < (n : Int) := by omega
    clear hn
    go_enter Tryz.func7, Tryz.ntmps7
    go_wp2
    go_returns
    exact ⟨rfl, rfl⟩
end
theorem frC_cv (pv cv cv' : Value) (la : Option Nat) (lv : Value) : upd (frC pv cv la lv) 1 cv' = frC pv cv' la lv := by
  funext j
  unfold upd
  match j with
  | 0 | 1 | 2 | 3 => rfl
  | _ + 4 => simp [frC]
theorem ptrsC_snoc (j : Nat) (cb : Nat → Nat) (b : Nat) : ptrsC (j + 1) (upd cb j b) = ptrsC j cb ++ [.pointer (some ⟨b, 0, none⟩)] := by
  unfold ptrsC
  rw [List.range_succ, List.map_append]
  congr 1
  · refine List.map_congr_left fun i hi => ?_
    have : ¬ i = j := by have := List.mem_range.1 hi; omega
    rw [upd_other _ _ this]
  · simp only [List.map_cons, List.map_nil, upd_same]
/-- New's loop: what lies there before the j-th client. -/
structure NewI (w wr : World) (pv : Value) (L : Nat → List OpF) (fb j : Nat) (lv : Value) (cb mb : Nat → Nat) (oa : Nat → Option Addr) (oc : Nat → Nat) (kd : Nat → Nat) : Prop where
  fd : Blk wr fb 4 (frC pv lv none (.slice none 0 0))
  ls : wr.ownsRow w.heap.size 67 1 lv j (ptrsC j cb)
  cl : ∀ i, i < j → ClAt wr i (L i) (cb i) (mb i) (oa i) (oc i)
  k1 : kd fb = 1
  kc : ∀ i, i < j → kd (cb i) = 5 + 2 * i
  km : ∀ i, i < j → kd (mb i) = 6 + 2 * i
  ko : ∀ i, i < j → ∀ x, (Value.slice (oa i) (L i).length (oc i)).ownBlock = some x → kd x = 0 ∧ w.heap.size ≤ x
  kl : ∀ x, lv.ownBlock = some x → kd x = 4
  lo : ∀ x, ¬ kd x = 0 → w.heap.size ≤ x ∧ x < wr.heap.size
  fr : Fr NoF w wr
theorem NewI.step {w wr w1 w2 : World} {pv lv lv' : Value} {L : Nat → List OpF} {fb j cj mj cc : Nat} {aj : Option Addr} {cb mb : Nat → Nat} {oa : Nat → Option Addr} {oc kd : Nat → Nat} (h : NewI w wr pv L fb j lv cb mb oa oc kd)
    (hc : ClAt w1 j (L j) cj mj aj cc) (h1 : wr.heap.size ≤ mj) (h2 : mj < cj) (h3 : ∀ x, (Value.slice aj (L j).length cc).ownBlock = some x → wr.heap.size ≤ x ∧ x < mj) (f : Fr NoF wr w1)
    (hl : w2.ownsRow w.heap.size 67 1 lv' (j + 1) (ptrsC j cb ++ [.pointer (some ⟨cj, 0, none⟩)])) (f2 : Fr (fun b => lv.ownBlock = some b) w1 w2) (ho : ∀ b, lv'.ownBlock = some b → lv.ownBlock = some b ∨ w1.heap.size ≤ b) :
    ∃ cb' mb' oa' oc' kd', NewI w (w2.setCell ⟨fb, 1, none⟩ lv') pv L fb (j + 1) lv' cb' mb' oa' oc' kd' := by
  have lf := h.fd.lt
  have kf := h.k1
  have lc := hc.1.lt
  have hs1 := f.size
  have hs2 := f2.size
  have sl : (w2.setCell ⟨fb, 1, none⟩ lv').heap.size = w2.heap.size := by simp [World.setCell]
  have f3 : Fr (fun b => b = fb) w2 (w2.setCell ⟨fb, 1, none⟩ lv') := (Fr.refl (fun b => b = fb) w2).setCell (p := ⟨fb, 1, none⟩) (.inl rfl) _
  have nl : ∀ x, lv.ownBlock = some x → kd x = 4 ∧ x < wr.heap.size := fun x z => ⟨h.kl x z, (h.lo x (by rw [h.kl x z]; omega)).2⟩
  have nl' : ∀ x, lv'.ownBlock = some x → (kd x = 4 ∧ x < wr.heap.size) ∨ w1.heap.size ≤ x := fun x z => (ho x z).imp (nl x) id
  have up : ∀ {x}, lv'.ownBlock = some x → x < w2.heap.size := fun {x} z => SlC.lt (SlC.ofOwn hl (by
    intro u hu
    rcases List.mem_append.1 hu with z | z
    · obtain ⟨i, _, rfl⟩ := List.mem_map.1 z; rfl
    · simp at z; subst z; rfl)) x z
  refine ⟨upd cb j cj, upd mb j mj, upd oa j aj, upd oc j cc, fun x => if lv'.ownBlock = some x then 4 else if x = cj then 5 + 2 * j else if x = mj then 6 + 2 * j else kd x, ?_⟩
  have old : ∀ x, x < wr.heap.size → ¬ kd x = 4 → (if lv'.ownBlock = some x then 4 else if x = cj then 5 + 2 * j else if x = mj then 6 + 2 * j else kd x) = kd x := fun x z1 z2 => by
    rw [if_neg (fun z => by rcases nl' x z with y | y <;> omega), if_neg (by omega), if_neg (by omega)]
  exact {
    fd := by
      have z := ((h.fd.fr f id).fr f2 (fun z => by have := nl fb z; omega)).set 1 lv'
      rw [frC_cv] at z
      exact z
    ls := by
      rw [ptrsC_snoc]
      exact own_keep hl f3 (fun b z y => by subst y; rcases nl' _ z with y | y <;> omega)
    cl := fun i hi => by
      by_cases e : i = j
      · subst e
        rw [upd_same, upd_same, upd_same, upd_same]
        refine (hc.fr f2 (fun z => by have := nl _ z; omega) (fun z => by have := nl _ z; omega) (fun x y z => by have := nl _ z; have := h3 x y; omega)).fr f3 (by omega) (by omega) (fun x y z => by have := h3 x y; omega)
      · rw [upd_other _ _ e, upd_other _ _ e, upd_other _ _ e, upd_other _ _ e]
        have hi : i < j := by omega
        have a := h.kc i hi
        have b := h.km i hi
        have c := fun x y => (h.ko i hi x y).1
        refine (((h.cl i hi).fr f id id (fun _ _ => id)).fr f2 (fun z => by have := nl _ z; omega) (fun z => by have := nl _ z; omega) (fun x y z => by have := nl _ z; have := c x y; omega)).fr f3 (fun z => by rw [z] at a; omega) (fun z => by rw [z] at b; omega) (fun x y z => by have := c x y; rw [z] at this; omega)
    k1 := (old fb lf (by omega)).trans kf
    kc := fun i hi => by
      by_cases e : i = j
      · subst e
        simp only [upd_same]
        rw [if_neg (fun z => by rcases nl' _ z with y | y <;> omega), if_pos trivial]
      · simp only [upd_other _ _ e]
        have a := h.kc i (by omega)
        rw [old _ (h.lo _ (by omega)).2 (by omega)]
        exact a
    km := fun i hi => by
      by_cases e : i = j
      · subst e
        simp only [upd_same]
        rw [if_neg (fun z => by rcases nl' _ z with y | y <;> omega), if_neg (by omega), if_pos trivial]
      · simp only [upd_other _ _ e]
        have a := h.km i (by omega)
        rw [old _ (h.lo _ (by omega)).2 (by omega)]
        exact a
    ko := fun i hi x => by
      by_cases e : i = j
      · subst e
        simp only [upd_same]
        intro z
        have y := h3 x z
        have k0 : kd x = 0 := Classical.byContradiction fun q => by have := (h.lo x q).2; omega
        rw [if_neg (fun z => by rcases nl' _ z with y | y <;> omega), if_neg (by omega), if_neg (by omega)]
        have := h.fr.size
        exact ⟨k0, by omega⟩
      · simp only [upd_other _ _ e]
        intro z
        have k0 := (h.ko i (by omega) x z).1
        rw [old x ((h.cl i (by omega)).2.1.lt x z) (by omega)]
        exact ⟨k0, (h.ko i (by omega) x z).2⟩
    kl := fun x z => if_pos z
    lo := fun x z => by
      rw [sl]
      have hw := h.fr.size
      by_cases e : lv'.ownBlock = some x
      · have := up e
        rcases nl' x e with y | y
        · have := h.lo x (by omega); omega
        · omega
      · simp only [e, if_false] at z
        by_cases e2 : x = cj
        · omega
        · by_cases e3 : x = mj
          · omega
          · simp only [e2, e3, if_false] at z
            have := h.lo x z
            omega
    fr := ((h.fr.trans f (fun _ z => .inl z)).trans f2 (fun x z => .inr (h.lo x (by rw [h.kl x z]; omega)).1)).trans f3 (fun x z => .inr (by rw [z]; exact (h.lo fb (by omega)).1)) }
/-- A front that was made. -/
def FSt.new (n : Nat) (L : Nat → List OpF) : FSt := ⟨n, fun i => ⟨L i, 0, fun _ => 0, go1 0 (L i).length⟩, none, []⟩
theorem NewI.done {w wr : World} {p : PP} {q : Bool} {M : AM} {m n : Nat} {F : Nat → Prop} {lv : Value} {L : Nat → List OpF} {fb : Nat} {cb mb : Nat → Nat} {oa : Nat → Option Addr} {oc kd : Nat → Nat} (h : NewI w wr p.ptr L fb n lv cb mb oa oc kd) (hp : AnyP p q M m w F) (hr : M.room ≤ 65535)
    (h1 : 1 ≤ n) (h8 : n ≤ 8) (hL : ∀ i, i < n → (L i).length ≤ 1000 ∧ ∀ o ∈ L i, o.ok) (hF : ∀ x, F x → x < w.heap.size) (hg : 0 < w.heap.size) (hgF : ¬ F 0) (ht : m + 100 * (FSt.new n L).total < 58000) :
    ∃ A G, A.fb = fb ∧ FrX p q A m M (FSt.new n L) wr G ∧ ∀ x, G x → F x ∨ w.heap.size ≤ x := by
  obtain ⟨a, c, rfl, -, -⟩ := SlC.shape (SlC.ofOwn h.ls (by
    intro u hu
    obtain ⟨i, _, rfl⟩ := List.mem_map.1 hu; rfl))
  have hs := h.fr.size
  have kF : ∀ x, F x → kd x = 0 := fun x z => Classical.byContradiction fun y => by have := h.lo x y; have := hF x z; omega
  have kk : ∀ x, ¬ kd x = 0 → ¬ kd x = 4 → ∀ v, kd x = v → (open Classical in (if F x then 3 else if kd x = 4 then 0 else kd x)) = v := fun x z1 z2 v z => by
    rw [if_neg (fun y => z1 (kF x y)), if_neg z2]; exact z
  classical
  refine ⟨⟨fb, cb, mb, a, c, oa, oc, w.heap.size⟩, fun x => ¬ (if F x then 3 else if kd x = 4 then 0 else kd x) = 0, rfl, ⟨⟨F, .slice none 0 0, fun x => if F x then 3 else if kd x = 4 then 0 else kd x, ?_, hr, ?_, fun x z => if_pos z, fun x => Iff.rfl, by omega, ?_⟩, ?_, ht⟩, fun x z => ?_⟩
  · exact hp.fr0 h.fr
  · exact {
      n1 := h1, n8 := h8, hd := h.fd
      cs := SlC.ofOwn h.ls (by
        intro u hu
        obtain ⟨i, _, rfl⟩ := List.mem_map.1 hu; rfl)
      lal := fun x z => (by cases z), cl := fun i hi => (h.cl i hi).1, op := fun i hi => (h.cl i hi).2.1, pn := fun i hi => ⟨0, Nat.zero_le _, (h.cl i hi).2.2⟩
      ok := fun i hi => ⟨(hL i hi).1, (hL i hi).2, Nat.zero_le _, fun z => by
        show 0 < (L i).length
        have z : go1 0 (L i).length = 1 ∨ go1 0 (L i).length = 2 := z
        unfold go1 at z
        split at z <;> omega, fun x => Nat.zero_le _, by
        show go1 0 (L i).length ≤ 3
        unfold go1
        split <;> omega⟩
      lg := ⟨by first | rfl | simp [logC], .inl ⟨rfl, rfl⟩⟩
      ll := Nat.zero_le _, bs := hs
      k1 := kk fb (by rw [h.k1]; omega) (by rw [h.k1]; omega) _ h.k1
      kc := fun i hi => kk _ (by rw [h.kc i hi]; omega) (by rw [h.kc i hi]; omega) _ (h.kc i hi)
      km := fun i hi => kk _ (by rw [h.km i hi]; omega) (by rw [h.km i hi]; omega) _ (h.km i hi)
      kl := fun j z => (by cases z)
      kv := fun j z => by
        have e := h.kl j z
        show (if F j then 3 else if kd j = 4 then 0 else kd j) = 0
        rw [if_neg (fun y => by have := kF j y; omega), if_pos e]
      ko := fun i hi j z => by
        obtain ⟨e, e2⟩ := h.ko i hi j z
        have hj : ¬ F j := fun y => by have := hF j y; omega
        show (if F j then 3 else if kd j = 4 then 0 else kd j) = 0
        rw [if_neg hj, if_neg (by omega)]
        exact e
      lt := fun j z => by
        by_cases y : F j
        · have := hF j y; omega
        · by_cases y2 : kd j = 4
          · exact (h.lo j (by omega)).2
          · have z : ¬ (if F j then 3 else if kd j = 4 then 0 else kd j) = 0 := z
            rw [if_neg y, if_neg y2] at z
            exact (h.lo j z).2 }
  · show (if F _ then 3 else if kd _ = 4 then 0 else kd _) = 0
    have e : kd 0 = 0 := Classical.byContradiction fun y => by have := (h.lo _ y).1; omega
    rw [if_neg hgF, if_neg (by omega)]
    exact e
  · have e : ∀ k, sumN (fun i => ((FSt.new n L).cl i).done) k = 0 := fun k => by
      induction k with
      | zero => rfl
      | succ k ih => show sumN _ k + 0 = 0; rw [ih]
    exact (e _).symm
  · by_cases y : F x
    · exact .inl y
    · have z : ¬ (if F x then 3 else if kd x = 4 then 0 else kd x) = 0 := z
      rw [if_neg y] at z
      by_cases y2 : kd x = 4
      · exact .inr (h.lo x (by omega)).1
      · rw [if_neg y2] at z
        exact .inr (h.lo x z).1
end Go.Proofs.YtmpjnphnljakiaaGreatDoor
namespace Go.Proofs.YtmpjnphnljakiaaGreatDoor
open Go.RowKit Go.Maps
set_option linter.unusedVariables false
set_option linter.unusedSimpArgs false
set_option linter.unusedSectionVars false
set_option maxRecDepth 100000
section
variable {w : World} {ov pv : Value} {ivs : List Value} {n : Nat} {L : Nat → List OpF}
set_option maxHeartbeats 4000000 in
theorem new_calls (pa : Addr) (h : SlC w 1 ov n ivs) (h1 : 1 ≤ n) (h8 : n ≤ 8) (hi : ∀ i, i < n → ∃ v, ivs[i]? = some v ∧ SlC w 3 v (L i).length (opsC (L i))) (hL : ∀ i, i < n → (L i).length ≤ 1000) :
    Calls Tryz.prog 7 #[.pointer (some pa), ov] w fun e w' => e = .returned (.tuple #[.pointer (some ⟨w.heap.size, 0, none⟩), .int .i64 0]) ∧ ∃ lv cb mb oa oc kd, NewI w w' (.pointer (some pa)) L w.heap.size n lv cb mb oa oc kd := by
  obtain ⟨a, c, rfl, -, -⟩ := h.shape
  have n1I : ¬ (n : Int) < 1 := by omega
  have n8I : ¬ (8 : Int) < (n : Int) := by omega
  have H := Lib.hid (And.intro h (And.intro hi hL))
  have H0 : Hid (∀ W, W = w.alloc (.cells #[.pointer (some pa), .slice none 0 0, .pointer none, .slice none 0 0] 69) → NewI w W (.pointer (some pa)) L w.heap.size 0 (.slice none 0 0) (fun _ => 0) (fun _ => 0) (fun _ => none) (fun _ => 0) (fun x => if x = w.heap.size then 1 else 0)) := Lib.hid (by
    rintro W rfl
    exact {
      fd := Blk.new _ _ _ 4 _ _ rfl rfl (fun j hj => by
        match j, hj with
        | 0, _ | 1, _ | 2, _ | 3, _ => rfl)
      ls := ⟨by first | rfl | simp [ptrsC], .inl ⟨rfl, rfl⟩⟩
      cl := fun i z => absurd z (Nat.not_lt_zero i), k1 := if_pos rfl, kc := fun i z => absurd z (Nat.not_lt_zero i), km := fun i z => absurd z (Nat.not_lt_zero i), ko := fun i z => absurd z (Nat.not_lt_zero i), kl := fun x z => (by cases z)
      lo := fun x z => by
        have e : x = w.heap.size := Classical.byContradiction fun y => z (if_neg y)
        have := heap_alloc_new
        subst e
        exact ⟨Nat.le_refl _, by simp⟩
      fr := (Fr.refl NoF w).alloc _ })
  clear h hi hL
  go_enter Tryz.func7, Tryz.ntmps7
  go_wp2_with fail
  go_loopw [26] (fun s26 wr => ∃ j : Nat, j ≤ n ∧ s26 = .int .i64 j ∧ ∃ lv cb mb oa oc kd, NewI w wr (.pointer (some pa)) L w.heap.size j lv cb mb oa oc kd) (fun s26 _ => n - (intOf s26).toNat)
  case atStart => exact ⟨0, Nat.zero_le _, rfl, _, _, _, _, _, _, H0.out _ rfl⟩
  case round =>
    obtain ⟨j, hj, rfl, lv, cb, mb, oa, oc, kd, h3⟩ := hrel
    by_cases hl : j < n
    · have hlI : (j : Int) < (n : Int) := by omega
      obtain ⟨b1, o1, c1, e1, -, -, hb1, g1⟩ := H.out.1.at hl (by omega)
      simp only [Value.slice.injEq] at e1
      obtain ⟨rfl, -, rfl⟩ := e1
      obtain ⟨v, gv, sv⟩ := H.out.2.1 j hl
      have gx := g1 j v gv
      have hfr := h3.fr
      rw [← hfr.cell (p := ⟨b1, o1 + j, none⟩) hb1 id] at gx
      have sv := sv.keep hfr
      have c1 := h3.fd.cell (i := 1) (by omega)
      have z1 := h3.fd.frozen 1
      have lf := h3.fd.lt
      simp only [frC] at c1
      have HN := Lib.hid h3
      have SV := Lib.hid sv
      clear g1 h3 hfr sv gv
      generalize w.heap.size = fb at *
      -- REGION
      go_wp2_with fail
      refine region_tail (fun w' => w'.cell? ⟨fb, 1, none⟩ = some lv) 12 (by kernel_rfl) rfl rfl (by kernel_rfl) ?_
      simp only [List.take_succ_cons, List.take_zero]
      have fd0 : Fr NoF wr wr.drew := (Fr.refl NoF wr).drew
      have HF := Lib.hid (HN.out.fd.fr fd0 id)
      have HP := Lib.hid (newClient_calls j (SV.out.keep fd0) (H.out.2.2 j hl))
      have HS0 : Hid (Fr NoF wr wr.drew) := Lib.hid fd0
      clear fd0
      have hS : (fun w' => w'.cell? ⟨fb, 1, none⟩ = some lv) wr.drew := by
        have z := HF.out.cell (i := 1) (by omega)
        exact z
      refine wpAnyH_take (i := 0) (v := ?_) rfl (by decide +kernel) (by decide +kernel) (by decide +kernel) (fun _ _ _ h => h) (Or.inl ⟨by rfl, ?_⟩) hS ?_
      rotate_left
      · intro wS hSw; (try dsimp only at hSw); go_simp
        try with_reducible rfl
      try simp only [Act.put, List.setIfInBounds_toArray, List.set_cons_zero, List.set_cons_succ]
      refine wpAnyH_take (i := 1) (v := ?_) rfl (by decide +kernel) (by decide +kernel) (by decide +kernel) (fun _ _ _ h => h) (Or.inl ⟨by rfl, ?_⟩) hS ?_
      rotate_left
      · intro wS hSw; (try dsimp only at hSw); go_simp
        try with_reducible rfl
      try simp only [Act.put, List.setIfInBounds_toArray, List.set_cons_zero, List.set_cons_succ]
      refine wpAnyH_take (i := 2) (v := ?_) rfl (by decide +kernel) (by decide +kernel) (by decide +kernel) (fun _ _ _ h => h) (Or.inl ⟨by rfl, ?_⟩) hS ?_
      rotate_left
      · intro wS hSw; (try dsimp only at hSw); go_simp
        try with_reducible rfl
      try simp only [Act.put, List.setIfInBounds_toArray, List.set_cons_zero, List.set_cons_succ]
      refine wpAnyH_take (i := 3) (v := ?_) rfl (by decide +kernel) (by decide +kernel) (by decide +kernel) (fun _ _ _ h => h) (Or.inl ⟨by rfl, ?_⟩) hS ?_
      rotate_left
      · intro wS hSw; (try dsimp only at hSw); go_simp
        try with_reducible rfl
      try simp only [Act.put, List.setIfInBounds_toArray, List.set_cons_zero, List.set_cons_succ]
      refine wpAnyH_take (i := 4) (v := ?_) rfl (by decide +kernel) (by decide +kernel) (by decide +kernel) (fun _ _ _ h => h) (Or.inl ⟨by rfl, ?_⟩) hS ?_
      rotate_left
      · intro wS hSw; (try dsimp only at hSw); go_simp
        try with_reducible rfl
      try simp only [Act.put, List.setIfInBounds_toArray, List.set_cons_zero, List.set_cons_succ]
      refine wpAnyH_take (i := 5) (v := ?_) rfl (by decide +kernel) (by decide +kernel) (by decide +kernel) (fun _ _ _ h => h) (Or.inl ⟨by rfl, ?_⟩) hS ?_
      rotate_left
      · intro wS hSw; (try dsimp only at hSw); go_simp
        try with_reducible rfl
      try simp only [Act.put, List.setIfInBounds_toArray, List.set_cons_zero, List.set_cons_succ]
      refine wpAnyH_take (i := 6) (v := ?_) rfl (by decide +kernel) (by decide +kernel) (by decide +kernel) (fun _ _ _ h => h) (Or.inl ⟨by rfl, ?_⟩) hS ?_
      rotate_left
      · intro wS hSw; (try dsimp only at hSw); go_simp
        try with_reducible rfl
      try simp only [Act.put, List.setIfInBounds_toArray, List.set_cons_zero, List.set_cons_succ]
      clear hS
      generalize wr.drew = wd at *
      refine wpAnyH_ready (rs := [7]) (by kernel_rfl) (by simp) ?_
      refine AllReadyH.cons rfl (fun K hK => ?_) ?_
      · go_simp
        refine HP.out.mono ?_
        rintro e w1 ⟨cj, mj, aj, cc, rfl, k1, k2, k3, k4, k5⟩
        have KC := Lib.hid (And.intro k1 (And.intro k2 (And.intro k3 (And.intro k4 k5))))
        have HF1 := Lib.hid (HF.out.fr k5 id)
        have HL1 := Lib.hid (own_keep HN.out.ls (HS0.out.trans k5 (fun _ z => .inl z)) (fun _ _ z => z))
        have HB1 : Hid (w.heap.size ≤ w1.heap.size) := Lib.hid (Nat.le_trans HN.out.fr.size (Nat.le_trans (Fr.size HS0.out) k5.size))
        have NFB : Hid (¬ lv.ownBlock = some fb) := Lib.hid (fun z => by have e1 := HN.out.kl fb z; have e2 := HN.out.k1; omega)
        clear k1 k2 k3 k4 k5
        refine hK.out _ _ (by exact HF1.out.cell (i := 1) (by omega)) (fun hS => ?_)
        clear hK K
        try simp only [Act.put, List.setIfInBounds_toArray, List.set_cons_zero, List.set_cons_succ]
        refine wpAnyH_ready (rs := [8]) (by kernel_rfl) (by simp) ?_
        refine AllReadyH.cons rfl (fun K hK => ?_) ?_
        · go_simp
          refine hK.out _ _ (by exact (HF1.out.fr ((Fr.refl NoF w1).alloc _) id).cell (i := 1) (by omega)) (fun hS => ?_)
          clear hK K
          try simp only [Act.put, List.setIfInBounds_toArray, List.set_cons_zero, List.set_cons_succ]
          refine wpAnyH_ready (rs := [9]) (by kernel_rfl) (by simp) ?_
          refine AllReadyH.cons rfl (fun K hK => ?_) ?_
          · have fa : Fr NoF w1 (w1.alloc (.cells #[.pointer (some ⟨cj, 0, none⟩)] 67)) := (Fr.refl NoF w1).alloc _
            refine appSB (base := w.heap.size) EIc rfl (.tmp 35) (.tmp 39) rfl (by rfl) (by rfl) (Nat.le_trans HB1.out fa.size) (own_keep HL1.out fa (fun _ _ q => q)) (SlC.ofOwn (own_new (w0 := w1) (Nat.le_refl _) #[_] 67 1 1 _ rfl rfl (by unfold maxLen; omega)) (by intro u hu; simp at hu; subst hu; rfl)) (by unfold maxLen; omega) (by omega) ?_
            intro lv2 w2 hown2 hf2 hob2
            have HB2 := Lib.hid ((HF1.out.fr fa id).fr hf2 NFB.out)
            refine hK.out _ _ (by exact HB2.out.cell (i := 1) (by omega)) (fun hS => ?_)
            clear hK K
            try simp only [Act.put, List.setIfInBounds_toArray, List.set_cons_zero, List.set_cons_succ]
            refine wpAnyH_take (i := 10) (v := ?_) rfl (by decide +kernel) (by decide +kernel) (by decide +kernel) (fun _ _ _ h => h) (Or.inl ⟨by rfl, ?_⟩) hS ?_
            rotate_left
            · intro wS hSw; (try dsimp only at hSw); go_simp
              try with_reducible rfl
            try simp only [Act.put, List.setIfInBounds_toArray, List.set_cons_zero, List.set_cons_succ]
            refine wpAnyH_take (i := 11) (v := ?_) rfl (by decide +kernel) (by decide +kernel) (by decide +kernel) (fun _ _ _ h => h) (Or.inl ⟨by rfl, ?_⟩) hS ?_
            rotate_left
            · intro wS hSw; (try dsimp only at hSw); go_simp
              try with_reducible rfl
            try simp only [Act.put, List.setIfInBounds_toArray, List.set_cons_zero, List.set_cons_succ]
            refine wpAnyH_done (by kernel_rfl) ?_ _
            show wpList _ _ _ _ _ _
            have h1c : ∀ u ∈ ptrsC j cb ++ #[Value.pointer (some ⟨cj, 0, none⟩)].toList, u.oneCell' = true := fun u hu => by
              rcases List.mem_append.1 hu with z | z
              · obtain ⟨i, _, rfl⟩ := List.mem_map.1 z; rfl
              · simp at z; subst z; rfl
            obtain ⟨a2, c2, rfl, -, -⟩ := (SlC.ofOwn hown2 h1c).shape
            clear h1c
            have k2 := HB2.out.frozen 1
            have k3 := HB2.out.lt
            have hl2 := hown2
            have STEP := Lib.hid (NewI.step HN.out KC.out.1 (Nat.le_trans (Fr.size HS0.out) KC.out.2.1) KC.out.2.2.1 (fun x z => ⟨Nat.le_trans (Fr.size HS0.out) (KC.out.2.2.2.1 x z).1, (KC.out.2.2.2.1 x z).2⟩) (HS0.out.trans KC.out.2.2.2.2 (fun _ z => .inl z)) hown2 (fa.none.trans hf2 (fun _ z => .inl z)) (fun b z => (hob2 b z).imp id (fun z => Nat.le_trans fa.size z)))
            have c1 := hS
            clear hown2 hf2 hob2 hl2 HP HL1 HF1 HF HS0 HN SV H0 KC HB2 fa hS z1
            go_wp2_with fail
            go_roundw
            case rel => exact ⟨j + 1, by omega, by go_num, _, STEP.out⟩
            case measure => simp [intOf]; omega
          exact AllReadyH.nil
        exact AllReadyH.nil
      exact AllReadyH.nil
      -- END
    · obtain rfl : j = n := by omega
      have HX := Lib.hid h3
      clear h3 hl
      go_wp2
      go_returns
      exact ⟨rfl, _, _, _, _, _, _, HX.out⟩
/-- A front, made. -/
theorem newX {p : PP} {q : Bool} {M : AM} {m : Nat} {F : Nat → Prop} (hp : AnyP p q M m w F) (hr : M.room ≤ 65535) (h : SlC w 1 ov n ivs) (h1 : 1 ≤ n) (h8 : n ≤ 8) (hi : ∀ i, i < n → ∃ v, ivs[i]? = some v ∧ SlC w 3 v (L i).length (opsC (L i))) (hL : ∀ i, i < n → (L i).length ≤ 1000 ∧ ∀ o ∈ L i, o.ok)
    (hF : ∀ x, F x → x < w.heap.size) (hg : 0 < w.heap.size) (hgF : ¬ F 0) (ht : m + 100 * (FSt.new n L).total < 58000) :
    Calls Tryz.prog 7 #[p.ptr, ov] w fun e w' => ∃ A G, e = .returned (.tuple #[.pointer (some ⟨A.fb, 0, none⟩), .int .i64 0]) ∧ FrX p q A m M (FSt.new n L) w' G ∧ Fr NoF w w' ∧ ∀ x, G x → F x ∨ w.heap.size ≤ x := by
  have e : ∃ pa, p.ptr = .pointer (some pa) := by unfold PP.ptr; exact ⟨_, rfl⟩
  obtain ⟨pa, e⟩ := e
  rw [e]
  refine (new_calls pa h h1 h8 hi (fun i z => (hL i z).1)).mono fun e' w' ⟨k1, lv, cb, mb, oa, oc, kd, k2⟩ => ?_
  rw [← e] at k2
  obtain ⟨A, G, ea, k3, k4⟩ := k2.done hp hr h1 h8 hL hF hg hgF ht
  exact ⟨A, G, by rw [k1, ea], k3, k2.fr, k4⟩
end
end Go.Proofs.YtmpjnphnljakiaaGreatDoor
namespace Go.Proofs.YtmpjnphnljakiaaGreatDoor
open Go.RowKit
set_option linter.unusedVariables false
set_option linter.unusedSimpArgs false
set_option linter.unusedSectionVars false
set_option maxRecDepth 100000
section
variable {w w' : World} {v : Value} {l : List Int}
set_option maxHeartbeats 1000000 in
theorem clone_ints (h : SlZ w v l) (hl : l.length ≤ 65535) : Calls Tryz.prog 18 #[v] w fun e w' => ∃ v', e = .returned v' ∧ SlZ w' v' l ∧ (∀ b, v'.ownBlock = some b → w.heap.size ≤ b) ∧ Fr NoF w w' := by
  have HH := Lib.hid h
  obtain ⟨a, cap, rfl, h1, h2⟩ := SlC.shape h
  have hone : Hid (∀ u ∈ l.map (fun x => Value.int .i64 x), u.oneCell' = true) := by
    intro u hu
    obtain ⟨j, _, rfl⟩ := List.mem_map.1 hu
    rfl
  unfold maxLen at h2
  cases a with
  | none =>
    have hz : cap = 0 := by
      obtain ⟨a', c', e, _, _, _, _, h5⟩ := h
      simp only [Value.slice.injEq] at e
      obtain ⟨rfl, _, rfl⟩ := e
      rcases h5 with ⟨_, q⟩ | ⟨_, _, q, _⟩
      · exact q
      · cases q
    subst hz
    have hn : l = [] := List.length_eq_zero_iff.1 (by omega)
    subst hn
    have hbin : ∀ W : World, (binOp .eql 38 (.slice none 0 0) (.slice none 0 0)).run Tryz.prog W = .ok (.bool true) W := fun W => by first | rfl | kernel_rfl
    clear h
    show Calls _ _ #[.slice none 0 0] _ _
    go_enter Tryz.func18, Tryz.ntmps18
    go_wp2
    go_returns
    exact ⟨_, rfl, SlC.nil _ _, fun b q => (by cases q), Fr.refl _ _⟩
  | some p =>
    have hbin : ∀ W : World, (binOp .eql 38 (.slice (some p) l.length cap) (.slice none 0 0)).run Tryz.prog W = .ok (.bool false) W := fun W => by first | rfl | kernel_rfl
    clear h
    go_enter Tryz.func18, Tryz.ntmps18
    go_wp2_with (at_builtin; go_must (refine appLB (base := w.heap.size) EIi rfl _ _ rfl (by rfl) (by rfl) (by simp) (own_new (w0 := w) (Nat.le_refl _) #[] 3 1 0 _ rfl rfl (by unfold maxLen; omega)) (SlC.keep HH.out ((Fr.refl NoF _).alloc _)) (by unfold maxLen; omega) (by omega) ?_); intro v' w2 hown' hf' hob'; have HF' := Lib.hid hf'; have HO' := Lib.hid hown'; clear hf' hown' hob')
    go_returns
    have ho := HO'.out
    rw [Nat.zero_add, List.nil_append] at ho
    exact ⟨_, rfl, SlC.ofOwn ho hone.out, own_base ho, ((Fr.refl NoF w).alloc _).trans HF'.out (fun i q => .inr (by cases q; exact Nat.le_refl _))⟩
theorem advise_calls (h : SlZ w v l) (hl : l.length ≤ 65535) : Calls Tryz.prog 6 #[v] w fun e w' => ∃ lb F, e = .returned (advV lb) ∧ AR lb w' l F ∧ (∀ i, F i → w.heap.size ≤ i) ∧ Fr NoF w w' := by
  have HC := Lib.hid (clone_ints h hl)
  clear h hl
  go_enter Tryz.func6, Tryz.ntmps6
  go_wp2_with fail
  refine HC.out.mono ?_
  rintro e w1 ⟨v', rfl, h1, h2, h3⟩
  obtain ⟨sa, sc, rfl, s1, s2⟩ := SlC.shape h1
  clear s1 s2
  have H1 := Lib.hid h1
  have H2 := Lib.hid h2
  have H3 := Lib.hid h3
  clear h1 h2 h3 HC
  go_wp2
  go_returns
  have fa : Fr NoF w1 (w1.alloc (.cells #[.slice sa l.length sc] 65)) := (Fr.refl NoF w1).alloc _
  have hs := H3.out.size
  refine ⟨w1.heap.size, fun i => i = w1.heap.size ∨ (Value.slice sa l.length sc).ownBlock = some i, rfl, ⟨.slice sa l.length sc, blk1 w1 _ _, SlC.keep H1.out fa, fun q => ?_, fun i => Iff.rfl⟩, fun i q => ?_, H3.out.trans fa (fun _ q => q.elim)⟩
  · have := SlC.lt H1.out _ q; omega
  · rcases q with rfl | q
    · exact hs
    · exact H2.out i q
end
end Go.Proofs.YtmpjnphnljakiaaGreatDoor
