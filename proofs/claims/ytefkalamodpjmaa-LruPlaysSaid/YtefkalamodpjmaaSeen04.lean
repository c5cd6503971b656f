/-
  seen, of package hatcheckref04's P; and that P is what Run is told of.
-/
import Derived.Test.YtefkalamodpjmaaRef04
namespace Go.Proofs.Ytefkalamodpjmaa
open Go.RowKit
set_option linter.unusedVariables false

def clF (c : Cl) (sz : Nat) (g : Value) : Nat → Value
  | 0 => .int .i64 c.kind
  | 1 => .int .i64 c.frame
  | 2 => .int .u32 c.page
  | 3 => .bool c.on
  | 4 => .int .i64 c.want
  | 5 => .int .i64 sz
  | 6 => g
  | _ => .int .i64 0
theorem clF_size (c : Cl) (a b : Nat) (g : Value) : upd (clF c a g) 5 (.int .i64 b) = clF c b g := by
  funext j
  match j with
  | 0 => rfl
  | 1 => rfl
  | 2 => rfl
  | 3 => rfl
  | 4 => rfl
  | 5 => rfl
  | 6 => rfl
  | j + 7 => simp [upd, clF]
theorem clF_ghosts (c : Cl) (a : Nat) (g g' : Value) : upd (clF c a g) 6 g' = clF c a g' := by
  funext j
  match j with
  | 0 => rfl
  | 1 => rfl
  | 2 => rfl
  | 3 => rfl
  | 4 => rfl
  | 5 => rfl
  | 6 => rfl
  | j + 7 => simp [upd, clF]
/-- Frames that may go, of the first k. -/
def okF (page : List Nat) (on : Nat → Bool) (k : Nat) : Bool := !decide (page.getD k 0 = 0) && on k
def cntF (page : List Nat) (on : Nat → Bool) (k : Nat) : Nat := ((List.range k).filter (okF page on)).length
theorem cntF_succ (page : List Nat) (on : Nat → Bool) (k : Nat) : cntF page on (k + 1) = cntF page on k + (if okF page on k = true then 1 else 0) := by
  unfold cntF
  rw [List.range_succ, List.filter_append, List.length_append]
  by_cases h : okF page on k = true <;> simp [h]
theorem cntF_le (page : List Nat) (on : Nat → Bool) (k : Nat) : cntF page on k ≤ k := by
  have := List.length_filter_le (okF page on) (List.range k)
  simpa [cntF] using this

section
variable {w w' : World} {pb gb ob n : Nat} {s : LS} {v : Value}

def SeenRel (w0 : World) (page : List Nat) (on : Nat → Bool) (n : Nat) (c : Cl) (i : Value) (wr : World) : Prop :=
  ∃ k : Nat, k ≤ n ∧ i = .int .i64 k ∧ Fr NoF w0 wr ∧ Blk wr w0.heap.size 7 (clF c (cntF page on k) (.slice none 0 0)) ∧ Blk wr (w0.heap.size + 1) 7 (clF ⟨0, 0, 0, false, 0, 0, []⟩ 0 (.slice none 0 0))

set_option maxHeartbeats 2000000 in
theorem ls_seen (h : PL w pb gb ob n s v) (c : Cl) (h0 : c.size = 0) (hg : c.ghosts = []) : Calls Try.prog 20 #[.pointer (some ⟨pb, 0, none⟩), .agg (clCells c (.slice none 0 0)).toArray] w fun e w' =>
    ∃ gv, e = .returned (.agg (clCells (lsPol.see s c) gv).toArray) ∧ SlK .u32 w' gv (lsPol.ghosts s) ∧ (∀ b, gv.ownBlock = some b → False) ∧ Fr NoF w w' := by
  obtain ⟨kind, frame, page, on, want, size, ghosts⟩ := c
  simp only at h0 hg
  subst h0 hg
  have lg := h.pg.lt
  have lo := h.on.lt
  have lp := h.hd.lt
  have hn := h.hn
  have hpn := h.pn
  have HH := Lib.hid h
  have HP := Lib.hid hpn
  have key : Calls Try.prog 20 #[.pointer (some ⟨pb, 0, none⟩), .agg #[.int .i64 kind, .int .i64 frame, .int .u32 page, .bool on, .int .i64 want, .int .i64 0, .slice none 0 0]] w fun e w' =>
      e = .returned (.agg #[.int .i64 kind, .int .i64 frame, .int .u32 page, .bool on, .int .i64 want, .int .i64 (cntF s.page s.on n : Nat), .slice none 0 0]) ∧ Fr NoF w w' := by
    clear h hpn
    go_enter Try.func20, Try.ntmps20
    go_wp2
    have hst : SeenRel w s.page s.on n ⟨kind, frame, page, on, want, 0, []⟩ (.int .i64 0) ((w.alloc (.cells #[.int .i64 kind, .int .i64 frame, .int .u32 page, .bool on, .int .i64 want, .int .i64 0, .slice none 0 0] 59)).alloc (.cells #[.int .i64 0, .int .i64 0, .int .u32 0, .bool false, .int .i64 0, .int .i64 0, .slice none 0 0] 59)) := by
      refine ⟨0, Nat.zero_le _, rfl, ((Fr.refl _ _).alloc _).alloc _, ?_, ?_⟩
      · refine (Blk.new _ _ _ 7 _ _ rfl rfl (fun i hi => ?_)).alloc _
        match i, hi with
        | 0, _ => rfl
        | 1, _ => rfl
        | 2, _ => rfl
        | 3, _ => rfl
        | 4, _ => rfl
        | 5, _ => rfl
        | 6, _ => rfl
      · refine Blk.new _ _ _ 7 _ _ (by simp) rfl (fun i hi => ?_)
        match i, hi with
        | 0, _ => rfl
        | 1, _ => rfl
        | 2, _ => rfl
        | 3, _ => rfl
        | 4, _ => rfl
        | 5, _ => rfl
        | 6, _ => rfl
    have HST := Lib.hid hst
    clear hst
    go_loopw [5] (SeenRel w s.page s.on n ⟨kind, frame, page, on, want, 0, []⟩) (fun i _ => n - (intOf i).toNat)
    case atStart => exact HST.out
    case round =>
      obtain ⟨k, hk, rfl, hf, hb, hr⟩ := hrel
      have hP := HH.out.fr hf (fun q => q) (fun q => q) (fun q => q) (fun _ _ q => q)
      have c0 := hP.c0
      have hsz := hf.size
      have HF := Lib.hid hf
      have HB := Lib.hid hb
      have HR := Lib.hid hr
      have HPW := Lib.hid hP
      clear hf hP HST
      by_cases hlt : k < n
      · have c1 := HPW.out.c1
        have c2 := HPW.out.c2
        have cp := HPW.out.cp hlt
        have co := HPW.out.co hlt
        have b5 : wr.cell? ⟨w.heap.size, 5, none⟩ = some (.int .i64 (cntF s.page s.on k : Nat)) := HB.out.cell (i := 5) (by omega)
        have fb : wr.frozen? ⟨w.heap.size, 5, none⟩ = false := HB.out.frozen 5
        have hsu := cntF_succ s.page s.on k
        have hle := cntF_le s.page s.on k
        have HSTEP : Hid (∀ z, z = cntF s.page s.on (k + 1) → Blk (wr.setCell ⟨w.heap.size, 5, none⟩ (.int .i64 (z : Nat))) w.heap.size 7 (clF ⟨kind, frame, page, on, want, 0, []⟩ (cntF s.page s.on (k + 1)) (.slice none 0 0)) ∧ Blk (wr.setCell ⟨w.heap.size, 5, none⟩ (.int .i64 (z : Nat))) (w.heap.size + 1) 7 (clF ⟨0, 0, 0, false, 0, 0, []⟩ 0 (.slice none 0 0))) := by
          rintro z rfl
          exact ⟨by rw [← clF_size _ (cntF s.page s.on k)]; exact HB.out.set _ _, HR.out.other (by show ¬ w.heap.size + 1 = w.heap.size; omega) _⟩
        by_cases hz : s.page.getD k 0 = 0
        · rw [hz] at cp
          have ho : okF s.page s.on k = false := by unfold okF; rw [hz]; simp
          rw [ho] at hsu
          have HSU := Lib.hid hsu
          replace cp : wr.cell? ⟨gb, k, none⟩ = some (.int .u32 0) := cp
          clear hsu ho hz hb hr
          generalize s.on k = z1 at co
          go_wp2
          go_roundw
          case rel => exact ⟨k + 1, by omega, by go_num, HF.out, by rw [HSU.out]; exact HB.out, HR.out⟩
          case measure => first | (simp [intOf]; done) | (simp [intOf]; omega)
        · have b1 : (((s.page.getD k 0 : Nat) : Int) != 0) = true := by simp; simpa using hz
          cases hon : s.on k with
          | false =>
            rw [hon] at co
            have ho : okF s.page s.on k = false := by unfold okF; rw [hon]; simp
            rw [ho] at hsu
            have HSU := Lib.hid hsu
            generalize s.page.getD k 0 = z2 at cp b1
            clear hsu ho hz hb hr hon
            go_wp2
            go_roundw
            case rel => exact ⟨k + 1, by omega, by go_num, HF.out, by rw [HSU.out]; exact HB.out, HR.out⟩
            case measure => first | (simp [intOf]; done) | (simp [intOf]; omega)
          | true =>
            rw [hon] at co
            have ho : okF s.page s.on k = true := by unfold okF; rw [hon]; simp; simpa using hz
            rw [ho] at hsu
            simp only [if_true] at hsu
            have HSU := Lib.hid hsu
            generalize s.page.getD k 0 = z2 at cp b1
            clear hsu ho hz hb hr hon
            have lw : w.heap.size < wr.heap.size := HB.out.lt
            go_wp2
            go_roundw
            case rel =>
              have q := HSTEP.out (cntF s.page s.on k + 1) (by rw [HSU.out])
              exact ⟨k + 1, by omega, by go_num, HF.out.setCell (p := ⟨w.heap.size, 5, none⟩) (.inr (Nat.le_refl _)) _, q.1, q.2⟩
            case measure => first | (simp [intOf]; done) | (simp [intOf]; omega)
      · obtain rfl : k = n := by omega
        have e0 : wr.cell? ⟨w.heap.size, 0, none⟩ = some (.int .i64 kind) := HB.out.cell (i := 0) (by omega)
        have e1 : wr.cell? ⟨w.heap.size, 1, none⟩ = some (.int .i64 frame) := HB.out.cell (i := 1) (by omega)
        have e2 : wr.cell? ⟨w.heap.size, 2, none⟩ = some (.int .u32 page) := HB.out.cell (i := 2) (by omega)
        have e3 : wr.cell? ⟨w.heap.size, 3, none⟩ = some (.bool on) := HB.out.cell (i := 3) (by omega)
        have e4 : wr.cell? ⟨w.heap.size, 4, none⟩ = some (.int .i64 want) := HB.out.cell (i := 4) (by omega)
        have e5 : wr.cell? ⟨w.heap.size, 5, none⟩ = some (.int .i64 (cntF s.page s.on k : Nat)) := HB.out.cell (i := 5) (by omega)
        have e6 : wr.cell? ⟨w.heap.size, 6, none⟩ = some (.slice none 0 0) := HB.out.cell (i := 6) (by omega)
        have f0 : ∀ i, wr.frozen? ⟨w.heap.size, i, none⟩ = false := HB.out.frozen
        have f1 : ∀ i, wr.frozen? ⟨w.heap.size + 1, i, none⟩ = false := HR.out.frozen
        have r0 : wr.cell? ⟨w.heap.size + 1, 0, none⟩ = some (.int .i64 0) := HR.out.cell (i := 0) (by omega)
        have r1 : wr.cell? ⟨w.heap.size + 1, 1, none⟩ = some (.int .i64 0) := HR.out.cell (i := 1) (by omega)
        have r2 : wr.cell? ⟨w.heap.size + 1, 2, none⟩ = some (.int .u32 0) := HR.out.cell (i := 2) (by omega)
        have r3 : wr.cell? ⟨w.heap.size + 1, 3, none⟩ = some (.bool false) := HR.out.cell (i := 3) (by omega)
        have r4 : wr.cell? ⟨w.heap.size + 1, 4, none⟩ = some (.int .i64 0) := HR.out.cell (i := 4) (by omega)
        have r5 : wr.cell? ⟨w.heap.size + 1, 5, none⟩ = some (.int .i64 0) := HR.out.cell (i := 5) (by omega)
        have r6 : wr.cell? ⟨w.heap.size + 1, 6, none⟩ = some (.slice none 0 0) := HR.out.cell (i := 6) (by omega)
        have lw : w.heap.size + 1 < wr.heap.size := HR.out.lt
        clear hb hr
        generalize hz : cntF s.page s.on k = z at *
        have HZ := Lib.hid hz
        clear hz
        go_wp2_with (go_at_call 32; refine (ls_ghosts (w := wr) _).mono ?_; rintro e w' ⟨rfl, rfl⟩)
        refine bodyPost_ret (v := .agg #[.int .i64 kind, .int .i64 frame, .int .u32 page, .bool on, .int .i64 want, .int .i64 (z : Nat), .slice none 0 0]) (by simp [results, Try.results20, go_sem, r0, r1, r2, r3, r4, r5, r6]) rfl ⟨by rw [HZ.out], (((((((HF.out.setCell (p := ⟨w.heap.size, 6, none⟩) (.inr (Nat.le_refl _)) _).setCell (p := ⟨w.heap.size + 1, 0, none⟩) (.inr (Nat.le_succ _)) _).setCell (p := ⟨w.heap.size + 1, 1, none⟩) (.inr (Nat.le_succ _)) _).setCell (p := ⟨w.heap.size + 1, 2, none⟩) (.inr (Nat.le_succ _)) _).setCell (p := ⟨w.heap.size + 1, 3, none⟩) (.inr (Nat.le_succ _)) _).setCell (p := ⟨w.heap.size + 1, 4, none⟩) (.inr (Nat.le_succ _)) _).setCell (p := ⟨w.heap.size + 1, 5, none⟩) (.inr (Nat.le_succ _)) _).setCell (p := ⟨w.heap.size + 1, 6, none⟩) (.inr (Nat.le_succ _)) _⟩
  refine key.mono fun e w' ⟨he, hf⟩ => ⟨.slice none 0 0, ?_, SlK.nil _ _, fun b hb => (by cases hb), hf⟩
  rw [he]
  have : lsPol.size s = cntF s.page s.on n := by show ((List.range s.page.length).filter _).length = _; rw [HP.out]; rfl
  simp only [Pol.see, clCells, this]

theorem lsCo_not {fr : List Nat} {id : Nat} (h : ¬ id ∈ fr) {a : Nat} (ha : a < fr.length) : ¬ fr.getD a 0 = id := by
  intro e
  apply h
  rw [← e]
  simp [ha]
theorem getD_setA {fr : List Nat} {a x f : Nat} (ha : a < fr.length) : (fr.set a x).getD f 0 = if f = a then x else fr.getD f 0 := by
  by_cases e : f = a
  · subst e; simp [ha]
  · rw [if_neg e]
    simp [show ¬ a = f from fun q => e q.symm]

/-- The document's LRU is what Run is told of. -/
theorem ls_sys (hn : n < 1000) : RefSys lsPol (PRL pb n) pb n (lsCo n) where
  pf := PRL_fr
  cN := by
    rintro w s F D ⟨gb, ob, v, h, hF, hD⟩
    exact h.c0
  miss := by
    rintro w s F D fr id hp hc _ _ _
    exact ⟨hc, (ls_miss _ _).mono fun e w' ⟨he, hw⟩ => ⟨he, F, D, hw ▸ hp, hw ▸ Fr.refl _ _, fun i hi => .inl hi, fun i hi => .inl hi⟩⟩
  access := by
    rintro w s F D fr a id ⟨gb, ob, v, h, hF, hD⟩ ⟨e1, e2, e3, e4⟩ ha hfa h1 h2
    refine ⟨⟨by show s.page.set a id = _; rw [e1], by simp [e2], fun f => ?_, fun f hf => mem_backN.2 (.inl (e4 f hf))⟩, (ls_access h ha id).mono fun e w' ⟨he, v', hP, hf, hb⟩ => ⟨he, F, fun i => F i ∨ v'.ownBlock = some i, ⟨gb, ob, v', hP, hF, fun i => ?_⟩, hf.mono (fun i q => (hF i).2 q), fun i hi => .inl hi, fun i hi => ?_⟩⟩
    · show f ∈ backN s.l a ↔ _
      rw [mem_backN, e3, getD_setA (by omega)]
      by_cases e : f = a
      · subst e; simp; omega
      · simp [e]
    · show F i ∨ _ ↔ _
      rw [hF]
    · rcases hi with q | q
      · exact .inl ((hD i).2 (.inl ((hF i).1 q)))
      · exact .inr (hb i q)
  set := by
    rintro w s F D fr a x v ⟨gb, ob, vv, h, hF, hD⟩ ⟨e1, e2, e3, e4⟩ ha hfa h1
    refine ⟨⟨e1, e2, e3, fun f hf => ?_⟩, (ls_set h ha v).mono fun e w' ⟨he, hw⟩ => ?_⟩
    · by_cases e : f = a
      · subst e
        refine (e3 f).2 ⟨ha, ?_⟩
        have : fr.getD f 0 = x := by rw [List.getD_eq_getElem?_getD, hfa]; rfl
        omega
      · have hf : upd s.on a v f = true := hf
        rw [upd_other _ _ e] at hf; exact e4 f hf
    · subst hw
      exact ⟨he, F, D, ⟨gb, ob, vv, h.setOn a v, hF, hD⟩, (Fr.refl F w).setCell (p := ⟨ob, a, none⟩) (.inl ((hF ob).2 (.inr (.inr rfl)))) _, fun i hi => .inl hi, fun i hi => .inl hi⟩
  victimNo := by
    rintro w s F D fr id ⟨gb, ob, v, h, hF, hD⟩ hc _ _ _ hv
    exact (ls_victim_no h _ hv).mono fun e w' ⟨he, d, hw⟩ => ⟨he, F, D, hw ▸ ⟨gb, ob, v, h.fr ((Fr.refl NoF w).drewN d) (fun q => q) (fun q => q) (fun q => q) (fun _ _ q => q), hF, hD⟩, hw ▸ (Fr.refl F w).drewN d, fun i hi => .inl hi, fun i hi => .inl hi⟩
  victimYes := by
    rintro w s F D fr id a ⟨gb, ob, v, h, hF, hD⟩ ⟨e1, e2, e3, e4⟩ _ _ _ hv
    have hv' : s.l.find? s.on = some a := hv
    have hg : lsPol.gone s id = s.remove a := by show (match s.l.find? s.on with | none => s | some a => s.remove a) = _; rw [hv']
    have ha : a < n := h.lt a (List.mem_of_find?_eq_some hv')
    rw [hg]
    refine ⟨ha, ⟨by show s.page.set a 0 = _; rw [e1], by simp [e2], fun f => ?_, fun f hf => ?_⟩, (ls_victim_yes h _ hv').mono fun e w' ⟨he, v', hP, hf, hb⟩ => ⟨he, F, fun i => F i ∨ v'.ownBlock = some i, ⟨gb, ob, v', hP, hF, fun i => ?_⟩, hf.mono (fun i q => (hF i).2 q), fun i hi => .inl hi, fun i hi => ?_⟩⟩
    · show f ∈ awayN s.l a ↔ _
      rw [mem_awayN, e3, getD_setA (by omega)]
      by_cases e : f = a
      · subst e; simp
      · simp [e]
    · have hf : upd s.on a false f = true := hf
      by_cases e : f = a
      · subst e; rw [upd_same] at hf; cases hf
      · rw [upd_other _ _ e] at hf; exact mem_awayN.2 ⟨e4 f hf, e⟩
    · show F i ∨ _ ↔ _
      rw [hF]
    · rcases hi with q | q
      · exact .inl ((hD i).2 (.inl ((hF i).1 q)))
      · exact .inr (hb i q)
  remove := by
    rintro w s F D fr a x ⟨gb, ob, v, h, hF, hD⟩ ⟨e1, e2, e3, e4⟩ ha hfa h1
    refine ⟨⟨by show s.page.set a 0 = _; rw [e1], by simp [e2], fun f => ?_, fun f hf => ?_⟩, (ls_remove h ha).mono fun e w' ⟨he, v', hP, hf, hb⟩ => ⟨he, F, fun i => F i ∨ v'.ownBlock = some i, ⟨gb, ob, v', hP, hF, fun i => ?_⟩, hf.mono (fun i q => (hF i).2 q), fun i hi => .inl hi, fun i hi => ?_⟩⟩
    · show f ∈ awayN s.l a ↔ _
      rw [mem_awayN, e3, getD_setA (by omega)]
      by_cases e : f = a
      · subst e; simp
      · simp [e]
    · have hf : upd s.on a false f = true := hf
      by_cases e : f = a
      · subst e; rw [upd_same] at hf; cases hf
      · rw [upd_other _ _ e] at hf; exact mem_awayN.2 ⟨e4 f hf, e⟩
    · show F i ∨ _ ↔ _
      rw [hF]
    · rcases hi with q | q
      · exact .inl ((hD i).2 (.inl ((hF i).1 q)))
      · exact .inr (hb i q)
  seen := by
    rintro w s F D c ⟨gb, ob, v, h, hF, hD⟩ h0 hg
    exact (ls_seen h c h0 hg).mono fun e w' ⟨gv, he, hs, hb, hf⟩ => ⟨gv, he, hs, fun b q => (hb b q).elim, hf⟩
end
end Go.Proofs.Ytefkalamodpjmaa
