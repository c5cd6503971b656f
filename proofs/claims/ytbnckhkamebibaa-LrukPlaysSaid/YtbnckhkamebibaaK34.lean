/-
  seen, of whatever document's policy: how many frames may go, and what it remembers.
-/
import Derived.Test.YtbnckhkamebibaaK33
namespace Go.Proofs.Ytbnckhkamebibaa
open Go.RowKit
set_option linter.unusedVariables false

def clF (c : Cl) (sz : Nat) (g : Value) : Nat → Value
  | 0 => .int .i64 c.kind
  | 1 => .int .i64 c.frame
  | 2 => .int .u32 c.page
  | 3 => .bool c.on
  | 4 => .int .i64 c.want
  | 5 => .int .i64 sz
  | 6 => g
  | _ => .int .i64 0
theorem clF_size (c : Cl) (a b : Nat) (g : Value) : upd (clF c a g) 5 (.int .i64 b) = clF c b g := by
  funext j
  match j with
  | 0 => rfl
  | 1 => rfl
  | 2 => rfl
  | 3 => rfl
  | 4 => rfl
  | 5 => rfl
  | 6 => rfl
  | j + 7 => simp [upd, clF]
theorem clF_ghosts (c : Cl) (a : Nat) (g g' : Value) : upd (clF c a g) 6 g' = clF c a g' := by
  funext j
  match j with
  | 0 => rfl
  | 1 => rfl
  | 2 => rfl
  | 3 => rfl
  | 4 => rfl
  | 5 => rfl
  | 6 => rfl
  | j + 7 => simp [upd, clF]
/-- Frames that may go, of the first k. -/
def okF (page : List Nat) (on : Nat → Bool) (k : Nat) : Bool := !decide (page.getD k 0 = 0) && on k
def cntF (page : List Nat) (on : Nat → Bool) (k : Nat) : Nat := ((List.range k).filter (okF page on)).length
theorem cntF_succ (page : List Nat) (on : Nat → Bool) (k : Nat) : cntF page on (k + 1) = cntF page on k + (if okF page on k = true then 1 else 0) := by
  unfold cntF
  rw [List.range_succ, List.filter_append, List.length_append]
  by_cases h : okF page on k = true <;> simp [h]
theorem cntF_le (page : List Nat) (on : Nat → Bool) (k : Nat) : cntF page on k ≤ k := by
  have := List.length_filter_le (okF page on) (List.range k)
  simpa [cntF] using this

section
variable {w w' : World} {pb gb ob n : Nat}

def SeenRel (w0 : World) (page : List Nat) (on : Nat → Bool) (n : Nat) (c : Cl) (i : Value) (wr : World) : Prop :=
  ∃ k : Nat, k ≤ n ∧ i = .int .i64 k ∧ Fr NoF w0 wr ∧ Blk wr w0.heap.size 7 (clF c (cntF page on k) (.slice none 0 0)) ∧ Blk wr (w0.heap.size + 1) 7 (clF ⟨0, 0, 0, false, 0, 0, []⟩ 0 (.slice none 0 0))

set_option maxHeartbeats 2000000 in
theorem seen_gen {hc : Nat → Value} {rows : RowsF} {page : List Nat} {on : Nat → Bool} {M : Nat} {gh : List Nat} (h : PG w pb M gb ob n hc rows page on) (hM : 8 ≤ M + 4) (i0 : hc 0 = .int .i64 n) (i1 : hc 4 = .slice (some ⟨gb, 0, none⟩) n n) (i2 : hc 5 = .slice (some ⟨ob, 0, none⟩) n n) (hIM : 4 < M ∧ 5 < M)
    (hG : ∀ wr, Fr NoF w wr → Calls Try.prog 41 #[.pointer (some ⟨pb, 0, none⟩)] wr fun e w' => ∃ gv, e = .returned gv ∧ SlK .u32 w' gv gh ∧ (∀ b, gv.ownBlock = some b → (DP pb gb ob hc rows b ∧ ¬ FP pb gb ob b) ∨ wr.heap.size ≤ b) ∧ Fr NoF wr w')
    (c : Cl) (h0 : c.size = 0) (hg : c.ghosts = []) : Calls Try.prog 21 #[.pointer (some ⟨pb, 0, none⟩), .agg (clCells c (.slice none 0 0)).toArray] w fun e w' =>
    ∃ gv, e = .returned (.agg (clCells { c with size := cntF page on n, ghosts := gh } gv).toArray) ∧ SlK .u32 w' gv gh ∧ (∀ b, gv.ownBlock = some b → (DP pb gb ob hc rows b ∧ ¬ FP pb gb ob b) ∨ w.heap.size ≤ b) ∧ Fr NoF w w' := by
  obtain ⟨kind, frame, page0, on0, want, size, ghosts⟩ := c
  simp only at h0 hg
  subst h0 hg
  have lg := h.pg.lt
  have lo := h.on.lt
  have lp := h.hd.lt
  have hn := h.hn
  have HH := Lib.hid h
  have HHC := Lib.hid (And.intro i0 (And.intro i1 i2))
  have HGH := Lib.hid hG
  have HDL := Lib.hid h.lt
  have key : Calls Try.prog 21 #[.pointer (some ⟨pb, 0, none⟩), .agg #[.int .i64 kind, .int .i64 frame, .int .u32 page0, .bool on0, .int .i64 want, .int .i64 0, .slice none 0 0]] w fun e w' =>
      ∃ gv, e = .returned (.agg #[.int .i64 kind, .int .i64 frame, .int .u32 page0, .bool on0, .int .i64 want, .int .i64 (cntF page on n : Nat), gv]) ∧ SlK .u32 w' gv gh ∧ (∀ b, gv.ownBlock = some b → (DP pb gb ob hc rows b ∧ ¬ FP pb gb ob b) ∨ w.heap.size ≤ b) ∧ Fr NoF w w' := by
    clear h hG i0 i1 i2
    go_enter Try.func21, Try.ntmps21
    go_wp2
    have hst : SeenRel w page on n ⟨kind, frame, page0, on0, want, 0, []⟩ (.int .i64 0) ((w.alloc (.cells #[.int .i64 kind, .int .i64 frame, .int .u32 page0, .bool on0, .int .i64 want, .int .i64 0, .slice none 0 0] 38)).alloc (.cells #[.int .i64 0, .int .i64 0, .int .u32 0, .bool false, .int .i64 0, .int .i64 0, .slice none 0 0] 38)) := by
      refine ⟨0, Nat.zero_le _, rfl, ((Fr.refl _ _).alloc _).alloc _, ?_, ?_⟩
      · refine (Blk.new _ _ _ 7 _ _ rfl rfl (fun i hi => ?_)).alloc _
        match i, hi with
        | 0, _ => rfl
        | 1, _ => rfl
        | 2, _ => rfl
        | 3, _ => rfl
        | 4, _ => rfl
        | 5, _ => rfl
        | 6, _ => rfl
      · refine Blk.new _ _ _ 7 _ _ (by simp) rfl (fun i hi => ?_)
        match i, hi with
        | 0, _ => rfl
        | 1, _ => rfl
        | 2, _ => rfl
        | 3, _ => rfl
        | 4, _ => rfl
        | 5, _ => rfl
        | 6, _ => rfl
    have HST := Lib.hid hst
    clear hst
    go_loopw [5] (SeenRel w page on n ⟨kind, frame, page0, on0, want, 0, []⟩) (fun i _ => n - (intOf i).toNat)
    case atStart => exact HST.out
    case round =>
      obtain ⟨k, hk, rfl, hf, hb, hr⟩ := hrel
      have hP := HH.out.fr0 hf
      have c0 : wr.cell? ⟨pb, 0, none⟩ = some (.int .i64 n) := hP.c 0 (by omega) HHC.out.1
      have hsz := hf.size
      have HF := Lib.hid hf
      have HB := Lib.hid hb
      have HR := Lib.hid hr
      have HPW := Lib.hid hP
      clear hf hP HST
      by_cases hlt : k < n
      · have c1 : wr.cell? ⟨pb, 4, none⟩ = some (.slice (some ⟨gb, 0, none⟩) n n) := HPW.out.c 4 hIM.1 HHC.out.2.1
        have c2 : wr.cell? ⟨pb, 5, none⟩ = some (.slice (some ⟨ob, 0, none⟩) n n) := HPW.out.c 5 hIM.2 HHC.out.2.2
        have cp := HPW.out.cp hlt
        have co := HPW.out.co hlt
        have b5 : wr.cell? ⟨w.heap.size, 5, none⟩ = some (.int .i64 (cntF page on k : Nat)) := HB.out.cell (i := 5) (by omega)
        have fb : wr.frozen? ⟨w.heap.size, 5, none⟩ = false := HB.out.frozen 5
        have hsu := cntF_succ page on k
        have hle := cntF_le page on k
        have HSTEP : Hid (∀ z, z = cntF page on (k + 1) → Blk (wr.setCell ⟨w.heap.size, 5, none⟩ (.int .i64 (z : Nat))) w.heap.size 7 (clF ⟨kind, frame, page0, on0, want, 0, []⟩ (cntF page on (k + 1)) (.slice none 0 0)) ∧ Blk (wr.setCell ⟨w.heap.size, 5, none⟩ (.int .i64 (z : Nat))) (w.heap.size + 1) 7 (clF ⟨0, 0, 0, false, 0, 0, []⟩ 0 (.slice none 0 0))) := by
          rintro z rfl
          exact ⟨by rw [← clF_size _ (cntF page on k)]; exact HB.out.set _ _, HR.out.other (by show ¬ w.heap.size + 1 = w.heap.size; omega) _⟩
        by_cases hz : page.getD k 0 = 0
        · rw [hz] at cp
          have ho : okF page on k = false := by unfold okF; rw [hz]; simp
          rw [ho] at hsu
          have HSU := Lib.hid hsu
          replace cp : wr.cell? ⟨gb, k, none⟩ = some (.int .u32 0) := cp
          clear hsu ho hz hb hr
          generalize on k = z1 at co
          go_wp2
          go_roundw
          case rel => exact ⟨k + 1, by omega, by go_num, HF.out, by rw [HSU.out]; exact HB.out, HR.out⟩
          case measure => first | (simp [intOf]; done) | (simp [intOf]; omega)
        · have b1 : (((page.getD k 0 : Nat) : Int) != 0) = true := by simp; simpa using hz
          cases hon : on k with
          | false =>
            rw [hon] at co
            have ho : okF page on k = false := by unfold okF; rw [hon]; simp
            rw [ho] at hsu
            have HSU := Lib.hid hsu
            generalize page.getD k 0 = z2 at cp b1
            clear hsu ho hz hb hr hon
            go_wp2
            go_roundw
            case rel => exact ⟨k + 1, by omega, by go_num, HF.out, by rw [HSU.out]; exact HB.out, HR.out⟩
            case measure => first | (simp [intOf]; done) | (simp [intOf]; omega)
          | true =>
            rw [hon] at co
            have ho : okF page on k = true := by unfold okF; rw [hon]; simp; simpa using hz
            rw [ho] at hsu
            simp only [if_true] at hsu
            have HSU := Lib.hid hsu
            generalize page.getD k 0 = z2 at cp b1
            clear hsu ho hz hb hr hon
            have lw : w.heap.size < wr.heap.size := HB.out.lt
            go_wp2
            go_roundw
            case rel =>
              have q := HSTEP.out (cntF page on k + 1) (by rw [HSU.out])
              exact ⟨k + 1, by omega, by go_num, HF.out.setCell (p := ⟨w.heap.size, 5, none⟩) (.inr (Nat.le_refl _)) _, q.1, q.2⟩
            case measure => first | (simp [intOf]; done) | (simp [intOf]; omega)
      · obtain rfl : k = n := by omega
        have lw : w.heap.size + 1 < wr.heap.size := HR.out.lt
        have HGW := Lib.hid (HGH.out wr HF.out)
        clear hb hr
        go_wp2_with fail
        refine HGW.out.mono ?_
        clear HGW
        rintro e w2 ⟨gv, rfl, hgs, hgb, hf2⟩
        have hB := HB.out.fr hf2 id
        have hR := HR.out.fr hf2 id
        have lw2 : w.heap.size + 1 < w2.heap.size := Nat.lt_of_lt_of_le lw hf2.size
        have e0 : w2.cell? ⟨w.heap.size, 0, none⟩ = some (.int .i64 kind) := hB.cell (i := 0) (by omega)
        have e1 : w2.cell? ⟨w.heap.size, 1, none⟩ = some (.int .i64 frame) := hB.cell (i := 1) (by omega)
        have e2 : w2.cell? ⟨w.heap.size, 2, none⟩ = some (.int .u32 page0) := hB.cell (i := 2) (by omega)
        have e3 : w2.cell? ⟨w.heap.size, 3, none⟩ = some (.bool on0) := hB.cell (i := 3) (by omega)
        have e4 : w2.cell? ⟨w.heap.size, 4, none⟩ = some (.int .i64 want) := hB.cell (i := 4) (by omega)
        have e5 : w2.cell? ⟨w.heap.size, 5, none⟩ = some (.int .i64 (cntF page on k : Nat)) := hB.cell (i := 5) (by omega)
        have e6 : w2.cell? ⟨w.heap.size, 6, none⟩ = some (.slice none 0 0) := hB.cell (i := 6) (by omega)
        have f0 : ∀ i, w2.frozen? ⟨w.heap.size, i, none⟩ = false := hB.frozen
        have f1 : ∀ i, w2.frozen? ⟨w.heap.size + 1, i, none⟩ = false := hR.frozen
        have r0 : w2.cell? ⟨w.heap.size + 1, 0, none⟩ = some (.int .i64 0) := hR.cell (i := 0) (by omega)
        have r1 : w2.cell? ⟨w.heap.size + 1, 1, none⟩ = some (.int .i64 0) := hR.cell (i := 1) (by omega)
        have r2 : w2.cell? ⟨w.heap.size + 1, 2, none⟩ = some (.int .u32 0) := hR.cell (i := 2) (by omega)
        have r3 : w2.cell? ⟨w.heap.size + 1, 3, none⟩ = some (.bool false) := hR.cell (i := 3) (by omega)
        have r4 : w2.cell? ⟨w.heap.size + 1, 4, none⟩ = some (.int .i64 0) := hR.cell (i := 4) (by omega)
        have r5 : w2.cell? ⟨w.heap.size + 1, 5, none⟩ = some (.int .i64 0) := hR.cell (i := 5) (by omega)
        have r6 : w2.cell? ⟨w.heap.size + 1, 6, none⟩ = some (.slice none 0 0) := hR.cell (i := 6) (by omega)
        have hgn : ∀ b, gv.ownBlock = some b → ¬ (b = w.heap.size ∨ b = w.heap.size + 1) := fun b q => by
          rcases hgb b q with ⟨q, _⟩ | q
          · have := HDL.out b q; omega
          · omega
        have HGS := Lib.hid (And.intro hgs (And.intro hgb hgn))
        have HF2 := Lib.hid (HF.out.trans hf2 (fun _ q => q.elim))
        obtain ⟨ga, gc, rfl, _, _⟩ := hgs.shape
        clear hB hR hgs hgb hgn hf2
        generalize hz : cntF page on k = z at *
        have HZ := Lib.hid hz
        clear hz
        go_wp2
        have hX : ∀ (G : World), Fr (fun i => i = w.heap.size ∨ i = w.heap.size + 1) w2 G → (SlK .u32 G (.slice ga gh.length gc) gh ∧ (∀ b, (Value.slice ga gh.length gc).ownBlock = some b → (DP pb gb ob hc rows b ∧ ¬ FP pb gb ob b) ∨ w.heap.size ≤ b) ∧ Fr NoF w G) := fun G f =>
          ⟨HGS.out.1.fr f HGS.out.2.2, fun b q => (HGS.out.2.1 b q).imp id (fun q => Nat.le_trans HF.out.size q), HF2.out.trans f (fun i q => .inr (by omega))⟩
        refine bodyPost_ret (v := .agg #[.int .i64 kind, .int .i64 frame, .int .u32 page0, .bool on0, .int .i64 want, .int .i64 (z : Nat), .slice ga gh.length gc]) (by simp [results, Try.results21, go_sem, r0, r1, r2, r3, r4, r5, r6]) rfl ⟨_, by rw [HZ.out], hX _ ?_⟩
        exact ((((((((Fr.refl _ w2).setCell (p := ⟨w.heap.size, 6, none⟩) (.inl (.inl rfl)) _).setCell (p := ⟨w.heap.size + 1, 0, none⟩) (.inl (.inr rfl)) _).setCell (p := ⟨w.heap.size + 1, 1, none⟩) (.inl (.inr rfl)) _).setCell (p := ⟨w.heap.size + 1, 2, none⟩) (.inl (.inr rfl)) _).setCell (p := ⟨w.heap.size + 1, 3, none⟩) (.inl (.inr rfl)) _).setCell (p := ⟨w.heap.size + 1, 4, none⟩) (.inl (.inr rfl)) _).setCell (p := ⟨w.heap.size + 1, 5, none⟩) (.inl (.inr rfl)) _).setCell (p := ⟨w.heap.size + 1, 6, none⟩) (.inl (.inr rfl)) _
  exact key.mono fun e w' ⟨gv, he, hs, hb, hf⟩ => ⟨gv, he, hs, hb, hf⟩
end

theorem lsCo_not {fr : List Nat} {id : Nat} (h : ¬ id ∈ fr) {a : Nat} (ha : a < fr.length) : ¬ fr.getD a 0 = id := by
  intro e
  apply h
  rw [← e]
  simp [ha]
theorem getD_setA {fr : List Nat} {a x f : Nat} (ha : a < fr.length) : (fr.set a x).getD f 0 = if f = a then x else fr.getD f 0 := by
  by_cases e : f = a
  · subst e; simp [ha]
  · rw [if_neg e]
    simp [show ¬ a = f from fun q => e q.symm]

end Go.Proofs.Ytbnckhkamebibaa
