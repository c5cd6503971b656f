/-
  2Q in memory: a head, the rows of frames, the frames' pages, the flags, the remembered pages; the lists that it stands for. Its calls: has, Size, Ghosts, Set, Remove.
-/
import Derived.Test.YtebhpihickmekaaTwoB
import Derived.Test.YtebhpihickmekaaCnt
namespace Go.Proofs.Ytebhpihickmekaa
open Go.RowKit Go.Maps
set_option linter.unusedVariables false

structure T6 where
  nw : List Nat
  mn : List Nat
  page : Nat → Nat
  ev : Nat → Bool
  gh : List Nat
/-- The blocks: the head's own is not among them. -/
structure TA where
  rb : Nat
  pb : Nat
  eb : Nat
  gr : Nat
  gpb : Nat
  mb : Nat
  FR : Nat → Prop
  FG : Nat → Prop
  lab : Nat → Nat
structure TL (b : Nat) (A : TA) : Prop where
  l0 : A.lab b = 0
  l1 : A.lab A.pb = 1
  l2 : A.lab A.eb = 2
  l3 : ∀ i, A.FR i → A.lab i = 3
  l4 : ∀ i, A.FG i → A.lab i = 4
  l5 : A.lab A.gpb = 5
  l6 : A.lab A.mb = 6
def twH (A : TA) (n inn out sz : Nat) : Nat → Value
  | 0 => .int .i64 inn
  | 1 => .pointer (some ⟨A.rb, 0, none⟩)
  | 2 => .slice (some ⟨A.pb, 0, none⟩) n n
  | 3 => .slice (some ⟨A.eb, 0, none⟩) n n
  | 4 => .int .i64 sz
  | 5 => .pointer (some ⟨A.gr, 0, none⟩)
  | 6 => .slice (some ⟨A.gpb, 0, none⟩) out out
  | 7 => .map (some A.mb)
  | _ => .int .i64 0
theorem twH_sz (A : TA) (n inn out s z : Nat) : upd (twH A n inn out s) 4 (.int .i64 z) = twH A n inn out z := by
  funext j
  match j with
  | 0 => rfl
  | 1 => rfl
  | 2 => rfl
  | 3 => rfl
  | 4 => rfl
  | 5 => rfl
  | 6 => rfl
  | 7 => rfl
  | j + 8 => simp [upd, twH]
structure TC (w : World) (b n inn out : Nat) (A : TA) (t : T6) (tk sp : List Nat) (gp : Nat → Nat) : Prop where
  hd : Blk w b 8 (twH A n inn out (cntL (t.nw ++ t.mn) t.ev))
  rr : RR w A.rb n 2 [t.nw, t.mn] A.FR
  pg : Blk w A.pb n (uN t.page)
  be : Blk w A.eb n (bF t.ev)
  gg : GR w A.gr A.gpb A.mb out tk sp gp t.gh A.FG
  lb : TL b A
  ou : ∀ f, t.ev f = true → f ∈ t.nw ∨ f ∈ t.mn
  hn : n ≤ 65535
  hi : inn ≤ 65535
/-- All its blocks. -/
def FT (A : TA) (b : Nat) : Nat → Prop := fun i => i = b ∨ i = A.pb ∨ i = A.eb ∨ A.FR i ∨ FGm A.FG A.gpb A.mb i

section
variable {w w' : World} {b n inn out : Nat} {A : TA} {t : T6} {tk sp : List Nat} {gp : Nat → Nat}
theorem TC.fr (h : TC w b n inn out A t tk sp gp) {G : Nat → Prop} (f : Fr G w w') (hG : ∀ i, FT A b i → ¬ G i) : TC w' b n inn out A t tk sp gp :=
  ⟨h.hd.fr f (hG _ (.inl rfl)), h.rr.fr f (fun i q => hG i (.inr (.inr (.inr (.inl q))))), h.pg.fr f (hG _ (.inr (.inl rfl))), h.be.fr f (hG _ (.inr (.inr (.inl rfl)))), h.gg.fr f (fun i q => hG i (.inr (.inr (.inr (.inr (.inl q)))))) (hG _ (.inr (.inr (.inr (.inr (.inr (.inl rfl))))))) (hG _ (.inr (.inr (.inr (.inr (.inr (.inr rfl))))))), h.lb, h.ou, h.hn, h.hi⟩
theorem TC.fr0 (h : TC w b n inn out A t tk sp gp) (f : Fr NoF w w') : TC w' b n inn out A t tk sp gp := h.fr f (fun _ _ q => q)
theorem TC.lt (h : TC w b n inn out A t tk sp gp) : ∀ i, FT A b i → i < w.heap.size := by
  rintro i (rfl | rfl | rfl | q | q | rfl | rfl)
  · exact h.hd.lt
  · exact h.pg.lt
  · exact h.be.lt
  · exact h.rr.lt i q
  · exact h.gg.rr.lt i q
  · exact h.gg.pg.lt
  · exact h.gg.mp.lt
theorem TC.c (h : TC w b n inn out A t tk sp gp) (i : Nat) (hi : i < 8) : w.cell? ⟨b, i, none⟩ = some (twH A n inn out (cntL (t.nw ++ t.mn) t.ev) i) := h.hd.cell hi
theorem TC.cp (h : TC w b n inn out A t tk sp gp) {f : Nat} (hf : f < n) : w.cell? ⟨A.pb, f, none⟩ = some (.int .u32 (t.page f : Nat)) := h.pg.cell hf
theorem TC.ce (h : TC w b n inn out A t tk sp gp) {f : Nat} (hf : f < n) : w.cell? ⟨A.eb, f, none⟩ = some (.bool (t.ev f)) := h.be.cell hf
theorem TC.gH (h : TC w b n inn out A t tk sp gp) : GH w b A.gr A.gpb A.mb out A.FG := by
  refine ⟨h.c 5 (by omega), h.c 6 (by omega), h.c 7 (by omega), h.hd.lt, fun q => ?_, fun q => ?_, fun q => ?_⟩
  · have := h.lb.l4 _ q; rw [h.lb.l0] at this; cases this
  · have := h.lb.l5; rw [← q, h.lb.l0] at this; cases this
  · have := h.lb.l6; rw [← q, h.lb.l0] at this; cases this
theorem TC.lists (h : TC w b n inn out A t tk sp gp) : (t.nw ++ t.mn).Nodup ∧ (∀ x ∈ t.nw, x < n) ∧ (∀ x ∈ t.mn, x < n) ∧ (∀ x ∈ t.nw, ¬ x ∈ t.mn) ∧ (t.nw ++ t.mn).length ≤ n := by
  obtain ⟨h1, h2, h3, h4, h5⟩ := h.rr.row2
  have hnd : (t.nw ++ t.mn).Nodup := by
    rw [List.nodup_append]
    exact ⟨h1, h2, fun x hx y hy e => h5 x hx (e ▸ hy)⟩
  refine ⟨hnd, h3, h4, h5, ?_⟩
  have := List.Nodup.length_le_of_subset (l₁ := t.nw ++ t.mn) (l₂ := List.range n) hnd (fun y hy => List.mem_range.2 ((List.mem_append.1 hy).elim (h3 y) (h4 y)))
  simpa using this

theorem ix2 (l m : List Nat) (f : Nat) : ixI (ixZ [l, m] (f : Int)) = if f ∈ l then 0 else if f ∈ m then 1 else -1 := by
  rw [ixZ_nat, rowIx2]
  split
  · rfl
  · split <;> rfl
def T6.setE (t : T6) (f : Nat) (v : Bool) : T6 := if f ∈ t.nw ∨ f ∈ t.mn then ⟨t.nw, t.mn, t.page, upd t.ev f v, t.gh⟩ else t
theorem TL.ne {b : Nat} {A : TA} (l : TL b A) : (¬ b = A.pb) ∧ (¬ b = A.eb) ∧ (¬ A.pb = A.eb) ∧ (¬ A.FR b) ∧ (¬ A.FR A.pb) ∧ (¬ A.FR A.eb) ∧ (¬ FGm A.FG A.gpb A.mb b) ∧ (¬ FGm A.FG A.gpb A.mb A.pb) ∧ (¬ FGm A.FG A.gpb A.mb A.eb) ∧ (∀ i, A.FR i → ¬ FGm A.FG A.gpb A.mb i) := by
  have h0 := l.l0
  have h1 := l.l1
  have h2 := l.l2
  have h5 := l.l5
  have h6 := l.l6
  have hF : ∀ i, FGm A.FG A.gpb A.mb i → 4 ≤ A.lab i := by
    rintro i (q | rfl | rfl)
    · rw [l.l4 i q]; omega
    · omega
    · omega
  refine ⟨fun e => ?_, fun e => ?_, fun e => ?_, fun e => ?_, fun e => ?_, fun e => ?_, fun e => ?_, fun e => ?_, fun e => ?_, fun i hi e => ?_⟩
  · rw [← e] at h1; omega
  · rw [← e] at h2; omega
  · rw [← e] at h2; omega
  · have := l.l3 _ e; omega
  · have := l.l3 _ e; omega
  · have := l.l3 _ e; omega
  · have := hF _ e; omega
  · have := hF _ e; omega
  · have := hF _ e; omega
  · have := hF _ e; have := l.l3 _ hi; omega
theorem TC.setE (h : TC w b n inn out A t tk sp gp) {f : Nat} (hm : f ∈ t.nw ∨ f ∈ t.mn) (v : Bool) {z : Nat} (hz : z = cntL (t.nw ++ t.mn) (upd t.ev f v)) :
    TC ((w.setCell ⟨A.eb, f, none⟩ (.bool v)).setCell ⟨b, 4, none⟩ (.int .i64 z)) b n inn out A ⟨t.nw, t.mn, t.page, upd t.ev f v, t.gh⟩ tk sp gp := by
  subst hz
  obtain ⟨n1, n2, n3, n4, n5, n6, n7, n8, n9, n10⟩ := h.lb.ne
  have f1 : Fr (fun i => i = A.eb ∨ i = b) w ((w.setCell ⟨A.eb, f, none⟩ (.bool v)).setCell ⟨b, 4, none⟩ (.int .i64 (cntL (t.nw ++ t.mn) (upd t.ev f v) : Nat))) :=
    ((Fr.refl (fun i => i = A.eb ∨ i = b) w).setCell (p := ⟨A.eb, f, none⟩) (.inl (.inl rfl)) _).setCell (p := ⟨b, 4, none⟩) (.inl (.inr rfl)) _
  refine ⟨?_, h.rr.fr f1 (fun i hi q => ?_), h.pg.fr f1 (fun q => ?_), ?_, h.gg.fr f1 (fun i hi q => ?_) (fun q => ?_) (fun q => ?_), h.lb, fun g hg => ?_, h.hn, h.hi⟩
  · rw [← twH_sz A n inn out (cntL (t.nw ++ t.mn) t.ev)]
    exact (h.hd.other n2 _).set _ _
  · rcases q with rfl | rfl
    · exact n6 hi
    · exact n4 hi
  · rcases q with q | q
    · exact n3 q
    · exact n1 q.symm
  · rw [← bF_set]
    exact (h.be.set _ _).other (fun e => n2 e.symm) _
  · rcases q with rfl | rfl
    · exact n9 (.inl hi)
    · exact n7 (.inl hi)
  · rcases q with q | q
    · exact n9 (.inr (.inl q.symm))
    · exact n7 (.inr (.inl q.symm))
  · rcases q with q | q
    · exact n9 (.inr (.inr q.symm))
    · exact n7 (.inr (.inr q.symm))
  · by_cases e : g = f
    · rw [e]; exact hm
    · have hg : upd t.ev f v g = true := hg
      rw [upd_other _ _ e] at hg; exact h.ou g hg

def T6.rem (t : T6) (f : Nat) : T6 := if f ∈ t.nw ∨ f ∈ t.mn then ⟨awayN t.nw f, awayN t.mn f, t.page, upd t.ev f false, t.gh⟩ else t
end
end Go.Proofs.Ytebhpihickmekaa
