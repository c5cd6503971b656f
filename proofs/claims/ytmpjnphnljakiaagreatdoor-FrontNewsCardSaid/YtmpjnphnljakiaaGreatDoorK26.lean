/-
  Front: a client's second step: do.
  Front: Pick, over raw memory.
  pool: the library's sort of the dirty frames; FlushAll.
  FlushAll of any pool.
  model.Call: FlushAll of a pool that shows a map.
  Front: a client's call of a pool that shows a map: whatever it is.
  Front: the whole in memory; a Pick of it.
  Front: Pick, of the whole.
  Front: how much is done (pure); a Pick by the log's length.
-/
import Derived.Test.YtmpjnphnljakiaaGreatDoorK25
import Derived.Test.YtmpjnphnljakiaaGreatDoorK24
import Derived.Shelf.SlSortCmp.NoneTotal
import Derived.Shelf.Lay
import Derived.Ground.SlsfProg
import Derived.Test.YtmpjnphnljakiaaGreatDoorK21
import Derived.Test.YtmpjnphnljakiaaGreatDoorK22
import Derived.Test.YtmpjnphnljakiaaGreatDoorK23
namespace Go.Proofs.YtmpjnphnljakiaaGreatDoor
open Go.RowKit Go.Maps
set_option linter.unusedVariables false
set_option linter.unusedSimpArgs false
set_option linter.unusedSectionVars false
set_option maxRecDepth 100000
/-- A call that was done: whose, which one of its, what, the answer. -/
structure EnF where
  c : Nat
  i : Nat
  o : OpF
  a : AnF
def EnF.cells (e : EnF) : List Value := [.int .i64 (e.c : Nat), .int .i64 (e.i : Nat), .int .i64 e.o.k, .int .u32 (e.o.id : Nat), .int .u64 (e.o.v : Nat), .int .i64 (e.a.e : Nat), .int .u32 (e.a.id : Nat), .int .u64 (e.a.v : Nat)]
def logC (l : List EnF) : List Value := l.flatMap EnF.cells
theorem logC_snoc (l : List EnF) (e : EnF) : logC (l ++ [e]) = logC l ++ e.cells := by simp [logC]
theorem logC_one (l : List EnF) : ∀ u ∈ logC l, u.oneCell' = true := by
  intro u hu
  obtain ⟨e, _, h⟩ := List.mem_flatMap.1 hu
  simp only [EnF.cells, List.mem_cons, List.not_mem_nil, or_false] at h
  rcases h with rfl | rfl | rfl | rfl | rfl | rfl | rfl | rfl <;> rfl
abbrev LogAt (w : World) (base : Nat) (lv : Value) (L : List EnF) : Prop := w.ownsRow base 77 8 lv L.length (logC L)
theorem EIe : EI Tryz.prog 41 77 8 64 := EI.mk' (z := .agg #[.int .i64 0, .int .i64 0, .int .i64 0, .int .u32 0, .int .u64 0, .int .i64 0, .int .u32 0, .int .u64 0]) Tryz.underlying41 (by kernel_rfl) rfl (by decide)
def opC (o : OpF) : List Value := [.int .i64 o.k, .int .u32 (o.id : Nat), .int .u64 (o.v : Nat)]
def opsC (l : List OpF) : List Value := l.flatMap opC
theorem opsC_at (l : List OpF) {k : Nat} (hk : k < l.length) : (opsC l)[k * 3]? = some (.int .i64 l[k].k) ∧ (opsC l)[k * 3 + 1]? = some (.int .u32 (l[k].id : Nat)) ∧ (opsC l)[k * 3 + 2]? = some (.int .u64 (l[k].v : Nat)) := by
  induction l generalizing k with
  | nil => simp at hk
  | cons x l ih =>
    cases k with
    | zero => exact ⟨rfl, rfl, rfl⟩
    | succ k =>
      obtain ⟨q0, q1, q2⟩ := ih (k := k) (by simpa using hk)
      have e : ∀ j, (opsC (x :: l))[j + 3]? = (opsC l)[j]? := fun j => by simp [opsC, opC]
      rw [show (k + 1) * 3 = k * 3 + 3 by omega, e, show k * 3 + 3 + 1 = k * 3 + 1 + 3 by omega, e, show k * 3 + 3 + 2 = k * 3 + 2 + 3 by omega, e]
      exact ⟨q0, q1, q2⟩
/-- An entry as a block's cells. -/
def enC (c i : Nat) (o : OpF) (a : AnF) : Nat → Value := fun j => match j with | 0 => .int .i64 (c : Nat) | 1 => .int .i64 (i : Nat) | 2 => .int .i64 o.k | 3 => .int .u32 (o.id : Nat) | 4 => .int .u64 (o.v : Nat) | 5 => .int .i64 (a.e : Nat) | 6 => .int .u32 (a.id : Nat) | _ => .int .u64 (a.v : Nat)
theorem blkEn (w : World) (c i : Nat) (o : OpF) {t : TypeId} : Blk (w.alloc (.cells #[.int .i64 (c : Nat), .int .i64 (i : Nat), .int .i64 o.k, .int .u32 (o.id : Nat), .int .u64 (o.v : Nat), .int .i64 0, .int .u32 0, .int .u64 0] t)) w.heap.size 8 (enC c i o ⟨0, 0, 0⟩) := Blk.new _ _ _ 8 _ _ rfl rfl (fun j hj => by
  match j, hj with
  | 0, _ | 1, _ | 2, _ | 3, _ | 4, _ | 5, _ | 6, _ | 7, _ => rfl)
theorem enC_put (c i : Nat) (o : OpF) (a a' : AnF) {w : World} {g : Nat} (h : Blk w g 8 (enC c i o a)) : Blk (((w.setCell ⟨g, 5, none⟩ (.int .i64 (a'.e : Nat))).setCell ⟨g, 6, none⟩ (.int .u32 (a'.id : Nat))).setCell ⟨g, 7, none⟩ (.int .u64 (a'.v : Nat))) g 8 (enC c i o a') :=
  (((h.set 5 (.int .i64 (a'.e : Nat))).set 6 (.int .u32 (a'.id : Nat))).set 7 (.int .u64 (a'.v : Nat))).congr (fun j hj => by
    match j, hj with
    | 0, _ | 1, _ | 2, _ | 3, _ | 4, _ | 5, _ | 6, _ | 7, _ => rfl)
theorem frC_lv (pv cv : Value) (la : Option Nat) (lv lv' : Value) : upd (frC pv cv la lv) 3 lv' = frC pv cv la lv' := by
  funext j
  unfold upd
  match j with
  | 0 | 1 | 2 | 3 => rfl
  | _ + 4 => simp [frC]
/-- What is left of the second step. -/
def DoPost (p : PP) (q : Bool) (M' : AM) (m' : Nat) (F : Nat → Prop) (w : World) (b fb mb cnt base : Nat) (i d : Nat) (ov cv : Value) (la : Option Nat) (lv : Value) (L : List EnF) (pin' : Nat → Nat) (w' : World) : Prop :=
  ∃ F' cnt' lv', AnyP p q M' m' w' F' ∧ (∀ j, F' j → F j ∨ w.heap.size ≤ j) ∧ cnt' ≤ cnt + 1 ∧ PinsAt w' mb cnt' (pinM pin') ∧ Blk w' b 5 (clC i ov (d + 1) mb b 3) ∧ Blk w' fb 4 (frC p.ptr cv la lv') ∧ LogAt w' base lv' L ∧ (∀ j, lv'.ownBlock = some j → lv.ownBlock = some j ∨ w.heap.size ≤ j) ∧ (∀ j, F' j → ¬ lv'.ownBlock = some j) ∧ Fr (fun j => F j ∨ j = mb ∨ j = b ∨ j = fb ∨ lv.ownBlock = some j) w w'
section
variable {p : PP} {q : Bool} {M M' : AM} {m m' : Nat} {w : World} {F : Nat → Prop} {a : AnF} {b fb i d mb s cnt base n oc : Nat} {oa : Option Addr} {cv lv : Value} {la : Option Nat} {pin pin' : Nat → Nat} {l : List OpF} {L : List EnF}
set_option maxHeartbeats 8000000 in
theorem do_calls (hlt : ∀ j, F j → j < w.heap.size) (ho : SlC w 3 (.slice oa l.length oc) l.length (opsC l)) (hd : d < l.length) (hl : l.length ≤ 100000) (hi : i < 100000) (hc : Blk w b 5 (clC i (.slice oa l.length oc) d mb b s)) (hf : Blk w fb 4 (frC p.ptr cv la lv)) (hL : LogAt w base lv L) (hLn : L.length < 100000) (hb0 : base ≤ w.heap.size)
    (ne : ¬ b = mb) (nbf : ¬ b = fb) (nmf : ¬ mb = fb) (nb : ¬ F b) (nm : ¬ F mb) (nf : ¬ F fb) (no : ∀ j, (Value.slice oa l.length oc).ownBlock = some j → ¬ F j ∧ ¬ j = b ∧ ¬ j = fb ∧ ¬ j = mb) (nl : ∀ j, lv.ownBlock = some j → ¬ F j ∧ ¬ j = b ∧ ¬ j = fb ∧ ¬ j = mb) (hmb : mb < w.heap.size) (ht : 0 < w.heap.size) (tb : ¬ 0 = b ∧ ¬ 0 = fb ∧ ∀ j, lv.ownBlock = some j → ¬ 0 = j)
    (HC : ∀ W, Fr (fun j => j = b) w W → Blk W b 5 (clC i (.slice oa l.length oc) d mb b 0) → Calls Tryz.prog 28 #[.pointer (some ⟨b, 0, none⟩), .pointer (some ⟨fb, 0, none⟩), (l[d]).val] W fun e w' => e = .returned a.val ∧ CallPost p q M' m' F W mb cnt pin' w') :
    Calls Tryz.prog 27 #[.pointer (some ⟨b, 0, none⟩), .pointer (some ⟨fb, 0, none⟩)] w fun e w' => e = .returned (.bool true) ∧ DoPost p q M' m' F w b fb mb cnt base i d (.slice oa l.length oc) cv la lv (L ++ [⟨i, d, l[d], a⟩]) pin' w' := by
  obtain ⟨q0, q1, q2⟩ := opsC_at l hd
  obtain ⟨b1, o1, c1, e1, -, -, hb1, g1⟩ := ho.at hd (by omega)
  simp only [Value.slice.injEq] at e1
  obtain ⟨rfl, -, rfl⟩ := e1
  have p0 := g1 _ _ q0
  have p1 := g1 _ _ q1
  have p2 := g1 _ _ q2
  clear g1 q0 q1 q2
  generalize l[d] = o at *
  obtain ⟨k, pg, v⟩ := o
  have nob := no b1 rfl
  have c4 := hc.cell (i := 4) (by omega)
  have z4 := hc.frozen 4
  have lb := hc.lt
  have H0 : Hid (Blk (w.setCell ⟨b, 4, none⟩ .nilFunc) b 5 (clC i (.slice (some ⟨b1, o1, none⟩) l.length oc) d mb b 0)) := Lib.hid (by have q := hc.set 4 (nxV b 0); rw [clC_st] at q; exact q)
  have F0 : Hid (Fr (fun j => j = b) w (w.setCell ⟨b, 4, none⟩ .nilFunc)) := Lib.hid ((Fr.refl (fun j => j = b) w).setCell (p := ⟨b, 4, none⟩) (.inl rfl) _)
  have HFB := Lib.hid (hf.fr F0.out (fun (e : fb = b) => nbf e.symm))
  have HLG0 := Lib.hid hL
  have HLG := Lib.hid (own_keep hL F0.out (fun j z (e : j = b) => (nl j z).2.1 e))
  have HLT := Lib.hid hlt
  have lb00 := hc.lt
  have lf00 := hf.lt
  have HX := Lib.hid HC
  have NL := Lib.hid nl
  rw [← Nat.add_assoc] at p1 p2
  generalize clC i (.slice (some ⟨b1, o1, none⟩) l.length oc) d mb b s 4 = x at *
  clear hc hf hL hlt HC no nl ho
  go_enter Tryz.func27, Tryz.ntmps27
  go_upto_region 2 with fail
  have hsz0 := F0.out.size
  rw [← F0.out.cell (p := ⟨b1, o1 + d * 3, none⟩) hb1 nob.2.1] at p0
  rw [← F0.out.cell (p := ⟨b1, o1 + d * 3 + 1, none⟩) hb1 nob.2.1] at p1
  rw [← F0.out.cell (p := ⟨b1, o1 + d * 3 + 2, none⟩) hb1 nob.2.1] at p2
  clear c4 z4 lb
  generalize w.setCell ⟨b, 4, none⟩ .nilFunc = w1 at *
  have c0 := H0.out.cell (i := 0) (by omega)
  have cc1 := H0.out.cell (i := 1) (by omega)
  have c2 := H0.out.cell (i := 2) (by omega)
  have lb := H0.out.lt
  simp only [clC] at c0 cc1 c2
  have hdI : (d : Int) < (l.length : Int) := by omega
  have lb1 : b1 < w1.heap.size := Nat.lt_of_lt_of_le hb1 hsz0
  go_region
  have hB5 := (blkEn w1 i d ⟨k, pg, v⟩ (t := 77)).drew
  have fw2 : Fr NoF w1 (w1.alloc (.cells #[.int .i64 (i : Nat), .int .i64 (d : Nat), .int .i64 k, .int .u32 (pg : Nat), .int .u64 (v : Nat), .int .i64 0, .int .u32 0, .int .u64 0] 77)).drew := ((Fr.refl NoF w1).alloc _).drew
  have F0 := Lib.hid (F0.out.trans fw2.none (F := fun j => j = b) (G := fun j => j = b) (fun j z => .inl z))
  have H0 := Lib.hid (H0.out.fr fw2 id)
  have HFB := Lib.hid (HFB.out.fr fw2 id)
  have HLG := Lib.hid (own_keep HLG.out fw2 (fun _ _ z => z))
  have HB5 := Lib.hid hB5
  have HC0 := Lib.hid (HX.out _ F0.out H0.out)
  have lg5 : w.heap.size ≤ w1.heap.size := hsz0
  have lg6 : w1.heap.size < (w1.alloc (.cells #[.int .i64 (i : Nat), .int .i64 (d : Nat), .int .i64 k, .int .u32 (pg : Nat), .int .u64 (v : Nat), .int .i64 0, .int .u32 0, .int .u64 0] 77)).drew.heap.size := hB5.lt
  clear hB5 fw2 HX p0 p1 p2 c0 cc1 c2 lb lb1 hdI hsz0
  go_upto_region 3 with fail
  generalize (w1.alloc (.cells #[.int .i64 (i : Nat), .int .i64 (d : Nat), .int .i64 k, .int .u32 (pg : Nat), .int .u64 (v : Nat), .int .i64 0, .int .u32 0, .int .u64 0] 77)).drew = w2 at *
  generalize w1.heap.size = g at *
  have e2 := HB5.out.cell (i := 2) (by omega)
  have e3 := HB5.out.cell (i := 3) (by omega)
  have e4 := HB5.out.cell (i := 4) (by omega)
  simp only [enC] at e2 e3 e4
  go_wp2_with fail
  (try unfold OpF.val AnF.val at HC0)
  refine HC0.out.mono ?_
  clear HC0 e2 e3 e4
  rintro e w3 ⟨rfl, F', cnt', h3, hF3, hc3, hp3, fr3⟩
  have lw2 : w.heap.size ≤ w2.heap.size := F0.out.size
  have hB5 := HB5.out.fr fr3 (fun z => by
    rcases z with z | z
    · have := HLT.out _ z; omega
    · omega)
  have HBE := Lib.hid (enC_put i d ⟨k, pg, v⟩ ⟨0, 0, 0⟩ a hB5)
  have H0 := Lib.hid (H0.out.fr fr3 (fun z => z.elim nb (fun e => ne e)))
  have HFB := Lib.hid (HFB.out.fr fr3 (fun z => z.elim nf (fun e => nmf e.symm)))
  have HLG := Lib.hid (own_keep HLG.out fr3 (fun j z c => c.elim (NL.out j z).1 (NL.out j z).2.2.2))
  have s5 := hB5.cell (i := 5) (by omega)
  have s6 := hB5.cell (i := 6) (by omega)
  have s7 := hB5.cell (i := 7) (by omega)
  have z5 := hB5.frozen 5
  have z6 := hB5.frozen 6
  have z7 := hB5.frozen 7
  have l5 := hB5.lt
  simp only [enC] at s5 s6 s7
  have fs : Fr (fun j => j = g) w3 (((w3.setCell ⟨g, 5, none⟩ (.int .i64 (a.e : Nat))).setCell ⟨g, 6, none⟩ (.int .u32 (a.id : Nat))).setCell ⟨g, 7, none⟩ (.int .u64 (a.v : Nat))) := (((Fr.refl (fun j => j = g) w3).setCell (p := ⟨g, 5, none⟩) (.inl rfl) _).setCell (p := ⟨g, 6, none⟩) (.inl rfl) _).setCell (p := ⟨g, 7, none⟩) (.inl rfl) _
  have H3 := Lib.hid (h3.fro fs (fun j z (e : j = g) => by
    subst e
    rcases hF3 _ z with c | c
    · have := HLT.out _ c; omega
    · omega) (fun (e : _ = g) => by omega))
  have HF3 := Lib.hid hF3
  have HP3 := Lib.hid (hp3.fr fs (fun (e : mb = g) => by omega))
  have lbw := H0.out.lt
  have H0 := Lib.hid (H0.out.fr fs (fun (e : b = g) => by omega))
  have HFB := Lib.hid (HFB.out.fr fs (fun (e : fb = g) => by omega))
  have lvl : ∀ j, lv.ownBlock = some j → j < w.heap.size := fun j z => by rcases World.ownsRow.lt HLG0.out j z with ⟨_, c⟩; exact c
  have HLG := Lib.hid (own_keep HLG.out fs (fun j z (e : j = g) => by have := lvl j z; omega))
  have FW : Hid (Fr (fun j => F j ∨ j = mb ∨ j = b) w (((w3.setCell ⟨g, 5, none⟩ (.int .i64 (a.e : Nat))).setCell ⟨g, 6, none⟩ (.int .u32 (a.id : Nat))).setCell ⟨g, 7, none⟩ (.int .u64 (a.v : Nat)))) := Lib.hid (((F0.out.mono (fun j z => .inr (.inr z))).trans fr3 (fun j z => .inl (z.elim .inl (fun e => .inr (.inl e))))).trans fs (fun j e => .inr (by omega)))
  clear h3 hp3 hF3 fs hB5
  go_upto_region 4 with fail
  clear s5 s6 s7 z5 z6 z7 l5
  generalize ((w3.setCell ⟨g, 5, none⟩ (.int .i64 (a.e : Nat))).setCell ⟨g, 6, none⟩ (.int .u32 (a.id : Nat))).setCell ⟨g, 7, none⟩ (.int .u64 (a.v : Nat)) = w4 at *
  have fdr : Fr NoF w4 w4.drew := (Fr.refl NoF w4).drew
  have HFB := Lib.hid (HFB.out.fr fdr id)
  have HBE := Lib.hid (HBE.out.fr fdr id)
  have H0 := Lib.hid (H0.out.fr fdr id)
  have HLG := Lib.hid (own_keep HLG.out fdr (fun _ _ z => z))
  have H3 := Lib.hid (H3.out.fr0 fdr)
  have HP3 := Lib.hid (HP3.out.fr fdr id)
  have FW := Lib.hid (FW.out.trans fdr (fun _ z => z.elim))
  have HSZ : Hid (base ≤ w4.drew.heap.size) := Lib.hid (Nat.le_trans hb0 FW.out.size)
  have HLN : Hid (L.length < 100000) := Lib.hid hLn
  clear fdr
  refine region_tail (fun w' => w'.cell? ⟨fb, 3, none⟩ = some lv ∧ w'.cell? ⟨g, 0, none⟩ = some (.int .i64 (i : Nat)) ∧ w'.cell? ⟨g, 1, none⟩ = some (.int .i64 (d : Nat)) ∧ w'.cell? ⟨g, 2, none⟩ = some (.int .i64 k) ∧ w'.cell? ⟨g, 3, none⟩ = some (.int .u32 (pg : Nat)) ∧ w'.cell? ⟨g, 4, none⟩ = some (.int .u64 (v : Nat)) ∧ w'.cell? ⟨g, 5, none⟩ = some (.int .i64 (a.e : Nat)) ∧ w'.cell? ⟨g, 6, none⟩ = some (.int .u32 (a.id : Nat)) ∧ w'.cell? ⟨g, 7, none⟩ = some (.int .u64 (a.v : Nat))) 10 (by kernel_rfl) rfl rfl (by kernel_rfl) ?_
  simp only [List.take_succ_cons, List.take_zero]
  generalize w4.drew = wF at *
  have cF := HFB.out.cell (i := 3) (by omega)
  simp only [frC] at cF
  have KF : Hid (∀ W W', Fr NoF wF W → Fr (fun b => lv.ownBlock = some b) W W' → (fun w' => w'.cell? ⟨fb, 3, none⟩ = some lv ∧ w'.cell? ⟨g, 0, none⟩ = some (.int .i64 (i : Nat)) ∧ w'.cell? ⟨g, 1, none⟩ = some (.int .i64 (d : Nat)) ∧ w'.cell? ⟨g, 2, none⟩ = some (.int .i64 k) ∧ w'.cell? ⟨g, 3, none⟩ = some (.int .u32 (pg : Nat)) ∧ w'.cell? ⟨g, 4, none⟩ = some (.int .u64 (v : Nat)) ∧ w'.cell? ⟨g, 5, none⟩ = some (.int .i64 (a.e : Nat)) ∧ w'.cell? ⟨g, 6, none⟩ = some (.int .u32 (a.id : Nat)) ∧ w'.cell? ⟨g, 7, none⟩ = some (.int .u64 (a.v : Nat))) W') := Lib.hid fun W W' f f2 => by
    have h1 := (HFB.out.fr f id).fr f2 (fun z => (NL.out _ z).2.2.1 rfl)
    have h2 := (HBE.out.fr f id).fr f2 (fun z => by have := lvl _ z; omega)
    exact ⟨h1.cell (i := 3) (by omega), h2.cell (i := 0) (by omega), h2.cell (i := 1) (by omega), h2.cell (i := 2) (by omega), h2.cell (i := 3) (by omega), h2.cell (i := 4) (by omega), h2.cell (i := 5) (by omega), h2.cell (i := 6) (by omega), h2.cell (i := 7) (by omega)⟩
  have KS : Hid (∀ W, Fr NoF wF W → (fun w' => w'.cell? ⟨fb, 3, none⟩ = some lv ∧ w'.cell? ⟨g, 0, none⟩ = some (.int .i64 (i : Nat)) ∧ w'.cell? ⟨g, 1, none⟩ = some (.int .i64 (d : Nat)) ∧ w'.cell? ⟨g, 2, none⟩ = some (.int .i64 k) ∧ w'.cell? ⟨g, 3, none⟩ = some (.int .u32 (pg : Nat)) ∧ w'.cell? ⟨g, 4, none⟩ = some (.int .u64 (v : Nat)) ∧ w'.cell? ⟨g, 5, none⟩ = some (.int .i64 (a.e : Nat)) ∧ w'.cell? ⟨g, 6, none⟩ = some (.int .u32 (a.id : Nat)) ∧ w'.cell? ⟨g, 7, none⟩ = some (.int .u64 (a.v : Nat))) W) := Lib.hid fun W f => KF.out W W f (Fr.refl _ _)
  have hS : (fun w' => w'.cell? ⟨fb, 3, none⟩ = some lv ∧ w'.cell? ⟨g, 0, none⟩ = some (.int .i64 (i : Nat)) ∧ w'.cell? ⟨g, 1, none⟩ = some (.int .i64 (d : Nat)) ∧ w'.cell? ⟨g, 2, none⟩ = some (.int .i64 k) ∧ w'.cell? ⟨g, 3, none⟩ = some (.int .u32 (pg : Nat)) ∧ w'.cell? ⟨g, 4, none⟩ = some (.int .u64 (v : Nat)) ∧ w'.cell? ⟨g, 5, none⟩ = some (.int .i64 (a.e : Nat)) ∧ w'.cell? ⟨g, 6, none⟩ = some (.int .u32 (a.id : Nat)) ∧ w'.cell? ⟨g, 7, none⟩ = some (.int .u64 (a.v : Nat))) wF := KS.out _ (Fr.refl _ _)
  refine wpAnyH_take (i := 0) (v := ?_) rfl (by decide +kernel) (by decide +kernel) (by decide +kernel) (fun _ _ _ h => h) (Or.inl ⟨by rfl, ?_⟩) hS ?_
  rotate_left
  · intro wS hSw; (try dsimp only at hSw); go_simp
    try with_reducible rfl
  try simp only [Act.put, List.setIfInBounds_toArray, List.set_cons_zero, List.set_cons_succ]
  refine wpAnyH_take (i := 1) (v := ?_) rfl (by decide +kernel) (by decide +kernel) (by decide +kernel) (fun _ _ _ h => h) (Or.inl ⟨by rfl, ?_⟩) hS ?_
  rotate_left
  · intro wS hSw; (try dsimp only at hSw); go_simp
    try with_reducible rfl
  try simp only [Act.put, List.setIfInBounds_toArray, List.set_cons_zero, List.set_cons_succ]
  refine wpAnyH_take (i := 2) (v := ?_) rfl (by decide +kernel) (by decide +kernel) (by decide +kernel) (fun _ _ _ h => h) (Or.inl ⟨by rfl, ?_⟩) hS ?_
  rotate_left
  · intro wS hSw; (try dsimp only at hSw); go_simp
    try with_reducible rfl
  try simp only [Act.put, List.setIfInBounds_toArray, List.set_cons_zero, List.set_cons_succ]
  refine wpAnyH_take (i := 3) (v := ?_) rfl (by decide +kernel) (by decide +kernel) (by decide +kernel) (fun _ _ _ h => h) (Or.inl ⟨by rfl, ?_⟩) hS ?_
  rotate_left
  · intro wS hSw; (try dsimp only at hSw); go_simp
    try with_reducible rfl
  try simp only [Act.put, List.setIfInBounds_toArray, List.set_cons_zero, List.set_cons_succ]
  refine wpAnyH_take (i := 4) (v := ?_) rfl (by decide +kernel) (by decide +kernel) (by decide +kernel) (fun _ _ _ h => h) (Or.inl ⟨by rfl, ?_⟩) hS ?_
  rotate_left
  · intro wS hSw; (try dsimp only at hSw); go_simp
    try with_reducible rfl
  try simp only [Act.put, List.setIfInBounds_toArray, List.set_cons_zero, List.set_cons_succ]
  refine wpAnyH_take (i := 5) (v := ?_) rfl (by decide +kernel) (by decide +kernel) (by decide +kernel) (fun _ _ _ h => h) (Or.inl ⟨by rfl, ?_⟩) hS ?_
  rotate_left
  · intro wS hSw; (try dsimp only at hSw); go_simp
    try with_reducible rfl
  try simp only [Act.put, List.setIfInBounds_toArray, List.set_cons_zero, List.set_cons_succ]
  clear hS
  refine wpAnyH_ready (rs := [6]) (by kernel_rfl) (by simp) ?_
  refine AllReadyH.cons rfl (fun K hK => ?_) ?_
  · go_simp
    refine hK.out _ _ (by first | exact KZ.out | exact KS.out _ (by repeat (first | exact Fr.refl NoF _ | apply Fr.drew | apply Fr.drewN | apply Fr.alloc))) (fun hS => ?_)
    clear hK K
    try simp only [Act.put, List.setIfInBounds_toArray, List.set_cons_zero, List.set_cons_succ]
    refine wpAnyH_ready (rs := [7]) (by kernel_rfl) (by simp) ?_
    refine AllReadyH.cons rfl (fun K hK => ?_) ?_
    · refine appSB (base := base) EIe rfl (.tmp 38) (.tmp 40) rfl (by rfl) (by rfl) (Nat.le_trans HSZ.out (Fr.size (F := NoF) (w := wF) (by repeat (first | exact Fr.refl NoF _ | apply Fr.drew | apply Fr.drewN | apply Fr.alloc)))) (own_keep HLG.out (by repeat (first | exact Fr.refl NoF _ | apply Fr.drew | apply Fr.drewN | apply Fr.alloc)) (fun _ _ q => q)) (SlC.ofOwn (own_new (w0 := wF) (Fr.size (F := NoF) (by repeat (first | exact Fr.refl NoF _ | apply Fr.drew | apply Fr.drewN | apply Fr.alloc))) #[_, _, _, _, _, _, _, _] 77 8 1 _ rfl rfl (by unfold maxLen; omega)) (by intro u hu; simp at hu; rcases hu with rfl | rfl | rfl | rfl | rfl | rfl | rfl | rfl <;> rfl)) (by have := HLN.out; unfold maxLen; omega) (by have := HLN.out; omega) ?_; intro v6 w6 hown6 hf6 hob6; have HO6 := Lib.hid hown6; have HF6 := Lib.hid hf6; have HB6 := Lib.hid hob6; have hkz := KF.out _ _ (by repeat (first | exact Fr.refl NoF _ | apply Fr.drew | apply Fr.drewN | apply Fr.alloc)) hf6; have KZ := Lib.hid hkz; clear hown6 hf6 hob6 hkz
      refine hK.out _ _ (by first | exact KZ.out | exact KS.out _ (by repeat (first | exact Fr.refl NoF _ | apply Fr.drew | apply Fr.drewN | apply Fr.alloc))) (fun hS => ?_)
      clear hK K
      try simp only [Act.put, List.setIfInBounds_toArray, List.set_cons_zero, List.set_cons_succ]
      refine wpAnyH_take (i := 8) (v := ?_) rfl (by decide +kernel) (by decide +kernel) (by decide +kernel) (fun _ _ _ h => h) (Or.inl ⟨by rfl, ?_⟩) hS ?_
      rotate_left
      · intro wS hSw; (try dsimp only at hSw); go_simp
        try with_reducible rfl
      try simp only [Act.put, List.setIfInBounds_toArray, List.set_cons_zero, List.set_cons_succ]
      refine wpAnyH_take (i := 9) (v := ?_) rfl (by decide +kernel) (by decide +kernel) (by decide +kernel) (fun _ _ _ h => h) (Or.inl ⟨by rfl, ?_⟩) hS ?_
      rotate_left
      · intro wS hSw; (try dsimp only at hSw); go_simp
        try with_reducible rfl
      try simp only [Act.put, List.setIfInBounds_toArray, List.set_cons_zero, List.set_cons_succ]
      refine wpAnyH_done (by kernel_rfl) ?_ _
      show wpList _ _ _ _ _ _
      have h1c : ∀ u ∈ logC L ++ #[Value.int .i64 (i : Nat), .int .i64 (d : Nat), .int .i64 k, .int .u32 (pg : Nat), .int .u64 (v : Nat), .int .i64 (a.e : Nat), .int .u32 (a.id : Nat), .int .u64 (a.v : Nat)].toList, u.oneCell' = true := fun u hu => by
        rcases List.mem_append.1 hu with z | z
        · exact logC_one _ u z
        · simp only [List.mem_cons, List.not_mem_nil, or_false] at z
          rcases z with rfl | rfl | rfl | rfl | rfl | rfl | rfl | rfl <;> rfl
      obtain ⟨a6, c6, rfl, -, -⟩ := (SlC.ofOwn HO6.out h1c).shape
      clear h1c
      have fz : Fr NoF wF (wF.alloc (.cells #[Value.int .i64 (i : Nat), .int .i64 (d : Nat), .int .i64 k, .int .u32 (pg : Nat), .int .u64 (v : Nat), .int .i64 (a.e : Nat), .int .u32 (a.id : Nat), .int .u64 (a.v : Nat)] 77)) := (Fr.refl NoF wF).alloc _
      have hB6 := (HFB.out.fr fz id).fr HF6.out (fun z => (NL.out _ z).2.2.1 rfl)
      have hC6 := (H0.out.fr fz id).fr HF6.out (fun z => (NL.out _ z).2.1 rfl)
      have f7 : Fr (fun j => j = fb) w6 (w6.setCell ⟨fb, 3, none⟩ (.slice a6 (L.length + 1) c6)) := (Fr.refl (fun j => j = fb) w6).setCell (p := ⟨fb, 3, none⟩) (.inl rfl) _
      have hC7 := hC6.fr f7 (fun (e : b = fb) => nbf e)
      have hB7 := hB6.set 3 (.slice a6 (L.length + 1) c6)
      rw [frC_lv] at hB7
      have HB9 := Lib.hid ((hB7.other (a := ⟨b, 2, none⟩) (fun e => nbf e.symm) (.int .i64 ((d + 1 : Nat) : Int))).other (a := ⟨b, 4, none⟩) (fun e => nbf e.symm) (nxV b 3))
      have HC9 : Hid (Blk (((w6.setCell ⟨fb, 3, none⟩ (.slice a6 (L.length + 1) c6)).setCell ⟨b, 2, none⟩ (.int .i64 ((d + 1 : Nat) : Int))).setCell ⟨b, 4, none⟩ (nxV b 3)) b 5 (clC i (.slice (some ⟨b1, o1, none⟩) l.length oc) (d + 1) mb b 3)) := Lib.hid (by
        have z := (hC7.set 2 (.int .i64 ((d + 1 : Nat) : Int))).set 4 (nxV b 3)
        rw [clC_dn, clC_st] at z
        exact z)
      have f9 : Fr (fun j => lv.ownBlock = some j ∨ j = fb ∨ j = b) wF (((w6.setCell ⟨fb, 3, none⟩ (.slice a6 (L.length + 1) c6)).setCell ⟨b, 2, none⟩ (.int .i64 ((d + 1 : Nat) : Int))).setCell ⟨b, 4, none⟩ (nxV b 3)) := ((((fz.none.trans HF6.out (fun j z => .inl (.inl z))).trans f7 (fun j z => .inl (.inr (.inl z)))).setCell (p := ⟨b, 2, none⟩) (.inl (.inr (.inr rfl))) _).setCell (p := ⟨b, 4, none⟩) (.inl (.inr (.inr rfl))) _)
      have HP9 := Lib.hid (HP3.out.fr f9 (fun z => z.elim (fun e => (NL.out _ e).2.2.2 rfl) (fun z => z.elim nmf (fun e => ne e.symm))))
      have hF9 : ∀ j, F' j → j < w.heap.size → F j := fun j z c => (HF3.out j z).resolve_right (by omega)
      have H9 := Lib.hid (H3.out.fro f9 (fun j z c => by
        rcases c with c | c | c
        · exact (NL.out j c).1 (hF9 j z (lvl j c))
        · exact nf (hF9 fb (c ▸ z) lf00)
        · exact nb (hF9 b (c ▸ z) lb00)) (fun c => by
        rcases c with c | c | c
        · exact tb.2.2 _ c rfl
        · exact tb.2.1 c
        · exact tb.1 c))
      have HL9 : Hid (LogAt (((w6.setCell ⟨fb, 3, none⟩ (.slice a6 (L.length + 1) c6)).setCell ⟨b, 2, none⟩ (.int .i64 ((d + 1 : Nat) : Int))).setCell ⟨b, 4, none⟩ (nxV b 3)) base (.slice a6 (L.length + 1) c6) (L ++ [⟨i, d, ⟨k, pg, v⟩, a⟩])) := Lib.hid (by
        have z : w6.ownsRow base 77 8 (.slice a6 (L.length + 1) c6) (L ++ [(⟨i, d, ⟨k, pg, v⟩, a⟩ : EnF)]).length (logC (L ++ [(⟨i, d, ⟨k, pg, v⟩, a⟩ : EnF)])) := by rw [logC_snoc, List.length_append]; exact HO6.out
        have own : ∀ j, (Value.slice a6 (L.length + 1) c6).ownBlock = some j → ¬ j = fb ∧ ¬ j = b := fun j c => by
          rcases HB6.out j c with c | c
          · exact ⟨(NL.out j c).2.2.1, (NL.out j c).2.1⟩
          · have h1 := fz.size
            have h2 := FW.out.size
            exact ⟨by omega, by omega⟩
        exact own_keep (own_keep (own_keep z f7 (fun j c e => (own j c).1 e)) ((Fr.refl (fun j => j = b) _).setCell (p := ⟨b, 2, none⟩) (.inl rfl) _) (fun j c e => (own j c).2 e)) ((Fr.refl (fun j => j = b) _).setCell (p := ⟨b, 4, none⟩) (.inl rfl) _) (fun j c e => (own j c).2 e))
      have HO9 : Hid (∀ j, (Value.slice a6 (L.length + 1) c6).ownBlock = some j → lv.ownBlock = some j ∨ w.heap.size ≤ j) := Lib.hid (fun j c => (HB6.out j c).imp id (fun c => by have := fz.size; have := FW.out.size; omega))
      have HN9 : Hid (∀ j, F' j → ¬ (Value.slice a6 (L.length + 1) c6).ownBlock = some j) := Lib.hid (fun j z c => by
        rcases HB6.out j c with c | c
        · exact (NL.out j c).1 (hF9 j z (lvl j c))
        · have h1 := H3.out.lt j z
          have h2 := fz.size
          omega)
      have FW9 : Hid (Fr (fun j => F j ∨ j = mb ∨ j = b ∨ j = fb ∨ lv.ownBlock = some j) w (((w6.setCell ⟨fb, 3, none⟩ (.slice a6 (L.length + 1) c6)).setCell ⟨b, 2, none⟩ (.int .i64 ((d + 1 : Nat) : Int))).setCell ⟨b, 4, none⟩ (nxV b 3))) := Lib.hid ((FW.out.mono (fun j z => z.imp id (fun z => z.imp id .inl))).trans f9 (fun j z => .inl (by rcases z with z | z | z; (exact .inr (.inr (.inr (.inr z)))); (exact .inr (.inr (.inr (.inl z)))); (exact .inr (.inr (.inl z))))))
      have HX9 : Hid (DoPost p q M' m' F w b fb mb cnt base i d (.slice (some ⟨b1, o1, none⟩) l.length oc) cv la lv (L ++ [⟨i, d, ⟨k, pg, v⟩, a⟩]) pin' (((w6.setCell ⟨fb, 3, none⟩ (.slice a6 (L.length + 1) c6)).setCell ⟨b, 2, none⟩ (.int .i64 ((d + 1 : Nat) : Int))).setCell ⟨b, 4, none⟩ (nxV b 3))) := Lib.hid ⟨F', cnt', _, H9.out, fun j z => (HF3.out j z).imp id (fun c => by omega), hc3, HP9.out, HC9.out, HB9.out, HL9.out, HO9.out, HN9.out, FW9.out⟩
      have k1 := KZ.out.1
      have k2 := hB6.frozen 3
      have k3 := hB6.lt
      have r2 := hC7.cell (i := 2) (by omega)
      have r4 := hC7.cell (i := 4) (by omega)
      have y2 := hC7.frozen 2
      have y4 := hC7.frozen 4
      have y5 := hC7.lt
      simp only [clC, nxV] at r2 r4
      have wd : IntKind.i64.wrap ((d : Int) + 1) = ((d + 1 : Nat) : Int) := by rw [IntWalk.i64_in _ (by omega)]; omega
      clear fz hB6 hC6 f7 hC7 hB7 f9 hF9 HO6 HF6 HB6 KZ KS KF cF H3 HP3 HB9 HC9 HP9 H9 HL9 HO9 HN9 FW9
      go_upto_region 5 with fail
      generalize (w6.setCell ⟨fb, 3, none⟩ (.slice a6 (L.length + 1) c6)) = w7 at *
      go_wp2
      go_returns
      exact ⟨rfl, HX9.out⟩
    exact AllReadyH.nil
  exact AllReadyH.nil
end
end Go.Proofs.YtmpjnphnljakiaaGreatDoor
namespace Go.Proofs.YtmpjnphnljakiaaGreatDoor
open Go.RowKit Go.Maps
set_option linter.unusedVariables false
set_option linter.unusedSimpArgs false
set_option linter.unusedSectionVars false
set_option maxRecDepth 100000
/-- Which client is picked. -/
def whoF (k : Int) (n : Nat) : Nat := (k % 18446744073709551616).toNat % n
def ptrsC (n : Nat) (cb : Nat → Nat) : List Value := (List.range n).map fun i => .pointer (some ⟨cb i, 0, none⟩)
theorem ptrsC_at {n : Nat} (cb : Nat → Nat) {i : Nat} (h : i < n) : (ptrsC n cb)[i]? = some (.pointer (some ⟨cb i, 0, none⟩)) := by
  unfold ptrsC
  rw [List.getElem?_map, List.getElem?_range h]; rfl
theorem fn_ne (g : FuncId) (a : Array Value) (W : World) : (binOp .neq 78 (.func (.func g) a #[]) .nilFunc).run Tryz.prog W = .ok (.bool true) W := by first | rfl | kernel_rfl
theorem fn_nil (W : World) : (binOp .neq 78 .nilFunc .nilFunc).run Tryz.prog W = .ok (.bool false) W := by first | rfl | kernel_rfl
section
variable {w : World} {fb n cc i d mb s : Nat} {ca : Option Addr} {pv ov lv : Value} {la : Option Nat} {cb : Nat → Nat} {k : Int}
set_option maxHeartbeats 4000000 in
theorem pick_next (h1 : 1 ≤ n) (h8 : n ≤ 8) (hf : Blk w fb 4 (frC pv (.slice ca n cc) la lv)) (hs : SlC w 1 (.slice ca n cc) n (ptrsC n cb)) (hc : Blk w (cb (whoF k n)) 5 (clC i ov d mb (cb (whoF k n)) s)) {g : FuncId} (hg : nxV (cb (whoF k n)) s = .func (.func g) #[.pointer (some ⟨cb (whoF k n), 0, none⟩)] #[]) (hO : Own g) {Q : Bool → World → Prop}
    (HN : ∀ W, Fr NoF w W → Calls Tryz.prog g #[.pointer (some ⟨cb (whoF k n), 0, none⟩), .pointer (some ⟨fb, 0, none⟩)] W fun e w' => ∃ r, e = .returned (.bool r) ∧ Q r w') :
    Calls Tryz.prog 11 #[.pointer (some ⟨fb, 0, none⟩), .int .i64 k] w fun e w' => ∃ r, e = .returned (.bool r) ∧ Q r w' := by
  have hwn : whoF k n < n := Nat.mod_lt _ (by omega)
  obtain ⟨b1, o1, c1, e1, -, -, hb1, g1⟩ := hs.at hwn (by omega)
  simp only [Value.slice.injEq] at e1
  obtain ⟨rfl, -, rfl⟩ := e1
  have p0 := g1 _ _ (ptrsC_at cb hwn)
  have c0 := hf.cell (i := 1) (by omega)
  have lf := hf.lt
  have c4 := hc.cell (i := 4) (by omega)
  have lc := hc.lt
  simp only [frC] at c0
  simp only [clC] at c4
  rw [hg] at c4
  have ek : IntKind.u64.wrap k = ((k % 18446744073709551616).toNat : Int) := by simp [IntKind.wrap, IntKind.bits, IntKind.signed]; omega
  have en : IntKind.u64.wrap (n : Int) = (n : Int) := by simp [IntKind.wrap, IntKind.bits, IntKind.signed]; omega
  have em : Int.tmod ((k % 18446744073709551616).toNat : Int) (n : Int) = ((whoF k n : Nat) : Int) := by
    rw [Int.tmod_eq_emod_of_nonneg (by omega)]; unfold whoF; omega
  have n0 : ¬ (n : Int) = 0 := by omega
  have n0b : ((n : Int) == 0) = false := by simpa using n0
  have n0N : ¬ n = 0 := by omega
  have hwI : ((whoF k n : Nat) : Int) < (n : Int) := by omega
  generalize whoF k n = x at *
  generalize (k % 18446744073709551616).toNat = kz at *
  have HX := Lib.hid HN
  clear g1 hf hs hc HN hg
  go_enter Tryz.func11, Tryz.ntmps11
  go_wp2_with fail
  go_quiet (fail)
  have c4 := ((Fr.refl NoF w).drewN nq).cell (p := ⟨cb x, 4, none⟩) lc id |>.trans c4
  have fq := (Fr.refl NoF w).drewN nq
  have HQ := Lib.hid (HX.out _ fq)
  clear fq
  generalize w.drewN nq = w2 at *
  have hne := fn_ne g #[.pointer (some ⟨cb x, 0, none⟩)] w2
  go_wp2_with fail
  rw [hO, Oper.upon_enter]
  refine HQ.out.mono ?_
  rintro e w3 ⟨r, rfl, hq⟩
  have HZ := Lib.hid hq
  clear hq HQ hO
  go_wp2
  go_returns
  exact ⟨r, rfl, HZ.out⟩
set_option maxHeartbeats 4000000 in
theorem pick_none (h1 : 1 ≤ n) (h8 : n ≤ 8) (hf : Blk w fb 4 (frC pv (.slice ca n cc) la lv)) (hs : SlC w 1 (.slice ca n cc) n (ptrsC n cb)) (hc : Blk w (cb (whoF k n)) 5 (clC i ov d mb (cb (whoF k n)) s)) (hg : nxV (cb (whoF k n)) s = .nilFunc) :
    Calls Tryz.prog 11 #[.pointer (some ⟨fb, 0, none⟩), .int .i64 k] w fun e w' => e = .returned (.bool false) ∧ Fr NoF w w' := by
  have hwn : whoF k n < n := Nat.mod_lt _ (by omega)
  obtain ⟨b1, o1, c1, e1, -, -, hb1, g1⟩ := hs.at hwn (by omega)
  simp only [Value.slice.injEq] at e1
  obtain ⟨rfl, -, rfl⟩ := e1
  have p0 := g1 _ _ (ptrsC_at cb hwn)
  have c0 := hf.cell (i := 1) (by omega)
  have lf := hf.lt
  have c4 := hc.cell (i := 4) (by omega)
  have lc := hc.lt
  simp only [frC] at c0
  simp only [clC] at c4
  rw [hg] at c4
  have ek : IntKind.u64.wrap k = ((k % 18446744073709551616).toNat : Int) := by simp [IntKind.wrap, IntKind.bits, IntKind.signed]; omega
  have en : IntKind.u64.wrap (n : Int) = (n : Int) := by simp [IntKind.wrap, IntKind.bits, IntKind.signed]; omega
  have em : Int.tmod ((k % 18446744073709551616).toNat : Int) (n : Int) = ((whoF k n : Nat) : Int) := by
    rw [Int.tmod_eq_emod_of_nonneg (by omega)]; unfold whoF; omega
  have n0 : ¬ (n : Int) = 0 := by omega
  have n0b : ((n : Int) == 0) = false := by simpa using n0
  have n0N : ¬ n = 0 := by omega
  have hwI : ((whoF k n : Nat) : Int) < (n : Int) := by omega
  generalize whoF k n = x at *
  generalize (k % 18446744073709551616).toNat = kz at *
  clear g1 hf hs hc hg
  go_enter Tryz.func11, Tryz.ntmps11
  go_wp2_with fail
  go_quiet (fail)
  have c4 := ((Fr.refl NoF w).drewN nq).cell (p := ⟨cb x, 4, none⟩) lc id |>.trans c4
  have fq := Lib.hid ((Fr.refl NoF w).drewN nq)
  generalize w.drewN nq = w2 at *
  have hne := fn_nil w2
  go_wp2
  go_returns
  exact ⟨rfl, fq.out⟩
end
theorem nil_pick (k : Int) (w : World) : Calls Tryz.prog 11 #[.pointer none, .int .i64 k] w fun e w' => e = .returned (.bool false) ∧ w = w' := by
  go_enter Tryz.func11, Tryz.ntmps11
  go_wp2
  go_returns
  exact ⟨rfl, rfl⟩
theorem nil_log (w : World) : Calls Tryz.prog 12 #[.pointer none] w fun e w' => e = .returned (.slice none 0 0) ∧ w = w' := by
  go_enter Tryz.func12, Tryz.ntmps12
  go_wp2
  go_returns
  exact ⟨rfl, rfl⟩
theorem nil_holds (c : Int) (id : Nat) (w : World) : Calls Tryz.prog 13 #[.pointer none, .int .i64 c, .int .u32 id] w fun e w' => e = .returned (.int .i64 0) ∧ w = w' := by
  go_enter Tryz.func13, Tryz.ntmps13
  go_wp2
  go_returns
  exact ⟨rfl, rfl⟩
theorem nil_latch (w : World) : Calls Tryz.prog 14 #[.pointer none] w fun e w' => e = .returned (.int .i64 (-1)) ∧ w = w' := by
  go_enter Tryz.func14, Tryz.ntmps14
  go_wp2
  go_returns
  exact ⟨rfl, rfl⟩
theorem nil_round (w : World) : Calls Tryz.prog 20 #[.pointer none] w fun e w' => e = .returned (.bool false) ∧ w = w' := by
  go_enter Tryz.func20, Tryz.ntmps20
  go_wp2
  go_returns
  exact ⟨rfl, rfl⟩
/-- Whose the latch is. -/
theorem latch_none {w : World} {fb : Nat} {pv cv lv : Value} (hf : Blk w fb 4 (frC pv cv none lv)) : Calls Tryz.prog 14 #[.pointer (some ⟨fb, 0, none⟩)] w fun e w' => e = .returned (.int .i64 (-1)) ∧ w = w' := by
  have c2 := hf.cell (i := 2) (by omega)
  have lf := hf.lt
  simp only [frC, Option.map_none] at c2
  clear hf
  go_enter Tryz.func14, Tryz.ntmps14
  go_wp2
  go_returns
  exact ⟨rfl, rfl⟩
theorem latch_some {w : World} {fb b i d mb s : Nat} {pv cv ov lv : Value} (hf : Blk w fb 4 (frC pv cv (some b) lv)) (hc : Blk w b 5 (clC i ov d mb b s)) : Calls Tryz.prog 14 #[.pointer (some ⟨fb, 0, none⟩)] w fun e w' => e = .returned (.int .i64 (i : Nat)) ∧ w = w' := by
  have c2 := hf.cell (i := 2) (by omega)
  have lf := hf.lt
  have c0 := hc.cell (i := 0) (by omega)
  have lc := hc.lt
  simp only [frC, Option.map_some] at c2
  simp only [clC] at c0
  clear hf hc
  go_enter Tryz.func14, Tryz.ntmps14
  go_wp2
  go_returns
  exact ⟨rfl, rfl⟩
end Go.Proofs.YtmpjnphnljakiaaGreatDoor
namespace Go.Proofs.YtmpjnphnljakiaaGreatDoor
open Go.RowKit Go.Maps Go.Shelf Go.Lib
open Go.Sort hiding Below
set_option linter.unusedVariables false
set_option linter.unusedSimpArgs false
set_option linter.unusedSectionVars false
def Tryz.sortIn_ren : Go.Shelf.Ren := ⟨fun | 6 => 77 | 15 => 87 | 14 => 86 | 28 => 98 | 29 => 99 | 20 => 90 | 21 => 91 | 22 => 92 | 23 => 93 | 24 => 94 | 25 => 95 | 26 => 96 | 27 => 97 | 46 => 100 | 47 => 101 | 48 => 102 | 49 => 103 | 50 => 104 | 57 => 105 | n => n, fun | 22 => 38 | 24 => 3 | 25 => 126 | 3 => 3 | 39 => 139 | 0 => 0 | 53 => 44 | 55 => 22 | 4 => 4 | 46 => 144 | 45 => 143 | 50 => 106 | 5 => 5 | 9 => 9 | 66 => 149 | 70 => 153 | 76 => 155 | 77 => 156 | n => n, fun | n => n⟩
theorem Tryz.sortIn : Go.Proofs.SlLaysF.n6 Tryz.prog Tryz.sortIn_ren := {
  mixed := by kernel_rfl,
  f6 := ⟨Tryz.f77.name, by decide, Tryz.func77.trans (congrArg some (by kernel_rfl))⟩,
  f14 := ⟨Tryz.f86.name, by decide, Tryz.func86.trans (congrArg some (by kernel_rfl))⟩,
  f15 := Tryz.func87.trans (congrArg some (by kernel_rfl)),
  f20 := ⟨Tryz.f90.name, by decide, Tryz.func90.trans (congrArg some (by kernel_rfl))⟩,
  f21 := ⟨Tryz.f91.name, by decide, Tryz.func91.trans (congrArg some (by kernel_rfl))⟩,
  f22 := ⟨Tryz.f92.name, by decide, Tryz.func92.trans (congrArg some (by kernel_rfl))⟩,
  f23 := ⟨Tryz.f93.name, by decide, Tryz.func93.trans (congrArg some (by kernel_rfl))⟩,
  f24 := ⟨Tryz.f94.name, by decide, Tryz.func94.trans (congrArg some (by kernel_rfl))⟩,
  f25 := ⟨Tryz.f95.name, by decide, Tryz.func95.trans (congrArg some (by kernel_rfl))⟩,
  f26 := ⟨Tryz.f96.name, by decide, Tryz.func96.trans (congrArg some (by kernel_rfl))⟩,
  f27 := ⟨Tryz.f97.name, by decide, Tryz.func97.trans (congrArg some (by kernel_rfl))⟩,
  f28 := Tryz.func98.trans (congrArg some (by kernel_rfl)),
  f29 := Tryz.func99.trans (congrArg some (by kernel_rfl)),
  f46 := ⟨Tryz.f100.name, by decide, Tryz.func100.trans (congrArg some (by kernel_rfl))⟩,
  f47 := Tryz.func101.trans (congrArg some (by kernel_rfl)),
  f48 := Tryz.func102.trans (congrArg some (by kernel_rfl)),
  f49 := ⟨Tryz.f103.name, by decide, Tryz.func103.trans (congrArg some (by kernel_rfl))⟩,
  f50 := ⟨Tryz.f104.name, by decide, Tryz.func104.trans (congrArg some (by kernel_rfl))⟩,
  f57 := ⟨Tryz.f105.name, by decide, Tryz.func105.trans (congrArg some (by kernel_rfl))⟩,
  t0 := Tryz.underlying0,
  a0 := Tryz.isAgg0,
  z0 := Tryz.sizeOf0,
  v0 := Tryz.zeroValue0,
  t3 := Tryz.underlying3,
  a3 := Tryz.isAgg3,
  z3 := Tryz.sizeOf3,
  v3 := Tryz.zeroValue3,
  t4 := Tryz.underlying4,
  a4 := Tryz.isAgg4,
  z4 := Tryz.sizeOf4,
  v4 := Tryz.zeroValue4,
  t5 := Tryz.underlying5,
  a5 := Tryz.isAgg5,
  z5 := Tryz.sizeOf5,
  v5 := Tryz.zeroValue5,
  t9 := Tryz.underlying9,
  a9 := Tryz.isAgg9,
  z9 := Tryz.sizeOf9,
  v9 := Tryz.zeroValue9,
  t22 := Tryz.underlying38,
  a22 := Tryz.isAgg38,
  z22 := Tryz.sizeOf38,
  v22 := Tryz.zeroValue38,
  a24 := Tryz.isAgg3,
  z24 := Tryz.sizeOf3,
  t25 := Tryz.underlying126,
  a25 := Tryz.isAgg126,
  z25 := Tryz.sizeOf126,
  v25 := Tryz.zeroValue126,
  t39 := Tryz.underlying139,
  a39 := Tryz.isAgg139,
  z39 := Tryz.sizeOf139,
  v39 := Tryz.zeroValue139,
  t45 := Tryz.underlying143,
  a45 := Tryz.isAgg143,
  z45 := Tryz.sizeOf143,
  v45 := Tryz.zeroValue143,
  t46 := Tryz.underlying144,
  a46 := Tryz.isAgg144,
  z46 := Tryz.sizeOf144,
  v46 := Tryz.zeroValue144,
  t50 := Tryz.underlying106,
  a50 := Tryz.isAgg106,
  z50 := Tryz.sizeOf106,
  v50 := Tryz.zeroValue106,
  t53 := Tryz.underlying44,
  a53 := Tryz.isAgg44,
  z53 := Tryz.sizeOf44,
  v53 := Tryz.zeroValue44,
  t55 := Tryz.underlying22,
  a55 := Tryz.isAgg22,
  z55 := Tryz.sizeOf22,
  v55 := Tryz.zeroValue22,
  t66 := Tryz.underlying149,
  a66 := Tryz.isAgg149,
  z66 := Tryz.sizeOf149,
  v66 := Tryz.zeroValue149,
  t70 := Tryz.underlying153,
  a70 := Tryz.isAgg153,
  z70 := Tryz.sizeOf153,
  v70 := Tryz.zeroValue153,
  t76 := Tryz.underlying155,
  a76 := Tryz.isAgg155,
  z76 := Tryz.sizeOf155,
  v76 := Tryz.zeroValue155,
  t77 := Tryz.underlying156,
  a77 := Tryz.isAgg156,
  z77 := Tryz.sizeOf156,
  v77 := Tryz.zeroValue156 }
def finL {n : Nat} : (l : List Nat) → (∀ x ∈ l, x < n) → List (Fin n)
  | [], _ => []
  | x :: l, h => ⟨x, h x (List.mem_cons_self ..)⟩ :: finL l (fun y hy => h y (List.mem_cons_of_mem _ hy))
theorem finL_val {n : Nat} : ∀ (l : List Nat) (h : ∀ x ∈ l, x < n), (finL l h).map (fun x => x.val) = l
  | [], _ => rfl
  | x :: l, h => by
    show x :: (finL l _).map _ = x :: l
    rw [finL_val l]
theorem finL_len {n : Nat} (l : List Nat) (h : ∀ x ∈ l, x < n) : (finL l h).length = l.length := by
  have := congrArg List.length (finL_val l h)
  rwa [List.length_map] at this
def encF {n : Nat} (x : Fin n) : Value := .int .i64 (x.val : Int)
theorem oneF {n : Nat} : OneCell (encF (n := n)) := fun x => rfl
section
variable {W W' : World} {n : Nat} [Inhabited (Fin n)]
theorem fr_sortF {blk m : Nat} {d : Array (Fin n)} {os : Array Obj} : Fr (fun i => i = blk) W (sortWorld encF W blk 0 m d os) := by
  refine ⟨rfl, rfl, rfl, ?_, fun k hk hF => ?_⟩
  · show W.heap.size ≤ ((putRow encF (Go.Sort.ahead W m) blk 0 d).heap ++ os).size
    rw [Array.size_append]
    have : (putRow encF (Go.Sort.ahead W m) blk 0 d).heap.size = W.heap.size := by simp [putRow, mapBlock, Go.Sort.ahead]
    omega
  · have hz : (putRow encF (Go.Sort.ahead W m) blk 0 d).heap.size = W.heap.size := by simp [putRow, mapBlock, Go.Sort.ahead]
    have e1 : (sortWorld encF W blk 0 m d os).heap[k]? = (putRow encF (Go.Sort.ahead W m) blk 0 d).heap[k]? := by
      show ((putRow encF (Go.Sort.ahead W m) blk 0 d).heap ++ os)[k]? = _
      rw [Array.getElem?_append_left (by omega)]
    rw [e1]
    show (W.heap.modify blk _)[k]? = _
    rw [Array.getElem?_modify, if_neg (fun q => hF q.symm)]
theorem holdsF {base g cap : Nat} {l : List Nat} (hmem : ∀ x ∈ l, x < n) (h : OwK .i64 base 3 W (.slice (some ⟨g, 0, none⟩) l.length cap) l) : Holds encF W g 0 (finL l hmem).toArray := by
  intro j hj
  have hs : (finL l hmem).toArray.size = l.length := by rw [List.size_toArray, finL_len]
  have hjl : j < l.length := by omega
  obtain ⟨hl, h2⟩ := h
  rcases h2 with ⟨h2, _⟩ | ⟨g', cap', cur, e, hg, hh, h3, h4, h5, h6⟩
  · cases h2
  · simp only [Value.slice.injEq, Option.some.injEq, Addr.mk.injEq] at e
    obtain ⟨⟨rfl, _⟩, _, rfl⟩ := e
    have hc : cur[j]? = some (.int .i64 (l[j] : Nat)) := by
      have hq : (cur.toList.take (l.length * 1))[j]? = some (.int .i64 (l[j] : Nat)) := by rw [h6]; simp [hjl]
      rw [List.getElem?_take, if_pos (by omega)] at hq
      simpa using hq
    have hv : encF ((finL l hmem).toArray[j]!) = .int .i64 (l[j] : Nat) := by
      rw [getElem!_pos (finL l hmem).toArray j hj]
      unfold encF
      have e2 : ((finL l hmem).map (fun x => x.val))[j]? = l[j]? := by rw [finL_val]
      have hj2 : j < (finL l hmem).length := by rw [finL_len]; exact hjl
      rw [List.getElem?_map, List.getElem?_eq_getElem hj2, List.getElem?_eq_getElem hjl] at e2
      simp at e2
      simp [e2]
    rw [hv]
    constructor
    · simp [World.cell?, hh, hc]
    · simp [World.frozen?, hh]
end
section
variable {p : PP} {f : Nat → FrS}
theorem cmpZ_neg (x y : Nat) : cmpZ x y < 0 ↔ x < y := by
  unfold cmpZ
  split
  · constructor
    · intro _; omega
    · intro _; omega
  · split
    · constructor
      · intro q; omega
      · intro q; omega
    · constructor
      · intro q; omega
      · intro q; omega
theorem swoF (n : Nat) : SWO (ltOf fun x y : Fin n => cmpZ (f x.val).id (f y.val).id) where
  irrefl x := by unfold ltOf; rw [decide_eq_false_iff_not, cmpZ_neg]; omega
  trans x y z h1 h2 := by unfold ltOf at *; rw [decide_eq_true_eq, cmpZ_neg] at *; omega
  ntrans x y z h1 h2 := by unfold ltOf at *; rw [decide_eq_false_iff_not, cmpZ_neg] at *; omega
theorem sorts_by (bx base : Nat) : SortsBy p f bx base := by
  intro W v l ho hbx hmem hll hb hbl hM hown htb
  obtain ⟨pl, E, I, sc, m, hM⟩ := hM
  have hbase := ho.base
  have h0 := ho
  obtain ⟨hl, h2⟩ := ho
  rcases h2 with ⟨rfl, hz⟩ | ⟨g, cap, cur, rfl, hg, hh, h3, h4, h5, h6⟩
  · have hl0 : l = [] := List.length_eq_zero_iff.1 hz
    subst hl0
    have hS := AnyF.slices_SortFunc_none (P := Tryz.prog) (ρ := Tryz.sortIn_ren) { Tryz.sortIn with } none 0 (.func (.func 78) #[] #[.pointer (some ⟨bx, 0, none⟩)]) W
    change Calls Tryz.prog 77 _ _ _ at hS
    refine hS.mono ?_
    rintro e w' ⟨rfl, rfl⟩
    exact ⟨rfl, [], List.Perm.refl _, fun i j hi => absurd hi (Nat.not_lt_zero i), SlK.nil _ _, Fr.refl _ _⟩
  · have hn := hM.hn
    haveI : Inhabited (Fin p.n) := ⟨⟨0, hn.1⟩⟩
    have hH := holdsF hmem h0
    have hgl := (World.ownsRow.lt h0 g rfl).2
    have hgb := hbase g rfl
    have hsz : (finL l hmem).toArray.size = l.length := by rw [List.size_toArray, finL_len]
    have hcmp : CmpLays1 Tryz.prog 78 #[.pointer (some ⟨bx, 0, none⟩)] encF (fun x y : Fin p.n => cmpZ (f x.val).id (f y.val).id) g 0 (finL l hmem).toArray.size W := by
      intro k os dk hdk x y
      have fs : Fr (fun i => i = g) W (sortWorld encF W g 0 k dk os) := fr_sortF
      have hM2 := hM.fro fs (fun i q e => by have := hown i q; omega) (fun e => by have h9 : 0 = g := e; omega)
      have hb2 : (sortWorld encF W g 0 k dk os).cell? ⟨bx, 0, none⟩ = some p.ptr := by rw [fs.cell (p := ⟨bx, 0, none⟩) hbl (by show ¬ bx = g; omega)]; exact hb
      refine (dcmp_calls hM2 x.isLt y.isLt hb2 (Nat.lt_of_lt_of_le hbl fs.size)).mono ?_
      rintro e w' ⟨he, q, rfl⟩
      exact ⟨he, q, #[], by rw [grow_empty]⟩
    have hS := Any.slices_SortFunc Tryz.sortIn encF oneF (fun x y : Fin p.n => cmpZ (f x.val).id (f y.val).id) (swoF p.n) 78 #[.pointer (some ⟨bx, 0, none⟩)] g 0 cap (finL l hmem).toArray W (enters_of Tryz.func78 (by kernel_rfl) rfl) hcmp hH hgl (by omega)
    rw [hsz] at hS
    change Calls Tryz.prog 77 _ _ _ at hS
    refine hS.mono ?_
    rintro e w' ⟨rfl, d', k, os, ⟨p1, p2, p3⟩, hsd, rfl⟩
    have hs' : d'.size = l.length := by rw [p1, hsz]
    have hH' := holds_sortWorld encF W g 0 k (finL l hmem).toArray d' os hgl hH p1
    have e1 : (d'.extract 0 l.length).toList = d'.toList := by rw [← hs']; simp
    have e2 : ((finL l hmem).toArray.extract 0 l.length).toList = finL l hmem := by
      have := finL_len l hmem
      simp [List.take_of_length_le, this]
    rw [e1, e2] at p3
    have hp : (d'.toList.map (fun x => x.val)).Perm l := by
      have := p3.map (fun x => x.val)
      rwa [finL_val] at this
    have hlen : (d'.toList.map (fun x => x.val)).length = l.length := hp.length_eq
    have hat : ∀ i (hi : i < (d'.toList.map (fun x => x.val)).length), (d'.toList.map (fun x => x.val))[i] = (d'[i]!).val := fun i hi => by
      rw [getElem!_pos d' i (by rw [hs']; omega)]
      simp
    refine ⟨rfl, _, hp, fun i j hi hj hij => ?_, ?_, fr_sortF.mono (fun i q => by rw [q]; rfl)⟩
    · have := hsd i j (Nat.zero_le _) hij (by omega)
      unfold ltOf at this
      rw [decide_eq_false_iff_not, cmpZ_neg] at this
      rw [hat i hi, hat j hj]; exact this
    · refine ⟨some ⟨g, 0, none⟩, cap, by rw [hlen], by simp [hs'], fun u hu => ?_, by rw [hlen]; exact h3, h4, .inr ⟨g, 0, rfl, Nat.lt_of_lt_of_le hgl fr_sortF.size, fun j u hj => ?_⟩⟩
      · obtain ⟨y, _, rfl⟩ := List.mem_map.1 hu
        rfl
      · have hjl : j < d'.size := by
          have := (List.getElem?_eq_some_iff.1 hj).1
          simpa using this
        rw [(hH' j hjl).1]
        simp [hjl] at hj
        rw [← hj]
        unfold encF
        rw [getElem!_pos d' j hjl]
end
end Go.Proofs.YtmpjnphnljakiaaGreatDoor
namespace Go.Proofs.YtmpjnphnljakiaaGreatDoor
open Go.RowKit Go.Maps
set_option linter.unusedVariables false
set_option linter.unusedSimpArgs false
set_option linter.unusedSectionVars false
set_option maxRecDepth 100000
section
variable {p : PP} {q : Bool} {M : AM} {m : Nat} {w : World} {F : Nat → Prop}
/-- No frame is dirty. -/
def AnyC (p : PP) (q : Bool) (M : AM) (m : Nat) (w : World) (F : Nat → Prop) : Prop :=
  ∃ (τ : Type) (P : Adv τ) (RR : World → τ → (Nat → Prop) → Prop) (ok : Nat → τ → (Nat → Nat) → (Nat → Bool) → Prop) (X : PS τ), RepSys P RR p.pb p.rv p.n ok ∧ PW RR ok p X m w F ∧ Abs p.n X M ∧ M.okA ∧ (q = true → X.sc = 0 ∧ Good0 P p.n ok) ∧ ∀ i, i < p.n → (X.f i).dirty = false
theorem AnyC.any (h : AnyC p q M m w F) : AnyP p q M m w F := by
  obtain ⟨τ, P, RR, ok, X, S, H, A, O, K, _⟩ := h
  exact ⟨τ, P, RR, ok, X, S, H, A, O, K⟩
theorem AnyP.fa (h : AnyP p q M m w F) (hm : m < 60000) (hn : p.n ≤ 64) : Calls Tryz.prog 41 #[p.ptr] w fun e w' => e = .returned (.int .i64 0) ∧ Led (AnyC p q M (m + 100)) F w w' := by
  obtain ⟨τ, P, RR, ok, X, S, H, A, O, K⟩ := h
  refine (fa_calls S H hm hn (sorts_by _ _)).mono ?_
  rintro e w' ⟨l, hp, _, he, hl⟩
  obtain ⟨r1, r2, r3, r4⟩ := A.flushLE l (fun k hk => by
    obtain ⟨k1, k2⟩ := dirL_mem.1 (hp.mem_iff.1 hk)
    refine ⟨k1, fun h0 => ?_⟩
    rw [A.inv.em k k1 h0] at k2
    cases k2)
  refine ⟨by rw [he, r1]; rfl, hl.mono (fun F' h' => ⟨τ, P, RR, ok, _, S, h', r2, O, fun hq => ⟨by rw [flushL_sc]; exact (K hq).1, (K hq).2⟩, fun i hi => ?_⟩)⟩
  cases e2 : ((X.flushL l).2.f i).dirty with
  | false => rfl
  | true =>
    obtain ⟨c1, c2⟩ := r4 i e2
    exact (c2 (hp.mem_iff.2 (dirL_mem.2 ⟨hi, c1⟩))).elim
end
end Go.Proofs.YtmpjnphnljakiaaGreatDoor
namespace Go.Proofs.YtmpjnphnljakiaaGreatDoor
open Go.RowKit Go.Maps
set_option linter.unusedVariables false
set_option linter.unusedSimpArgs false
set_option linter.unusedSectionVars false
set_option maxRecDepth 100000
section
variable {p : PP} {q : Bool} {M : AM} {m : Nat} {w : World} {F : Nat → Prop} {o : OpF}
set_option maxHeartbeats 4000000 in
theorem call_flushAll (h : AnyP p q M m w F) (hm : m < 59000) (hn : p.n ≤ 64) (ho : o.ok) (ht : 0 < w.heap.size) (hk : o.k = 6) :
    Calls Tryz.prog 32 #[p.ptr, o.val] w fun e w' => e = .returned (⟨0, 0, 0⟩ : AnF).val ∧ Led (AnyP p q M (m + 100)) F w w' := by
  obtain ⟨k, pg, v⟩ := o
  have f0 : Fr NoF w (((w.alloc (.cells #[.int .i64 k, .int .u32 (pg : Nat), .int .u64 (v : Nat)] 73)).alloc (.cells #[.int .i64 0, .int .u32 0, .int .u64 0] 75)).alloc (.cells #[.int .i64 0, .int .u32 0, .int .u64 0] 75)) := (((Fr.refl NoF w).alloc _).alloc _).alloc _
  have b0 := (((blkAn w (.int .i64 k) (.int .u32 (pg : Nat)) (.int .u64 (v : Nat)) (t := 73)).alloc (.cells #[.int .i64 0, .int .u32 0, .int .u64 0] 75)).alloc (.cells #[.int .i64 0, .int .u32 0, .int .u64 0] 75))
  have b1 := ((blkAn (w.alloc (.cells #[.int .i64 k, .int .u32 (pg : Nat), .int .u64 (v : Nat)] 73)) (.int .i64 0) (.int .u32 0) (.int .u64 0) (t := 75)).alloc (.cells #[.int .i64 0, .int .u32 0, .int .u64 0] 75))
  have b2 := (blkAn ((w.alloc (.cells #[.int .i64 k, .int .u32 (pg : Nat), .int .u64 (v : Nat)] 73)).alloc (.cells #[.int .i64 0, .int .u32 0, .int .u64 0] 75)) (.int .i64 0) (.int .u32 0) (.int .u64 0) (t := 75))
  rw [World.size_alloc] at b1
  rw [World.size_alloc, World.size_alloc] at b2
  have hs : (((w.alloc (.cells #[.int .i64 k, .int .u32 (pg : Nat), .int .u64 (v : Nat)] 73)).alloc (.cells #[.int .i64 0, .int .u32 0, .int .u64 0] 75)).alloc (.cells #[.int .i64 0, .int .u32 0, .int .u64 0] 75)).heap.size = w.heap.size + 3 := by rw [World.size_alloc, World.size_alloc, World.size_alloc]
  have hl := h.lt
  have hA := h.fr0 f0
  unfold OpF.val
  simp only at hk
  have KE := Lib.hid (fun (M' : AM) (m' : Nat) (w1 : World) (h1 : Led (AnyP p q M' m') F _ w1) => call_end hs f0 hl ht b1 b2 h1)
  have HA := Lib.hid hA
  have B0 := Lib.hid b0
  have hid0 := ho.1
  have hv0 := ho.2.1
  clear h b0 b1 b2 hA ho
  go_enter Tryz.func32, Tryz.ntmps32
  subst hk
  go_wp2_with fail
  refine (HA.out.fa (by omega) hn).mono ?_
  rintro e w1 ⟨rfl, hl1⟩
  obtain ⟨c1, c2, c3⟩ := KE.out _ _ w1 (hl1.mono (fun F' h' => AnyC.any h'))
  have HR := Lib.hid ((((c1.other (a := ⟨w.heap.size + 1 + 1, 0, none⟩) (by simp) (.int .i64 0)).set 0 (.int .i64 0)).set 1 (.int .u32 0)).set 2 (.int .u64 0))
  have HL := Lib.hid (c3 ((((w1.setCell ⟨w.heap.size + 1 + 1, 0, none⟩ (.int .i64 0)).setCell ⟨w.heap.size + 1, 0, none⟩ (.int .i64 0)).setCell ⟨w.heap.size + 1, 1, none⟩ (.int .u32 0)).setCell ⟨w.heap.size + 1, 2, none⟩ (.int .u64 0)) (by repeat (first | exact Fr.refl _ _ | refine Fr.setCell ?_ (.inl (by first | exact .inl rfl | exact .inr rfl)) _)))
  have a0 := c1.cell (i := 0) (by omega)
  have a1 := c1.cell (i := 1) (by omega)
  have a2 := c1.cell (i := 2) (by omega)
  have d0 := c2.cell (i := 0) (by omega)
  have d1 := c2.cell (i := 1) (by omega)
  have d2 := c2.cell (i := 2) (by omega)
  have z0 := c1.frozen 0
  have z1 := c1.frozen 1
  have z2 := c1.frozen 2
  have y0 := c2.frozen 0
  have y1 := c2.frozen 1
  have y2 := c2.frozen 2
  have l1 := c1.lt
  have l2 := c2.lt
  simp only [zAn] at a0 a1 a2 d0 d1 d2
  clear c1 c2 c3 hl1
  go_wp2_with fail
  (try simp only [Exit.inBlock, Exit.then])
  refine bodyPost_ret (results_blk Tryz.results32 _ _ HR.out rfl Tryz.underlying75 rfl (by kernel_rfl)) rfl ?_
  exact ⟨rfl, HL.out⟩
end
end Go.Proofs.YtmpjnphnljakiaaGreatDoor
namespace Go.Proofs.YtmpjnphnljakiaaGreatDoor
open Go.RowKit Go.Maps
set_option linter.unusedVariables false
set_option linter.unusedSimpArgs false
set_option linter.unusedSectionVars false
set_option maxRecDepth 100000
section
variable {p : PP} {q : Bool} {M : AM} {m : Nat} {w : World} {F : Nat → Prop} {o : OpF} {b fb i d mb s cnt : Nat} {ov cv lv : Value} {la : Option Nat} {pin : Nat → Nat}
theorem AM.newPage_id (n : Nat) (M : AM) (h : M.room ≤ 65535) : (M.newPage n).1.1 < 4294967296 := by
  have hg : M.gap ≤ M.ids.length := by
    have := (gapOf_is (M.ids.map (fun x => (x, 0)))).le
    rw [List.length_map] at this
    exact this
  unfold AM.newPage
  split
  · exact (by decide : (0 : Nat) < 4294967296)
  · split
    · exact (by decide : (0 : Nat) < 4294967296)
    · show M.gap + 1 < 4294967296
      omega
theorem AM.call_id (n : Nat) (M : AM) (o : OpF) (h : M.room ≤ 65535) : (M.call n o).1.id < 4294967296 := by
  unfold AM.call
  repeat' split
  · exact AM.newPage_id n M h
  all_goals exact (by decide : (0 : Nat) < 4294967296)
theorem AM.newPage_room (n : Nat) (M : AM) : (M.newPage n).2.room = M.room := by
  unfold AM.newPage
  split
  · rfl
  · split <;> rfl
theorem AM.fetch_room (n : Nat) (M : AM) (id : Nat) : (M.fetch n id).2.room = M.room := by
  unfold AM.fetch
  split
  · split <;> rfl
  · rfl
theorem AM.unpin_room (M : AM) (id : Nat) : (M.unpin id).2.room = M.room := by unfold AM.unpin; split <;> rfl
theorem AM.write_room (M : AM) (id v : Nat) : (M.write id v).2.room = M.room := by unfold AM.write; split <;> rfl
theorem AM.delete_room (M : AM) (id : Nat) : (M.delete id).2.room = M.room := by
  unfold AM.delete
  split
  · split <;> rfl
  · rfl
theorem AM.call_room (n : Nat) (M : AM) (o : OpF) : (M.call n o).2.room = M.room := by
  unfold AM.call
  repeat' split
  · exact AM.newPage_room n M
  · exact AM.fetch_room n M _
  · exact AM.unpin_room M _
  · rfl
  · exact AM.write_room M _ _
  · rfl
  · rfl
  · exact AM.delete_room M _
  · rfl
theorem call_all (h : AnyP p q M m w F) (hm : m < 59000) (hn : p.n ≤ 64) (ho : o.ok) (ht : 0 < w.heap.size) :
    Calls Tryz.prog 32 #[p.ptr, o.val] w fun e w' => e = .returned (M.call p.n o).1.val ∧ Led (AnyP p q (M.call p.n o).2 (m + 100)) F w w' := by
  unfold AM.call
  by_cases h0 : o.k = 0
  · rw [if_pos h0]; exact call_new h hm hn ho ht h0
  rw [if_neg h0]
  by_cases h1 : o.k = 1
  · rw [if_pos h1]; exact call_fetch h hm hn ho ht h1
  rw [if_neg h1]
  by_cases h2 : o.k = 2
  · rw [if_pos h2]; exact call_unpin h hm hn ho ht h2
  rw [if_neg h2]
  by_cases h3 : o.k = 3
  · rw [if_pos h3]; exact call_read h hm hn ho ht h3
  rw [if_neg h3]
  by_cases h4 : o.k = 4
  · rw [if_pos h4]; exact call_write h hm hn ho ht h4
  rw [if_neg h4]
  by_cases h5 : o.k = 5
  · rw [if_pos h5]; exact call_flush h hm hn ho ht h5
  rw [if_neg h5]
  by_cases h6 : o.k = 6
  · rw [if_pos h6]; exact call_flushAll h hm hn ho ht h6
  rw [if_neg h6]
  by_cases h7 : o.k = 7
  · rw [if_pos h7]; exact call_delete h hm hn ho ht h7
  rw [if_neg h7]
  exact call_none h hm hn ho ht (by omega)
/-- What a client is answered, what becomes of the map, and of its pins. -/
noncomputable def AM.ccall (n : Nat) (M : AM) (o : OpF) (pin : Nat → Nat) : AnF × AM × (Nat → Nat) :=
  if lackB o pin = true then (lackA M o, M, pin) else ((M.call n o).1, (M.call n o).2, pinX o (M.call n o).1 pin)
theorem AM.ccall_room (n : Nat) (M : AM) (o : OpF) (pin : Nat → Nat) : (M.ccall n o pin).2.1.room = M.room := by
  unfold AM.ccall
  split
  · rfl
  · exact AM.call_room n M o
theorem ccall_calls (h : AnyP p q M m w F) (hm : m < 59000) (hn : p.n ≤ 64) (hr : M.room ≤ 65535) (ho : o.ok) (hc : Blk w b 5 (clC i ov d mb b s)) (hf : Blk w fb 4 (frC p.ptr cv la lv)) (hp : PinsAt w mb cnt (pinM pin)) (hcn : cnt < 100000) (hpn : ∀ x, pin x < 100000) (ne : ¬ b = mb) (nb : ¬ F b) (nm : ¬ F mb) (nf : ¬ F fb) (ht : 0 < w.heap.size) (tm : ¬ 0 = mb) :
    Calls Tryz.prog 28 #[.pointer (some ⟨b, 0, none⟩), .pointer (some ⟨fb, 0, none⟩), o.val] w fun e w' => e = .returned (M.ccall p.n o pin).1.val ∧ CallPost p q (M.ccall p.n o pin).2.1 (m + 100) F w mb cnt (M.ccall p.n o pin).2.2 w' := by
  unfold AM.ccall
  cases hl : lackB o pin with
  | true =>
    rw [if_pos rfl]
    refine (ccall_lack h ho hc hf hp hl).mono fun e w' ⟨he, f⟩ => ⟨he, F, cnt, (h.fr0 f).more (by omega), fun i z => .inl z, Nat.le_succ _, hp.fr f id, f.none⟩
  | false =>
    rw [if_neg (by simp)]
    have ha := AM.call_id p.n M o hr
    have HC : ∀ W, Fr NoF w W → Calls Tryz.prog 32 #[p.ptr, o.val] W fun e w' => e = .returned (M.call p.n o).1.val ∧ Led (AnyP p q (M.call p.n o).2 (m + 100)) F W w' := fun W f => call_all (h.fr0 f) hm hn ho (Nat.lt_of_lt_of_le ht f.size)
    by_cases h0 : o.k = 0
    · exact ccall_new h ho hc hf hp hcn hpn ne nb nm nf ht tm h0 hl ha HC
    by_cases h1 : o.k = 1
    · exact ccall_fetch h ho hc hf hp hcn hpn ne nb nm nf ht tm h1 hl ha HC
    by_cases h2 : o.k = 2
    · exact ccall_unpin h ho hc hf hp hcn hpn ne nb nm nf ht tm h2 hl ha HC
    exact ccall_other h ho hc hf hp hcn hpn ne nb nm nf ht tm ⟨h0, h1, h2⟩ hl ha HC
end
end Go.Proofs.YtmpjnphnljakiaaGreatDoor
namespace Go.Proofs.YtmpjnphnljakiaaGreatDoor
open Go.RowKit Go.Maps
set_option linter.unusedVariables false
set_option linter.unusedSimpArgs false
set_option linter.unusedSectionVars false
set_option maxRecDepth 100000
/-- A client: its calls, how many were done, what it pins, its next step (0: none, 1: take, 2: do, 3: give). -/
structure CSt where
  ops : List OpF
  done : Nat
  pin : Nat → Nat
  st : Nat
/-- A front: how many clients, the clients, whose the latch is, the log. -/
structure FSt where
  n : Nat
  cl : Nat → CSt
  la : Option Nat
  log : List EnF
def CSt.op (C : CSt) : OpF := C.ops.getD C.done ⟨0, 0, 0⟩
noncomputable def FSt.pick (nf : Nat) (M : AM) (S : FSt) (c : Nat) : Bool × AM × FSt :=
  if (S.cl c).st = 1 then
    (if S.la.isSome = true then (false, M, S) else (true, M, { S with la := some c, cl := upd S.cl c { S.cl c with st := 2 } }))
  else if (S.cl c).st = 2 then
    (true, (M.ccall nf (S.cl c).op (S.cl c).pin).2.1, { S with log := S.log ++ [⟨c, (S.cl c).done, (S.cl c).op, (M.ccall nf (S.cl c).op (S.cl c).pin).1⟩], cl := upd S.cl c { S.cl c with done := (S.cl c).done + 1, pin := (M.ccall nf (S.cl c).op (S.cl c).pin).2.2, st := 3 } })
  else if (S.cl c).st = 3 then (true, M, { S with la := none, cl := upd S.cl c { S.cl c with st := go1 (S.cl c).done (S.cl c).ops.length } })
  else (false, M, S)
/-- Where a front lies: its head, its clients, their pins, the list of them, their calls. -/
structure FA where
  fb : Nat
  cb : Nat → Nat
  mb : Nat → Nat
  ca : Option Addr
  cc : Nat
  oa : Nat → Option Addr
  oc : Nat → Nat
  base : Nat
/-- A client's state may be. -/
structure CSt.Ok (C : CSt) (m : Nat) : Prop where
  len : C.ops.length ≤ 1000
  ops : ∀ o ∈ C.ops, o.ok
  dn : C.done ≤ C.ops.length
  lt : C.st = 1 ∨ C.st = 2 → C.done < C.ops.length
  pin : ∀ x, C.pin x ≤ m
  st : C.st ≤ 3
structure FrM (w : World) (p : PP) (A : FA) (S : FSt) (m : Nat) (lv : Value) (kd : Nat → Nat) : Prop where
  n1 : 1 ≤ S.n
  n8 : S.n ≤ 8
  hd : Blk w A.fb 4 (frC p.ptr (.slice A.ca S.n A.cc) (S.la.map A.cb) lv)
  cs : SlC w 1 (.slice A.ca S.n A.cc) S.n (ptrsC S.n A.cb)
  lal : ∀ c, S.la = some c → c < S.n
  cl : ∀ i, i < S.n → Blk w (A.cb i) 5 (clC i (.slice (A.oa i) (S.cl i).ops.length (A.oc i)) (S.cl i).done (A.mb i) (A.cb i) (S.cl i).st)
  op : ∀ i, i < S.n → SlC w 3 (.slice (A.oa i) (S.cl i).ops.length (A.oc i)) (S.cl i).ops.length (opsC (S.cl i).ops)
  pn : ∀ i, i < S.n → ∃ cnt, cnt ≤ m ∧ PinsAt w (A.mb i) cnt (pinM (S.cl i).pin)
  ok : ∀ i, i < S.n → (S.cl i).Ok m
  lg : LogAt w A.base lv S.log
  ll : S.log.length ≤ m
  bs : A.base ≤ w.heap.size
  k1 : kd A.fb = 1
  kc : ∀ i, i < S.n → kd (A.cb i) = 5 + 2 * i
  km : ∀ i, i < S.n → kd (A.mb i) = 6 + 2 * i
  kl : ∀ j, lv.ownBlock = some j → kd j = 2
  kv : ∀ j, (Value.slice A.ca S.n A.cc).ownBlock = some j → kd j = 0
  ko : ∀ i, i < S.n → ∀ j, (Value.slice (A.oa i) (S.cl i).ops.length (A.oc i)).ownBlock = some j → kd j = 0
  lt : ∀ j, ¬ kd j = 0 → j < w.heap.size
section
variable {p : PP} {q : Bool} {M : AM} {m m' : Nat} {w w' : World} {A : FA} {S : FSt} {lv lv' : Value} {kd kd' : Nat → Nat} {G X : Nat → Prop} {c : Nat} {C' : CSt} {la' : Option Nat} {log' : List EnF}
/-- One client, the latch and the log have changed; all else stays. -/
theorem FrM.turn (h : FrM w p A S m lv kd) (hc : c < S.n) (hm : m ≤ m') (f : Fr X w w') (hX : ∀ j, X j → kd j = 1 ∨ kd j = 2 ∨ kd j = 3 ∨ j = A.cb c ∨ j = A.mb c)
    (hd : Blk w' A.fb 4 (frC p.ptr (.slice A.ca S.n A.cc) (la'.map A.cb) lv')) (hla : ∀ x, la' = some x → x < S.n)
    (hcl : Blk w' (A.cb c) 5 (clC c (.slice (A.oa c) (S.cl c).ops.length (A.oc c)) C'.done (A.mb c) (A.cb c) C'.st)) (hops : C'.ops = (S.cl c).ops)
    (hpn : ∃ cnt, cnt ≤ m' ∧ PinsAt w' (A.mb c) cnt (pinM C'.pin)) (hok : C'.Ok m') (hlg : LogAt w' A.base lv' log') (hll : log'.length ≤ m')
    (hk : ∀ j, j < w.heap.size → ¬ kd j = 2 → ¬ kd j = 3 → kd' j = kd j) (hkl : ∀ j, lv'.ownBlock = some j → kd' j = 2) (hlt : ∀ j, ¬ kd' j = 0 → j < w'.heap.size) :
    FrM w' p A { S with la := la', log := log', cl := upd S.cl c C' } m' lv' kd' := by
  have i0 : ∀ j, kd j = 0 → ¬ X j := fun j e x => by
    rcases hX j x with z | z | z | z | z
    · omega
    · omega
    · omega
    · have := h.kc c hc; rw [z] at e; omega
    · have := h.km c hc; rw [z] at e; omega
  have ic : ∀ i, i < S.n → ¬ i = c → ¬ X (A.cb i) := fun i hi ne x => by
    have e := h.kc i hi
    rcases hX _ x with z | z | z | z | z
    · omega
    · omega
    · omega
    · have := h.kc c hc; rw [z] at e; omega
    · have := h.km c hc; rw [z] at e; omega
  have im : ∀ i, i < S.n → ¬ i = c → ¬ X (A.mb i) := fun i hi ne x => by
    have e := h.km i hi
    rcases hX _ x with z | z | z | z | z
    · omega
    · omega
    · omega
    · have := h.kc c hc; rw [z] at e; omega
    · have := h.km c hc; rw [z] at e; omega
  have hsz := f.size
  have eo : ∀ i, (upd S.cl c C' i).ops = (S.cl i).ops := fun i => by
    by_cases e : i = c
    · subst e; rw [upd_same]; exact hops
    · rw [upd_other _ _ e]
  exact {
    n1 := h.n1, n8 := h.n8, hd := hd, cs := h.cs.fr f (fun b z => i0 b (h.kv b z)), lal := hla
    cl := fun i hi => by
      show Blk w' (A.cb i) 5 (clC i (.slice (A.oa i) (upd S.cl c C' i).ops.length (A.oc i)) (upd S.cl c C' i).done (A.mb i) (A.cb i) (upd S.cl c C' i).st)
      rw [eo]
      by_cases e : i = c
      · subst e; rw [upd_same]; exact hcl
      · rw [upd_other _ _ e]; exact (h.cl i hi).fr f (ic i hi e)
    op := fun i hi => by
      show SlC w' 3 (.slice (A.oa i) (upd S.cl c C' i).ops.length (A.oc i)) (upd S.cl c C' i).ops.length (opsC (upd S.cl c C' i).ops)
      rw [eo]
      exact (h.op i hi).fr f (fun b z => i0 b (h.ko i hi b z))
    pn := fun i hi => by
      show ∃ cnt, cnt ≤ m' ∧ PinsAt w' (A.mb i) cnt (pinM (upd S.cl c C' i).pin)
      by_cases e : i = c
      · subst e; rw [upd_same]; exact hpn
      · rw [upd_other _ _ e]
        obtain ⟨cnt, h1, h2⟩ := h.pn i hi
        exact ⟨cnt, by omega, h2.fr f (im i hi e)⟩
    ok := fun i hi => by
      show (upd S.cl c C' i).Ok m'
      by_cases e : i = c
      · subst e; rw [upd_same]; exact hok
      · rw [upd_other _ _ e]
        have z := h.ok i hi
        exact ⟨z.len, z.ops, z.dn, z.lt, fun x => Nat.le_trans (z.pin x) hm, z.st⟩
    lg := hlg, ll := hll, bs := Nat.le_trans h.bs hsz
    k1 := by rw [hk _ h.hd.lt (by rw [h.k1]; omega) (by rw [h.k1]; omega)]; exact h.k1
    kc := fun i hi => by have e := h.kc i hi; rw [hk _ (h.cl i hi).lt (by omega) (by omega)]; exact e
    km := fun i hi => by
      have e := h.km i hi
      obtain ⟨cnt, _, h2⟩ := h.pn i hi
      rw [hk _ h2.lt (by omega) (by omega)]; exact e
    kl := hkl
    kv := fun j z => by have e := h.kv j z; rw [hk _ (h.cs.lt j z) (by omega) (by omega)]; exact e
    ko := fun i hi j z => by
      have z' : (Value.slice (A.oa i) (S.cl i).ops.length (A.oc i)).ownBlock = some j := by rw [← eo]; exact z
      have e := h.ko i hi j z'
      rw [hk _ ((h.op i hi).lt j z') (by omega) (by omega)]; exact e
    lt := hlt }
/-- The whole: its pool shows M, its clients are S; G: the blocks that it may change. -/
def FrW (p : PP) (q : Bool) (A : FA) (M : AM) (S : FSt) (m : Nat) (w : World) (G : Nat → Prop) : Prop :=
  ∃ F lv kd, AnyP p q M m w F ∧ M.room ≤ 65535 ∧ FrM w p A S m lv kd ∧ (∀ j, F j → kd j = 3) ∧ (∀ j, G j ↔ ¬ kd j = 0) ∧ 0 < w.heap.size ∧ kd 0 = 0
end
end Go.Proofs.YtmpjnphnljakiaaGreatDoor
namespace Go.Proofs.YtmpjnphnljakiaaGreatDoor
open Go.RowKit Go.Maps
set_option linter.unusedVariables false
set_option linter.unusedSimpArgs false
set_option linter.unusedSectionVars false
set_option maxRecDepth 100000
theorem own_take : Own 26 := own_of Tryz.func26 (by kernel_rfl) rfl
theorem own_do : Own 27 := own_of Tryz.func27 (by kernel_rfl) rfl
theorem own_give : Own 29 := own_of Tryz.func29 (by kernel_rfl) rfl
theorem FSt.eta (S : FSt) (la : Option Nat) (lg : List EnF) (cl : Nat → CSt) : ({ S with la := la, log := lg, cl := cl } : FSt) = ⟨S.n, cl, la, lg⟩ := rfl
theorem upd_le {pin : Nat → Nat} {m i v : Nat} (h : ∀ x, pin x ≤ m) (hv : v ≤ m + 1) (x : Nat) : upd pin i v x ≤ m + 1 := by
  by_cases e : x = i
  · subst e; rw [upd_same]; exact hv
  · rw [upd_other _ _ e]; have := h x; omega
theorem ccall_pin (n : Nat) (M : AM) (o : OpF) (pin : Nat → Nat) (m : Nat) (h : ∀ x, pin x ≤ m) (x : Nat) : (M.ccall n o pin).2.2 x ≤ m + 1 := by
  unfold AM.ccall
  split
  · have := h x; show pin x ≤ _; omega
  · show pinX o (M.call n o).1 pin x ≤ m + 1
    unfold pinX
    have hx := h x
    split
    · split
      · exact upd_le h (by have := h (M.call n o).1.id; omega) x
      · split
        · exact upd_le h (by have := h o.id; omega) x
        · split
          · exact upd_le h (by have := h o.id; omega) x
          · omega
    · omega
section
variable {p : PP} {q : Bool} {M : AM} {m : Nat} {w w' : World} {A : FA} {S : FSt} {G : Nat → Prop} {k : Int}
/-- The front is as it was, but for what is drawn. -/
theorem FrW.fr0 (h : FrW p q A M S m w G) (f : Fr NoF w w') : FrW p q A M S m w' G := by
  obtain ⟨F, lv, kd, h1, h2, h3, h4, h5, h6, h7⟩ := h
  refine ⟨F, lv, kd, h1.fr0 f, h2, { h3 with hd := h3.hd.fr f id, cs := h3.cs.keep f, cl := fun i hi => (h3.cl i hi).fr f id, op := fun i hi => (h3.op i hi).keep f, pn := fun i hi => ?_, lg := own_keep h3.lg f (fun _ _ z => z), bs := Nat.le_trans h3.bs f.size, lt := fun j z => Nat.lt_of_lt_of_le (h3.lt j z) f.size }, h4, h5, Nat.lt_of_lt_of_le h6 f.size, h7⟩
  obtain ⟨cnt, a, b⟩ := h3.pn i hi
  exact ⟨cnt, a, b.fr f id⟩
theorem FrW.more (h : FrW p q A M S m w G) {m' : Nat} (hm : m ≤ m') : FrW p q A M S m' w G := by
  obtain ⟨F, lv, kd, h1, h2, h3, h4, h5, h6, h7⟩ := h
  refine ⟨F, lv, kd, h1.more hm, h2, { h3 with pn := fun i hi => ?_, ok := fun i hi => ?_, ll := Nat.le_trans h3.ll hm }, h4, h5, h6, h7⟩
  · obtain ⟨cnt, a, b⟩ := h3.pn i hi
    exact ⟨cnt, by omega, b⟩
  · have z := h3.ok i hi
    exact ⟨z.len, z.ops, z.dn, z.lt, fun x => Nat.le_trans (z.pin x) hm, z.st⟩
theorem pick_idle (h : FrW p q A M S m w G) (hs : (S.cl (whoF k S.n)).st = 0) :
    Calls Tryz.prog 11 #[.pointer (some ⟨A.fb, 0, none⟩), .int .i64 k] w fun e w' => e = .returned (.bool false) ∧ Fr NoF w w' := by
  obtain ⟨F, lv, kd, h1, h2, h3, h4, h5, h6, h7⟩ := h
  have hc : whoF k S.n < S.n := Nat.mod_lt _ (by have := h3.n1; omega)
  exact pick_none h3.n1 h3.n8 h3.hd h3.cs (h3.cl _ hc) (by rw [hs]; rfl)
theorem pick_take (h : FrW p q A M S m w G) (hs : (S.cl (whoF k S.n)).st = 1) :
    Calls Tryz.prog 11 #[.pointer (some ⟨A.fb, 0, none⟩), .int .i64 k] w fun e w' => ∃ r, e = .returned (.bool r) ∧ r = (S.pick p.n M (whoF k S.n)).1 ∧ Led (FrW p q A (S.pick p.n M (whoF k S.n)).2.1 (S.pick p.n M (whoF k S.n)).2.2 m) G w w' := by
  have hW := h
  obtain ⟨F, lv, kd, h1, h2, h3, h4, h5, h6, h7⟩ := h
  have hc : whoF k S.n < S.n := Nat.mod_lt _ (by have := h3.n1; omega)
  have hcl := h3.cl _ hc
  unfold FSt.pick
  rw [if_pos hs]
  cases hla : S.la with
  | some c =>
    rw [if_pos (show (some c).isSome = true from rfl)]
    have hd := h3.hd
    rw [hla] at hd
    refine pick_next h3.n1 h3.n8 h3.hd h3.cs hcl (by rw [hs]; rfl) own_take (Q := fun r w' => r = false ∧ Led (FrW p q A M S m) G w w') (fun W f => ?_)
    refine (take_no (hd.fr f id)).mono fun e w' ⟨he, hw⟩ => ⟨false, he, rfl, G, hw ▸ hW.fr0 f, hw ▸ f.none, fun i z => .inl z⟩
  | none =>
    rw [if_neg (by simp)]
    have hd := h3.hd
    rw [hla] at hd
    have ne : ¬ A.cb (whoF k S.n) = A.fb := fun e => by have a := h3.kc _ hc; have b := h3.k1; rw [e] at a; omega
    refine pick_next h3.n1 h3.n8 h3.hd h3.cs hcl (by rw [hs]; rfl) own_take (Q := fun r w' => r = true ∧ Led (FrW p q A M _ m) G w w') (fun W f => ?_)
    refine (take_yes (hcl.fr f id) (hd.fr f id) ne).mono fun e w' ⟨he, c1, c2, c3⟩ => ⟨true, he, rfl, ?_⟩
    have ft : Fr (fun j => j = A.cb (whoF k S.n) ∨ j = A.fb) w w' := f.none.trans c3 (fun j z => .inl z)
    have hx : ∀ j, (j = A.cb (whoF k S.n) ∨ j = A.fb) → kd j = 1 ∨ kd j = 2 ∨ kd j = 3 ∨ j = A.cb (whoF k S.n) ∨ j = A.mb (whoF k S.n) := fun j z => z.elim (fun e => .inr (.inr (.inr (.inl e)))) (fun e => .inl (e ▸ h3.k1))
    have ok := h3.ok _ hc
    have hT := h3.turn hc (Nat.le_refl m) (la' := some (whoF k S.n)) (log' := S.log) (lv' := lv) (kd' := kd) (C' := { S.cl (whoF k S.n) with st := 2 }) ft hx c2 (fun x e => by cases e; exact hc) c1 rfl
      (by obtain ⟨cnt, a, b⟩ := h3.pn _ hc; exact ⟨cnt, a, b.fr ft (fun z => z.elim (fun e => by have a := h3.kc _ hc; have b := h3.km _ hc; rw [e] at b; omega) (fun e => by have a := h3.k1; have b := h3.km _ hc; rw [e] at b; omega))⟩)
      ⟨ok.len, ok.ops, ok.dn, fun _ => ok.lt (.inl hs), ok.pin, by show 2 ≤ 3; omega⟩
      (own_keep h3.lg ft (fun b z e => e.elim (fun e => by have a := h3.kl b z; have c := h3.kc _ hc; rw [e] at a; omega) (fun e => by have a := h3.kl b z; have c := h3.k1; rw [e] at a; omega))) h3.ll
      (fun j _ _ _ => rfl) h3.kl (fun j z => Nat.lt_of_lt_of_le (h3.lt j z) ft.size)
    refine ⟨G, ⟨F, lv, kd, h1.fro ft (fun j z e => e.elim (fun e => by have a := h4 j z; have b := h3.kc _ hc; rw [← e] at b; omega) (fun e => by have a := h4 j z; have b := h3.k1; rw [← e] at b; omega)) (fun e => e.elim (fun e => by have b := h3.kc _ hc; rw [← e] at b; omega) (fun e => by have b := h3.k1; rw [← e] at b; omega)), h2, hT, h4, h5, Nat.lt_of_lt_of_le h6 ft.size, h7⟩, ft.mono (fun j z => (h5 j).2 (z.elim (fun e => by have b := h3.kc _ hc; rw [e]; omega) (fun e => by have b := h3.k1; rw [e]; omega))), fun i z => .inl z⟩
theorem pick_give (h : FrW p q A M S m w G) (hs : (S.cl (whoF k S.n)).st = 3) :
    Calls Tryz.prog 11 #[.pointer (some ⟨A.fb, 0, none⟩), .int .i64 k] w fun e w' => ∃ r, e = .returned (.bool r) ∧ r = (S.pick p.n M (whoF k S.n)).1 ∧ Led (FrW p q A (S.pick p.n M (whoF k S.n)).2.1 (S.pick p.n M (whoF k S.n)).2.2 m) G w w' := by
  obtain ⟨F, lv, kd, h1, h2, h3, h4, h5, h6, h7⟩ := h
  have hc : whoF k S.n < S.n := Nat.mod_lt _ (by have := h3.n1; omega)
  have hcl := h3.cl _ hc
  have ok := h3.ok _ hc
  unfold FSt.pick
  rw [if_neg (by omega), if_neg (by omega), if_pos hs]
  have ne : ¬ A.cb (whoF k S.n) = A.fb := fun e => by have a := h3.kc _ hc; have b := h3.k1; rw [e] at a; omega
  refine pick_next h3.n1 h3.n8 h3.hd h3.cs hcl (by rw [hs]; rfl) own_give (Q := fun r w' => r = true ∧ Led (FrW p q A M _ m) G w w') (fun W f => ?_)
  refine (give_calls (by have := ok.dn; have := ok.len; omega) (by have := ok.len; omega) (hcl.fr f id) (h3.hd.fr f id) ne).mono fun e w' ⟨he, c1, c2, c3⟩ => ⟨true, he, rfl, ?_⟩
  have ft : Fr (fun j => j = A.cb (whoF k S.n) ∨ j = A.fb) w w' := f.none.trans c3 (fun j z => .inl z)
  have hx : ∀ j, (j = A.cb (whoF k S.n) ∨ j = A.fb) → kd j = 1 ∨ kd j = 2 ∨ kd j = 3 ∨ j = A.cb (whoF k S.n) ∨ j = A.mb (whoF k S.n) := fun j z => z.elim (fun e => .inr (.inr (.inr (.inl e)))) (fun e => .inl (e ▸ h3.k1))
  have hT := h3.turn hc (Nat.le_refl m) (la' := none) (log' := S.log) (lv' := lv) (kd' := kd) (C' := { S.cl (whoF k S.n) with st := go1 (S.cl (whoF k S.n)).done (S.cl (whoF k S.n)).ops.length }) ft hx c2 (fun x e => by cases e) c1 rfl
    (by obtain ⟨cnt, a, b⟩ := h3.pn _ hc; exact ⟨cnt, a, b.fr ft (fun z => z.elim (fun e => by have a := h3.kc _ hc; have b := h3.km _ hc; rw [e] at b; omega) (fun e => by have a := h3.k1; have b := h3.km _ hc; rw [e] at b; omega))⟩)
    ⟨ok.len, ok.ops, ok.dn, fun z => by
      unfold go1 at z
      dsimp only at z ⊢
      split at z
      · assumption
      · omega, ok.pin, by show go1 _ _ ≤ 3; unfold go1; split <;> omega⟩
    (own_keep h3.lg ft (fun b z e => e.elim (fun e => by have a := h3.kl b z; have c := h3.kc _ hc; rw [e] at a; omega) (fun e => by have a := h3.kl b z; have c := h3.k1; rw [e] at a; omega))) h3.ll
    (fun j _ _ _ => rfl) h3.kl (fun j z => Nat.lt_of_lt_of_le (h3.lt j z) ft.size)
  refine ⟨G, ⟨F, lv, kd, h1.fro ft (fun j z e => e.elim (fun e => by have a := h4 j z; have b := h3.kc _ hc; rw [← e] at b; omega) (fun e => by have a := h4 j z; have b := h3.k1; rw [← e] at b; omega)) (fun e => e.elim (fun e => by have b := h3.kc _ hc; rw [← e] at b; omega) (fun e => by have b := h3.k1; rw [← e] at b; omega)), h2, hT, h4, h5, Nat.lt_of_lt_of_le h6 ft.size, h7⟩, ft.mono (fun j z => (h5 j).2 (z.elim (fun e => by have b := h3.kc _ hc; rw [e]; omega) (fun e => by have b := h3.k1; rw [e]; omega))), fun i z => .inl z⟩
set_option maxHeartbeats 4000000 in
theorem pick_do (h : FrW p q A M S m w G) (hm : m < 59000) (hn : p.n ≤ 64) (hs : (S.cl (whoF k S.n)).st = 2) :
    Calls Tryz.prog 11 #[.pointer (some ⟨A.fb, 0, none⟩), .int .i64 k] w fun e w' => ∃ r, e = .returned (.bool r) ∧ r = (S.pick p.n M (whoF k S.n)).1 ∧ Led (FrW p q A (S.pick p.n M (whoF k S.n)).2.1 (S.pick p.n M (whoF k S.n)).2.2 (m + 100)) G w w' := by
  obtain ⟨F, lv, kd, h1, h2, h3, h4, h5, h6, h7⟩ := h
  have hc : whoF k S.n < S.n := Nat.mod_lt _ (by have := h3.n1; omega)
  have hcl := h3.cl _ hc
  have ok := h3.ok _ hc
  have hd := ok.lt (.inr hs)
  have hop : (S.cl (whoF k S.n)).op = (S.cl (whoF k S.n)).ops[(S.cl (whoF k S.n)).done] := by
    unfold CSt.op
    rw [List.getD_eq_getElem?_getD, List.getElem?_eq_getElem hd]; rfl
  have hoo : (S.cl (whoF k S.n)).op.ok := by rw [hop]; exact ok.ops _ (List.getElem_mem hd)
  unfold FSt.pick
  rw [if_neg (by omega), if_pos hs]
  obtain ⟨cnt, hcn, hpn⟩ := h3.pn _ hc
  have kb := h3.kc _ hc
  have km := h3.km _ hc
  have k1 := h3.k1
  have nbf : ¬ A.cb (whoF k S.n) = A.fb := fun e => by rw [e] at kb; omega
  have ne : ¬ A.cb (whoF k S.n) = A.mb (whoF k S.n) := fun e => by rw [e] at kb; omega
  have nmf : ¬ A.mb (whoF k S.n) = A.fb := fun e => by rw [e] at km; omega
  have nb : ¬ F (A.cb (whoF k S.n)) := fun z => by have := h4 _ z; omega
  have nm : ¬ F (A.mb (whoF k S.n)) := fun z => by have := h4 _ z; omega
  have nf : ¬ F A.fb := fun z => by have := h4 _ z; omega
  have tb : ¬ 0 = A.cb (whoF k S.n) := fun e => by rw [← e] at kb; omega
  have tm : ¬ 0 = A.mb (whoF k S.n) := fun e => by rw [← e] at km; omega
  have tf : ¬ 0 = A.fb := fun e => by rw [← e] at k1; omega
  refine pick_next h3.n1 h3.n8 h3.hd h3.cs hcl (by rw [hs]; rfl) own_do (Q := fun r w' => r = true ∧ Led (FrW p q A _ _ (m + 100)) G w w') (fun W f => ?_)
  have fz : ∀ W', Fr (fun j => j = A.cb (whoF k S.n)) W W' → Fr (fun j => j = A.cb (whoF k S.n)) w W' := fun W' g => f.none.trans g (fun j z => .inl z)
  have HC : ∀ W', Fr (fun j => j = A.cb (whoF k S.n)) W W' → Blk W' (A.cb (whoF k S.n)) 5 (clC (whoF k S.n) (.slice (A.oa (whoF k S.n)) (S.cl (whoF k S.n)).ops.length (A.oc (whoF k S.n))) (S.cl (whoF k S.n)).done (A.mb (whoF k S.n)) (A.cb (whoF k S.n)) 0) → Calls Tryz.prog 28 #[.pointer (some ⟨A.cb (whoF k S.n), 0, none⟩), .pointer (some ⟨A.fb, 0, none⟩), ((S.cl (whoF k S.n)).ops[(S.cl (whoF k S.n)).done]).val] W' fun e w' => e = .returned (M.ccall p.n (S.cl (whoF k S.n)).op (S.cl (whoF k S.n)).pin).1.val ∧ CallPost p q (M.ccall p.n (S.cl (whoF k S.n)).op (S.cl (whoF k S.n)).pin).2.1 (m + 100) F W' (A.mb (whoF k S.n)) cnt (M.ccall p.n (S.cl (whoF k S.n)).op (S.cl (whoF k S.n)).pin).2.2 w' := fun W' g hb => by
    rw [← hop]
    have gf := fz W' g
    exact ccall_calls (h1.fro gf (fun j z (e : j = _) => nb (e ▸ z)) tb) hm hn h2 hoo hb (h3.hd.fr gf (fun (e : A.fb = _) => nbf e.symm)) (hpn.fr gf (fun (e : A.mb _ = _) => ne e.symm)) (by omega) (fun x => by have := ok.pin x; omega) ne nb nm nf (Nat.lt_of_lt_of_le h6 gf.size) tm
  have hD := do_calls (i := whoF k S.n) (base := A.base) (L := S.log) (la := S.la.map A.cb) (pin' := (M.ccall p.n (S.cl (whoF k S.n)).op (S.cl (whoF k S.n)).pin).2.2) (m' := m + 100)
    (fun j z => Nat.lt_of_lt_of_le (h1.lt j z) f.size) ((h3.op _ hc).keep f) hd (by have := ok.len; omega) (by have := h3.n8; omega) (hcl.fr f id) (h3.hd.fr f id) (own_keep h3.lg f (fun _ _ z => z)) (by have := h3.ll; omega) (Nat.le_trans h3.bs f.size)
    ne nbf nmf nb nm nf (fun j z => by have e := h3.ko _ hc j z; exact ⟨fun a => by have := h4 j a; omega, fun a => by rw [a] at e; omega, fun a => by rw [a] at e; omega, fun a => by rw [a] at e; omega⟩)
    (fun j z => by have e := h3.kl j z; exact ⟨fun a => by have := h4 j a; omega, fun a => by rw [a] at e; omega, fun a => by rw [a] at e; omega, fun a => by rw [a] at e; omega⟩)
    (Nat.lt_of_lt_of_le hpn.lt f.size) (Nat.lt_of_lt_of_le h6 f.size) ⟨tb, tf, fun j z e => by have a := h3.kl j z; rw [← e] at a; omega⟩ HC
  refine hD.mono fun e w' ⟨he, hp⟩ => ⟨true, he, rfl, ?_⟩
  obtain ⟨F', cnt', lv', g1, g2, g3, g4, g5, g6, g7, g8, g9, g10⟩ := hp
  have ft : Fr (fun j => F j ∨ j = A.mb (whoF k S.n) ∨ j = A.cb (whoF k S.n) ∨ j = A.fb ∨ lv.ownBlock = some j) w w' := f.none.trans g10 (fun j z => .inl z)
  have fsz := f.size
  have lvl : ∀ j, lv.ownBlock = some j → j < w.heap.size := fun j z => by rcases World.ownsRow.lt h3.lg j z with ⟨_, c⟩; exact c
  have hkd : ∃ kd' : Nat → Nat, ∀ j, (F' j → kd' j = 3) ∧ (lv'.ownBlock = some j → kd' j = 2) ∧ (¬ F' j → ¬ lv'.ownBlock = some j → kd' j = kd j) := by
    classical
    refine ⟨fun j => if F' j then 3 else if lv'.ownBlock = some j then 2 else kd j, fun j => ⟨fun a => if_pos a, fun a => ?_, fun a b => ?_⟩⟩
    · show (if F' j then 3 else if lv'.ownBlock = some j then 2 else kd j) = 2
      rw [if_neg (fun z => g9 j z a), if_pos a]
    · show (if F' j then 3 else if lv'.ownBlock = some j then 2 else kd j) = kd j
      rw [if_neg a, if_neg b]
  obtain ⟨kd', hk'⟩ := hkd
  have hF : ∀ j, j < w.heap.size → F' j → kd j = 3 := fun j a b => by
    rcases g2 j b with z | z
    · exact h4 j z
    · omega
  have hO : ∀ j, j < w.heap.size → lv'.ownBlock = some j → kd j = 2 := fun j a b => by
    rcases g8 j b with z | z
    · exact h3.kl j z
    · omega
  have hk : ∀ j, j < w.heap.size → ¬ kd j = 2 → ¬ kd j = 3 → kd' j = kd j := fun j a b c => (hk' j).2.2 (fun z => c (hF j a z)) (fun z => b (hO j a z))
  have hlt : ∀ j, ¬ kd' j = 0 → j < w'.heap.size := fun j z => by
    by_cases a : F' j
    · exact g1.lt j a
    · by_cases b : lv'.ownBlock = some j
      · rcases World.ownsRow.lt g7 j b with ⟨_, c⟩; exact c
      · rw [(hk' j).2.2 a b] at z
        exact Nat.lt_of_lt_of_le (h3.lt j z) ft.size
  have hT := h3.turn hc (show m ≤ m + 100 by omega) (la' := S.la) (lv' := lv') (kd' := kd') (log' := S.log ++ [⟨whoF k S.n, (S.cl (whoF k S.n)).done, (S.cl (whoF k S.n)).op, (M.ccall p.n (S.cl (whoF k S.n)).op (S.cl (whoF k S.n)).pin).1⟩]) (C' := { S.cl (whoF k S.n) with done := (S.cl (whoF k S.n)).done + 1, pin := (M.ccall p.n (S.cl (whoF k S.n)).op (S.cl (whoF k S.n)).pin).2.2, st := 3 }) ft
    (fun j z => by
      rcases z with z | z | z | z | z
      · exact .inr (.inr (.inl (h4 j z)))
      · exact .inr (.inr (.inr (.inr z)))
      · exact .inr (.inr (.inr (.inl z)))
      · exact .inl (z ▸ k1)
      · exact .inr (.inl (h3.kl j z)))
    g6 h3.lal g5 rfl ⟨cnt', by omega, g4⟩
    ⟨ok.len, ok.ops, hd, fun z => by dsimp only at z; omega, fun x => Nat.le_trans (ccall_pin p.n M _ _ m ok.pin x) (by omega), Nat.le_refl 3⟩
    (by rw [hop] at *; exact g7) (by rw [List.length_append]; have := h3.ll; show _ + 1 ≤ _; omega) hk (fun j z => (hk' j).2.1 z) hlt
  refine ⟨fun j => ¬ kd' j = 0, ⟨F', lv', kd', g1, by rw [AM.ccall_room]; exact h2, hT, fun j z => (hk' j).1 z, fun j => Iff.rfl, Nat.lt_of_lt_of_le h6 ft.size, ?_⟩, ft.mono (fun j z => (h5 j).2 ?_), fun j z => ?_⟩
  · rw [hk _ h6 (by rw [h7]; omega) (by rw [h7]; omega)]; exact h7
  · rcases z with z | z | z | z | z
    · rw [h4 j z]; omega
    · rw [z]; omega
    · rw [z]; omega
    · rw [z]; omega
    · rw [h3.kl j z]; omega
  · by_cases a : j < w.heap.size
    · by_cases b : F' j
      · exact .inl ((h5 j).2 (by rw [hF j a b]; omega))
      · by_cases c : lv'.ownBlock = some j
        · exact .inl ((h5 j).2 (by rw [hO j a c]; omega))
        · have z' : ¬ kd' j = 0 := z
          rw [(hk' j).2.2 b c] at z'; exact .inl ((h5 j).2 z')
    · exact .inr (by omega)
/-- A Pick, whatever the picked client's step is. -/
theorem pick_calls (h : FrW p q A M S m w G) (hm : m < 59000) (hn : p.n ≤ 64) (k : Int) :
    Calls Tryz.prog 11 #[.pointer (some ⟨A.fb, 0, none⟩), .int .i64 k] w fun e w' => e = .returned (.bool (S.pick p.n M (whoF k S.n)).1) ∧ Led (FrW p q A (S.pick p.n M (whoF k S.n)).2.1 (S.pick p.n M (whoF k S.n)).2.2 (m + 100)) G w w' := by
  have hok : (S.cl (whoF k S.n)).st ≤ 3 := by
    obtain ⟨F, lv, kd, h1, h2, h3, h4, h5, h6, h7⟩ := h
    exact (h3.ok _ (Nat.mod_lt _ (by have := h3.n1; omega))).st
  have hs : (S.cl (whoF k S.n)).st = 0 ∨ (S.cl (whoF k S.n)).st = 1 ∨ (S.cl (whoF k S.n)).st = 2 ∨ (S.cl (whoF k S.n)).st = 3 := by omega
  rcases hs with hs | hs | hs | hs
  · have e1 : S.pick p.n M (whoF k S.n) = (false, M, S) := by unfold FSt.pick; rw [if_neg (by omega), if_neg (by omega), if_neg (by omega)]
    rw [e1]
    exact (pick_idle h hs).mono fun e w' ⟨he, f⟩ => ⟨he, G, (h.fr0 f).more (by omega), f.none, fun i z => .inl z⟩
  · exact (pick_take h hs).mono fun e w' ⟨r, he, hr, hl⟩ => ⟨by rw [he, hr], hl.mono (fun F' z => z.more (by omega))⟩
  · exact (pick_do h hm hn hs).mono fun e w' ⟨r, he, hr, hl⟩ => ⟨by rw [he, hr], hl⟩
  · exact (pick_give h hs).mono fun e w' ⟨r, he, hr, hl⟩ => ⟨by rw [he, hr], hl.mono (fun F' z => z.more (by omega))⟩
end
end Go.Proofs.YtmpjnphnljakiaaGreatDoor
namespace Go.Proofs.YtmpjnphnljakiaaGreatDoor
open Go.RowKit Go.Maps
set_option linter.unusedVariables false
set_option linter.unusedSimpArgs false
set_option linter.unusedSectionVars false
set_option maxRecDepth 100000
def sumN (f : Nat → Nat) : Nat → Nat
  | 0 => 0
  | n + 1 => sumN f n + f n
theorem sumN_upd (f : Nat → Nat) (c v : Nat) : ∀ n, sumN (upd f c v) n + (if c < n then f c else 0) = sumN f n + (if c < n then v else 0)
  | 0 => by simp [sumN]
  | n + 1 => by
    have ih := sumN_upd f c v n
    show sumN (upd f c v) n + upd f c v n + _ = sumN f n + f n + _
    by_cases e : n = c
    · subst e
      rw [upd_same, if_pos (by omega), if_pos (by omega)]
      rw [if_neg (by omega), if_neg (by omega)] at ih
      omega
    · rw [upd_other _ _ e]
      by_cases h : c < n
      · rw [if_pos h, if_pos h] at ih
        rw [if_pos (by omega), if_pos (by omega)]
        omega
      · rw [if_neg h, if_neg h] at ih
        rw [if_neg (by omega), if_neg (by omega)]
        omega
theorem sumN_le {f g : Nat → Nat} : ∀ {n : Nat}, (∀ i, i < n → f i ≤ g i) → sumN f n ≤ sumN g n
  | 0, _ => Nat.le_refl _
  | n + 1, h => Nat.add_le_add (sumN_le (fun i hi => h i (by omega))) (h n (by omega))
theorem sumN_congr {f g : Nat → Nat} : ∀ {n : Nat}, (∀ i, i < n → f i = g i) → sumN f n = sumN g n
  | 0, _ => rfl
  | n + 1, h => by
    show sumN f n + f n = sumN g n + g n
    rw [sumN_congr (fun i hi => h i (by omega)), h n (by omega)]
/-- How many steps a client has still to make. -/
def CSt.rem (C : CSt) : Nat := if C.st = 0 then 0 else 3 * (C.ops.length - C.done) + (if C.st = 3 then 1 else 0) - (if C.st = 2 then 1 else 0)
def FSt.rem (S : FSt) : Nat := sumN (fun i => (S.cl i).rem) S.n
def FSt.total (S : FSt) : Nat := sumN (fun i => (S.cl i).ops.length) S.n
def FSt.doneN (S : FSt) : Nat := sumN (fun i => (S.cl i).done) S.n
theorem upd_map {α : Type} (f : α → Nat) (cl : Nat → α) (c : Nat) (C : α) : (fun i => f (upd cl c C i)) = upd (fun i => f (cl i)) c (f C) := by
  funext i
  by_cases e : i = c
  · subst e; rw [upd_same, upd_same]
  · rw [upd_other _ _ e, upd_other _ _ e]
section
variable {S : FSt} {M : AM} {nf c m : Nat}
theorem FSt.pick_n (nf : Nat) (M : AM) (S : FSt) (c : Nat) : (S.pick nf M c).2.2.n = S.n := by
  unfold FSt.pick
  repeat' split
  all_goals rfl
theorem FSt.pick_ops (nf : Nat) (M : AM) (S : FSt) (c i : Nat) : ((S.pick nf M c).2.2.cl i).ops = (S.cl i).ops := by
  have e : ∀ C : CSt, C.ops = (S.cl c).ops → (upd S.cl c C i).ops = (S.cl i).ops := fun C h => by
    by_cases e : i = c
    · subst e; rw [upd_same]; exact h
    · rw [upd_other _ _ e]
  unfold FSt.pick
  repeat' split
  · rfl
  · exact e _ rfl
  · exact e _ rfl
  · exact e _ rfl
  · rfl
/-- What is done is what was logged, and goes with each Pick that goes on. -/
theorem FSt.pick_done (hc : c < S.n) (h : S.log.length = S.doneN) : (S.pick nf M c).2.2.log.length = (S.pick nf M c).2.2.doneN := by
  have e : ∀ C : CSt, sumN (fun i => (upd S.cl c C i).done) S.n + (S.cl c).done = S.doneN + C.done := fun C => by
    rw [upd_map CSt.done]
    have := sumN_upd (fun i => (S.cl i).done) c C.done S.n
    rw [if_pos hc, if_pos hc] at this
    exact this
  unfold FSt.pick
  repeat' split
  · exact h
  · have := e { S.cl c with st := 2 }
    show S.log.length = sumN _ S.n
    simp only at this ⊢
    omega
  · have := e { S.cl c with done := (S.cl c).done + 1, pin := (M.ccall nf (S.cl c).op (S.cl c).pin).2.2, st := 3 }
    show (S.log ++ [_]).length = sumN _ S.n
    rw [List.length_append]
    simp only [List.length_cons, List.length_nil] at this ⊢
    omega
  · have := e { S.cl c with st := go1 (S.cl c).done (S.cl c).ops.length }
    show S.log.length = sumN _ S.n
    simp only at this ⊢
    omega
  · exact h
theorem FSt.pick_rem (hc : c < S.n) (hok : (S.cl c).Ok m) : ((S.pick nf M c).1 = false → (S.pick nf M c).2.2 = S ∧ (S.pick nf M c).2.1 = M) ∧ ((S.pick nf M c).1 = true → (S.pick nf M c).2.2.rem < S.rem) := by
  have e : ∀ C : CSt, C.rem < (S.cl c).rem → sumN (fun i => (upd S.cl c C i).rem) S.n < S.rem := fun C hl => by
    rw [upd_map CSt.rem]
    have := sumN_upd (fun i => (S.cl i).rem) c C.rem S.n
    rw [if_pos hc, if_pos hc] at this
    show _ < sumN _ S.n
    omega
  unfold FSt.pick
  repeat' split
  · exact ⟨fun _ => ⟨rfl, rfl⟩, fun z => by cases z⟩
  · next h1 _ =>
    refine ⟨fun z => (by cases z), fun _ => e _ ?_⟩
    have := hok.lt (.inl h1)
    unfold CSt.rem
    simp only [h1]
    simp
    omega
  · next h1 h2 =>
    refine ⟨fun z => (by cases z), fun _ => e _ ?_⟩
    have := hok.lt (.inr h2)
    unfold CSt.rem
    simp only [h2]
    simp
    omega
  · next h1 h2 h3 =>
    refine ⟨fun z => (by cases z), fun _ => e _ ?_⟩
    have := hok.dn
    unfold CSt.rem go1
    simp only [h3]
    by_cases hl : (S.cl c).done < (S.cl c).ops.length
    · simp [hl]
    · simp [hl]
  · exact ⟨fun _ => ⟨rfl, rfl⟩, fun z => by cases z⟩
end
end Go.Proofs.YtmpjnphnljakiaaGreatDoor
