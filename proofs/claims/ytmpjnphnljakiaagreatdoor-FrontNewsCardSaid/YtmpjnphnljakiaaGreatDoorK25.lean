/-
  Front: a client's call of the pool, done.
-/
import Derived.Test.YtmpjnphnljakiaaGreatDoorK23
import Derived.Deep.RegionHeld3
import Derived.Test.YtmpjnphnljakiaaGreatDoorK24
namespace Go.Proofs.YtmpjnphnljakiaaGreatDoor
open Go.RowKit Go.Maps
set_option linter.unusedVariables false
set_option linter.unusedSimpArgs false
set_option linter.unusedSectionVars false
set_option maxRecDepth 100000
def anC (a : AnF) : Nat → Value := fun i => match i with | 0 => .int .i64 (a.e : Nat) | 1 => .int .u32 (a.id : Nat) | _ => .int .u64 (a.v : Nat)
theorem anC_put (c : Nat → Value) (a : AnF) {w : World} {g : Nat} (h : Blk w g 3 c) : Blk (((w.setCell ⟨g, 0, none⟩ (.int .i64 (a.e : Nat))).setCell ⟨g, 1, none⟩ (.int .u32 (a.id : Nat))).setCell ⟨g, 2, none⟩ (.int .u64 (a.v : Nat))) g 3 (anC a) :=
  (((h.set 0 (.int .i64 (a.e : Nat))).set 1 (.int .u32 (a.id : Nat))).set 2 (.int .u64 (a.v : Nat))).congr (fun i hi => by
    match i, hi with
    | 0, _ | 1, _ | 2, _ => rfl)
/-- What the client pins, when its call was so answered. -/
def pinX (o : OpF) (a : AnF) (pin : Nat → Nat) : Nat → Nat :=
  if a.e = 0 then (if o.k = 0 then upd pin a.id (pin a.id + 1) else if o.k = 1 then upd pin o.id (pin o.id + 1) else if o.k = 2 then upd pin o.id (pin o.id - 1) else pin) else pin
theorem cntM_no {k : Int} (h : ¬ k = 0 ∧ ¬ k = 1 ∧ ¬ k = 2) : cntM k = none := by
  unfold cntM
  rw [updV_other _ _ h.2.2, updV_other _ _ h.2.1, updV_other _ _ h.1]
/-- What is left of a call: the pool shows M', the pins are pin'. -/
def CallPost (p : PP) (q : Bool) (M' : AM) (m' : Nat) (F : Nat → Prop) (w : World) (mb cnt : Nat) (pin' : Nat → Nat) (w' : World) : Prop :=
  ∃ F' cnt', AnyP p q M' m' w' F' ∧ (∀ i, F' i → F i ∨ w.heap.size ≤ i) ∧ cnt' ≤ cnt + 1 ∧ PinsAt w' mb cnt' (pinM pin') ∧ Fr (fun j => F j ∨ j = mb) w w'
section
variable {p : PP} {q : Bool} {M M' : AM} {m m' : Nat} {w w0 w1 w2 : World} {F : Nat → Prop} {o : OpF} {a : AnF} {b fb i d mb s cnt g : Nat} {ov cv lv : Value} {la : Option Nat} {pin : Nat → Nat} {c : Nat → Value}
/-- The answer is written into a block that was there ahead of the call. -/
theorem put_old (h : Led (AnyP p q M' m') F w1 w2) (f : Fr NoF w0 w1) (hb : Blk w1 g 3 c) (hg : w0.heap.size ≤ g) (hF : ∀ i, F i → i < w0.heap.size) (ht : 0 < w0.heap.size) :
    Led (AnyP p q M' m') F w0 (((w2.setCell ⟨g, 0, none⟩ (.int .i64 (a.e : Nat))).setCell ⟨g, 1, none⟩ (.int .u32 (a.id : Nat))).setCell ⟨g, 2, none⟩ (.int .u64 (a.v : Nat))) ∧ Blk (((w2.setCell ⟨g, 0, none⟩ (.int .i64 (a.e : Nat))).setCell ⟨g, 1, none⟩ (.int .u32 (a.id : Nat))).setCell ⟨g, 2, none⟩ (.int .u64 (a.v : Nat))) g 3 (anC a) ∧ Blk w2 g 3 c := by
  obtain ⟨F', h1, h2, h3⟩ := h
  have nF : ¬ F g := fun k => by have := hF g k; omega
  have nF' : ¬ F' g := fun k => by
    rcases h3 g k with z | z
    · exact nF z
    · have := hb.lt; omega
  have fs : Fr (fun j => j = g) w2 (((w2.setCell ⟨g, 0, none⟩ (.int .i64 (a.e : Nat))).setCell ⟨g, 1, none⟩ (.int .u32 (a.id : Nat))).setCell ⟨g, 2, none⟩ (.int .u64 (a.v : Nat))) := (((Fr.refl (fun j => j = g) w2).setCell (p := ⟨g, 0, none⟩) (.inl rfl) _).setCell (p := ⟨g, 1, none⟩) (.inl rfl) _).setCell (p := ⟨g, 2, none⟩) (.inl rfl) _
  have hb2 := hb.fr h2 nF
  refine ⟨⟨F', h1.fro fs (fun j k e => nF' (e ▸ k)) (fun e => by omega), (f.none.trans h2 (fun j k => .inl k)).trans fs (fun j k => .inr (by omega)), fun j k => ?_⟩, anC_put c a hb2, hb2⟩
  rcases h3 j k with z | z
  · exact .inl z
  · have := f.size; exact .inr (by omega)
/-- .. into one that is new behind it. -/
theorem put_new (h : Led (AnyP p q M' m') F w1 w2) (f : Fr NoF w0 w1) {t : TypeId} :
    Led (AnyP p q M' m') F w0 (w2.alloc (.cells #[.int .i64 (a.e : Nat), .int .u32 (a.id : Nat), .int .u64 (a.v : Nat)] t)) ∧ Blk (w2.alloc (.cells #[.int .i64 (a.e : Nat), .int .u32 (a.id : Nat), .int .u64 (a.v : Nat)] t)) w2.heap.size 3 (anC a) := by
  obtain ⟨F', h1, h2, h3⟩ := h
  refine ⟨⟨F', h1.fr0 ((Fr.refl NoF w2).alloc _), (Fr.trans f.none h2 (F := F) (fun j k => .inl k)).alloc _, fun j k => ?_⟩, (blkAn w2 _ _ _).congr (fun i hi => by
    match i, hi with
    | 0, _ | 1, _ | 2, _ => rfl)⟩
  rcases h3 j k with z | z
  · exact .inl z
  · have := f.size; exact .inr (by omega)
set_option maxHeartbeats 8000000 in
theorem ccall_new (h : AnyP p q M m w F) (ho : o.ok) (hc : Blk w b 5 (clC i ov d mb b s)) (hf : Blk w fb 4 (frC p.ptr cv la lv)) (hp : PinsAt w mb cnt (pinM pin)) (hcn : cnt < 100000) (hpn : ∀ x, pin x < 100000) (ne : ¬ b = mb) (nb : ¬ F b) (nm : ¬ F mb) (nf : ¬ F fb) (ht : 0 < w.heap.size) (tm : ¬ 0 = mb) (hk : o.k = 0) (hl : lackB o pin = false) (ha : a.id < 4294967296)
    (HC : ∀ W, Fr NoF w W → Calls Tryz.prog 32 #[p.ptr, o.val] W fun e w' => e = .returned a.val ∧ Led (AnyP p q M' m') F W w') :
    Calls Tryz.prog 28 #[.pointer (some ⟨b, 0, none⟩), .pointer (some ⟨fb, 0, none⟩), o.val] w fun e w' => e = .returned a.val ∧ CallPost p q M' m' F w mb cnt (pinX o a pin) w' := by
  obtain ⟨k, pg, v⟩ := o
  simp only at hk
  subst hk
  have f0 : Fr NoF w ((w.alloc (.cells #[.int .i64 0, .int .u32 (pg : Nat), .int .u64 (v : Nat)] 73)).alloc (.cells #[.int .i64 0, .int .u32 0, .int .u64 0] 75)) := ((Fr.refl NoF w).alloc _).alloc _
  have b0 := ((blkAn w (.int .i64 0) (.int .u32 (pg : Nat)) (.int .u64 (v : Nat)) (t := 73)).alloc (.cells #[.int .i64 0, .int .u32 0, .int .u64 0] 75))
  have b1 := (blkAn (w.alloc (.cells #[.int .i64 0, .int .u32 (pg : Nat), .int .u64 (v : Nat)] 73)) (.int .i64 0) (.int .u32 0) (.int .u64 0) (t := 75))
  rw [World.size_alloc] at b1
  have hLK := lacks_calls ho (hc.fr f0 id) (hp.fr f0 id)
  rw [hl] at hLK
  have HLK := Lib.hid hLK
  have HO := Lib.hid ho
  have HCC := Lib.hid hc
  have HF := Lib.hid hf
  have HP := Lib.hid hp
  have B0 := Lib.hid b0
  have B1 := Lib.hid b1
  have F0 := Lib.hid f0
  have HX := Lib.hid HC
  have HLT := Lib.hid h.lt
  have HPN := Lib.hid hpn
  have lmw := hp.lt
  have lbw := hc.lt
  clear h b0 b1 hc hf hp hl ho hLK f0 HC hpn
  unfold OpF.val
  go_enter Tryz.func28, Tryz.ntmps28
  go_wp2_with fail
  refine HLK.out.mono ?_
  clear HLK
  rintro e w1 ⟨rfl, f1⟩
  have hs1 : w.heap.size + 1 + 1 ≤ w1.heap.size := by have q := f1.size; simp only [World.size_alloc] at q; exact q
  have B0 := Lib.hid (B0.out.fr f1 id)
  have B1 := Lib.hid (B1.out.fr f1 id)
  have F1 := Lib.hid (F0.out.trans f1 (fun _ q => q.elim))
  clear f1 F0
  have KS : Hid (∀ W, Fr F w1 W → W.cell? ⟨fb, 0, none⟩ = some p.ptr ∧ W.cell? ⟨w.heap.size, 0, none⟩ = some (.int .i64 0) ∧ W.cell? ⟨w.heap.size, 1, none⟩ = some (.int .u32 (pg : Nat)) ∧ W.cell? ⟨w.heap.size, 2, none⟩ = some (.int .u64 (v : Nat))) := Lib.hid fun W f => by
    have hb0 := B0.out.fr f (fun k => by have := HLT.out _ k; omega)
    have hff := (HF.out.fr F1.out id).fr f nf
    exact ⟨hff.cell (i := 0) (by omega), hb0.cell (i := 0) (by omega), hb0.cell (i := 1) (by omega), hb0.cell (i := 2) (by omega)⟩
  have lf := (HF.out.fr F1.out id).lt
  have l0 := B0.out.lt
  go_upto_region 5 with fail
  obtain ⟨wz, hwz⟩ : ∃ x, x = w1 := ⟨_, rfl⟩
  subst hwz
  have HCW : Hid (∀ W, Fr NoF wz W → Calls Tryz.prog 32 #[p.ptr, .agg #[.int .i64 0, .int .u32 (pg : Nat), .int .u64 (v : Nat)]] W fun e w' => e = .returned a.val ∧ Led (AnyP p q M' m') F W w') := Lib.hid fun W f => HX.out W (F1.out.trans f (fun _ q => q.elim))
  have LK : Hid (∀ W w2, Fr NoF wz W → Led (AnyP p q M' m') F W w2 → (fun w' => w'.cell? ⟨fb, 0, none⟩ = some p.ptr ∧ w'.cell? ⟨w.heap.size, 0, none⟩ = some (.int .i64 0) ∧ w'.cell? ⟨w.heap.size, 1, none⟩ = some (.int .u32 (pg : Nat)) ∧ w'.cell? ⟨w.heap.size, 2, none⟩ = some (.int .u64 (v : Nat))) w2) := Lib.hid fun W w2 f ⟨F', _, g, _⟩ => KS.out w2 (f.none.trans g (fun i k => .inl k))
  refine region_tail (fun w' => w'.cell? ⟨fb, 0, none⟩ = some p.ptr ∧ w'.cell? ⟨w.heap.size, 0, none⟩ = some (.int .i64 0) ∧ w'.cell? ⟨w.heap.size, 1, none⟩ = some (.int .u32 (pg : Nat)) ∧ w'.cell? ⟨w.heap.size, 2, none⟩ = some (.int .u64 (v : Nat))) 7 (by kernel_rfl) rfl rfl (by kernel_rfl) ?_
  simp only [List.take_succ_cons, List.take_zero]
  have hS : (fun w' => w'.cell? ⟨fb, 0, none⟩ = some p.ptr ∧ w'.cell? ⟨w.heap.size, 0, none⟩ = some (.int .i64 0) ∧ w'.cell? ⟨w.heap.size, 1, none⟩ = some (.int .u32 (pg : Nat)) ∧ w'.cell? ⟨w.heap.size, 2, none⟩ = some (.int .u64 (v : Nat))) wz.drew := KS.out _ ((Fr.refl F _).drew)
  refine wpAnyH_take (i := 0) (v := ?_) rfl (by decide +kernel) (by decide +kernel) (by decide +kernel) (fun _ _ _ h => h) (Or.inl ⟨by rfl, ?_⟩) hS ?_
  rotate_left
  · intro wS hSw; (try dsimp only at hSw); go_simp
    try with_reducible rfl
  try simp only [Act.put, List.setIfInBounds_toArray, List.set_cons_zero, List.set_cons_succ]
  refine wpAnyH_take (i := 1) (v := ?_) rfl (by decide +kernel) (by decide +kernel) (by decide +kernel) (fun _ _ _ h => h) (Or.inl ⟨by rfl, ?_⟩) hS ?_
  rotate_left
  · intro wS hSw; (try dsimp only at hSw); go_simp
    try with_reducible rfl
  try simp only [Act.put, List.setIfInBounds_toArray, List.set_cons_zero, List.set_cons_succ]
  refine wpAnyH_take (i := 2) (v := ?_) rfl (by decide +kernel) (by decide +kernel) (by decide +kernel) (fun _ _ _ h => h) (Or.inl ⟨by rfl, ?_⟩) hS ?_
  rotate_left
  · intro wS hSw; (try dsimp only at hSw); go_simp
    try with_reducible rfl
  try simp only [Act.put, List.setIfInBounds_toArray, List.set_cons_zero, List.set_cons_succ]
  refine wpAnyH_take (i := 3) (v := ?_) rfl (by decide +kernel) (by decide +kernel) (by decide +kernel) (fun _ _ _ h => h) (Or.inl ⟨by rfl, ?_⟩) hS ?_
  rotate_left
  · intro wS hSw; (try dsimp only at hSw); go_simp
    try with_reducible rfl
  try simp only [Act.put, List.setIfInBounds_toArray, List.set_cons_zero, List.set_cons_succ]
  refine wpAnyH_take (i := 4) (v := ?_) rfl (by decide +kernel) (by decide +kernel) (by decide +kernel) (fun _ _ _ h => h) (Or.inl ⟨by rfl, ?_⟩) hS ?_
  rotate_left
  · intro wS hSw; (try dsimp only at hSw); go_simp
    try with_reducible rfl
  try simp only [Act.put, List.setIfInBounds_toArray, List.set_cons_zero, List.set_cons_succ]
  clear hS
  refine wpAnyH_ready (rs := [5, 6]) (by kernel_rfl) (by simp) ?_
  refine AllReadyH.cons rfl (fun K hK => ?_) ?_
  · go_simp; go_at_call 32; (with_reducible refine (HCW.out _ (by repeat (first | exact Fr.refl NoF _ | apply Fr.drew | apply Fr.drewN | apply Fr.alloc))).mono ?_); rintro e w2 ⟨rfl, hl2⟩; have HLD := Lib.hid hl2; have KC : Hid (∀ W, Fr NoF w2 W → (fun w' => w'.cell? ⟨fb, 0, none⟩ = some p.ptr ∧ w'.cell? ⟨w.heap.size, 0, none⟩ = some (.int .i64 0) ∧ w'.cell? ⟨w.heap.size, 1, none⟩ = some (.int .u32 (pg : Nat)) ∧ w'.cell? ⟨w.heap.size, 2, none⟩ = some (.int .u64 (v : Nat))) W) := Lib.hid (fun W f => by obtain ⟨F', _, g, _⟩ := hl2; exact KS.out W (Fr.trans (Fr.trans (F := F) (by repeat (first | exact Fr.refl F _ | apply Fr.drew | apply Fr.drewN | apply Fr.alloc)) g (fun i k => .inl k)) f (fun i k => k.elim))); unfold AnF.val; clear hl2; go_wp2_with fail
    refine hK.out _ _ (by first | (refine KC.out _ ?_; (repeat (first | exact Fr.refl NoF _ | apply Fr.drew | apply Fr.drewN | apply Fr.alloc)); done) | (refine KS.out _ ?_; (repeat (first | exact Fr.refl F _ | apply Fr.drew | apply Fr.drewN | apply Fr.alloc)); done)) (fun hS => ?_)
    clear hK K
    try simp only [Act.put, List.setIfInBounds_toArray, List.set_cons_zero, List.set_cons_succ]
    refine wpAnyH_ready (rs := [6]) (by kernel_rfl) (by simp) ?_
    refine AllReadyH.cons rfl (fun K hK => ?_) ?_
    · go_simp
      refine hK.out _ _ (by first | (refine KC.out _ ?_; (repeat (first | exact Fr.refl NoF _ | apply Fr.drew | apply Fr.drewN | apply Fr.alloc)); done) | (refine KS.out _ ?_; (repeat (first | exact Fr.refl F _ | apply Fr.drew | apply Fr.drewN | apply Fr.alloc)); done)) (fun hS => ?_)
      clear hK K
      try simp only [Act.put, List.setIfInBounds_toArray, List.set_cons_zero, List.set_cons_succ]
      refine wpAnyH_done (by kernel_rfl) ?_ _
      show wpList _ _ _ _ _ _
      have hN := put_new (a := a) (w0 := wz) (t := 75) HLD.out (Fr.drew (Fr.refl NoF wz))
      have HL3 := Lib.hid hN.1
      have HB3 := Lib.hid hN.2
      have lg : wz.heap.size ≤ w2.heap.size := by obtain ⟨F', _, g, _⟩ := HLD.out; exact g.size
      clear hN HLD KC hS
      go_upto_region 6 with fail
      generalize (w2.alloc (.cells #[.int .i64 (a.e : Nat), .int .u32 (a.id : Nat), .int .u64 (a.v : Nat)] 75)) = w3 at *
      generalize w2.heap.size = g at *
      obtain ⟨F', h3, fr3, hF3⟩ := HL3.out
      have HC3 := Lib.hid ((HCC.out.fr F1.out id).fr fr3 nb)
      have HP3 := Lib.hid ((HP.out.fr F1.out id).fr fr3 nm)
      have B0 := Lib.hid (B0.out.fr fr3 (fun k => by have := HLT.out _ k; omega))
      have B1 := Lib.hid (B1.out.fr fr3 (fun k => by have := HLT.out _ k; omega))
      have H3 := Lib.hid h3
      have FR3 := Lib.hid fr3
      have HF3 := Lib.hid hF3
      clear h3 fr3 hF3 HL3 KS LK HCC HP HX HCW HF
      have KO : Hid (∀ W, Fr NoF w3 W → W.cell? ⟨w.heap.size, 0, none⟩ = some (.int .i64 0)) := Lib.hid fun W f => (B0.out.fr f id).cell (i := 0) (by omega)
      go_region_held3 (fun w' => w'.cell? ⟨w.heap.size, 0, none⟩ = some (.int .i64 0))
        (first | (refine KO.out _ ?_; (repeat (first | exact Fr.refl NoF _ | exact HW4.out | apply Fr.drew | apply Fr.drewN | apply Fr.alloc)); done))
        (first | (go_at_call 33; (with_reducible refine (counting_calls _).mono ?_); rintro e w4 ⟨rfl, ⟨cc, hcm⟩, f4⟩; have HW4 : Hid (Fr NoF w3 w4) := Lib.hid (Fr.trans (F := NoF) (by repeat (first | exact Fr.refl NoF _ | apply Fr.drew | apply Fr.drewN)) f4 (fun i k => k.elim)); have hlk := hcm.look_ok_run MVc (x := 0) (i64wf (by decide)); rw [show cntM 0 = some (.func (.func 43) #[] #[]) from rfl] at hlk; simp only [Option.getD_some, Option.isSome_some] at hlk; (try rw [show w3.drew.heap.size = w3.heap.size from rfl] at hlk); clear hcm f4))
      have HB4 := HB3.out.fr HW4.out id
      have B04 := B0.out.fr HW4.out id
      have B14 := B1.out.fr HW4.out id
      have HC4 := Lib.hid (HC3.out.fr HW4.out id)
      have HP4 := Lib.hid (HP3.out.fr HW4.out id)
      have H4 := Lib.hid (H3.out.fr0 HW4.out)
      have lw3 := (FR3.out.trans HW4.out (fun _ k => k.elim)).size
      have s0 := HB4.cell (i := 0) (by omega)
      have s1 := HB4.cell (i := 1) (by omega)
      have s2 := HB4.cell (i := 2) (by omega)
      have sl := HB4.lt
      have o0 := B04.cell (i := 0) (by omega)
      have o1 := B04.cell (i := 1) (by omega)
      have o2 := B04.cell (i := 2) (by omega)
      have ol := B04.lt
      simp only [anC] at s0 s1 s2
      simp only at o0 o1 o2
      have HB4 := Lib.hid HB4
      have B14 := Lib.hid B14
      have B04 := Lib.hid B04
      by_cases hz : a.e = 0
      · have hzB : (((a.e : Nat) : Int) == 0) = true := by rw [hz]; rfl
        have HZ := Lib.hid hz
        clear hz
        have HPX : Hid (pinX ⟨0, pg, v⟩ a pin = upd pin a.id (pin a.id + 1)) := Lib.hid (by unfold pinX; rw [if_pos HZ.out]; rfl)
        go_wp2_with fail
        (try simp only [OpF.val, AnF.val] at *)
        refine (made_calls (o := ⟨0, pg, v⟩) ha hcn (HPN.out _) HC4.out HP4.out ne).mono ?_
        rintro e w5 ⟨rfl, ⟨cnt5, hc5, hp5⟩, f5⟩
        have HP5 : Hid (PinsAt w5 mb cnt5 (pinM (pinX ⟨0, pg, v⟩ a pin))) := Lib.hid (by rw [HPX.out]; exact hp5)
        have B15 := Lib.hid (B14.out.fr f5 (fun k => by omega))
        have HB5 := HB4.out.fr f5 (fun k => by omega)
        have s0 := HB5.cell (i := 0) (by omega)
        have s1 := HB5.cell (i := 1) (by omega)
        have s2 := HB5.cell (i := 2) (by omega)
        have sl := HB5.lt
        simp only [anC] at s0 s1 s2
        have H5 := Lib.hid (H4.out.fro f5 (fun i k e => by rcases HF3.out i k with z | z; (exact nm (e ▸ z)); (omega)) tm)
        have FW : Hid (Fr (fun j => F j ∨ j = mb) w w5) := Lib.hid ((((F1.out.none.trans FR3.out (fun j k => .inl k)).trans HW4.out (fun _ k => k.elim)).mono (fun j k => .inl k)).trans f5 (fun j k => .inl (.inr k)))
        clear hp5 f5 HB5
        have t0 := B15.out.cell (i := 0) (by omega)
        have t1 := B15.out.cell (i := 1) (by omega)
        have t2 := B15.out.cell (i := 2) (by omega)
        have u0 := B15.out.frozen 0
        have u1 := B15.out.frozen 1
        have u2 := B15.out.frozen 2
        have ul := B15.out.lt
        simp only at t0 t1 t2
        have HR := Lib.hid (anC_put _ a B15.out)
        have fs : Fr (fun j => j = w.heap.size + 1) w5 (((w5.setCell ⟨w.heap.size + 1, 0, none⟩ (.int .i64 (a.e : Nat))).setCell ⟨w.heap.size + 1, 1, none⟩ (.int .u32 (a.id : Nat))).setCell ⟨w.heap.size + 1, 2, none⟩ (.int .u64 (a.v : Nat))) := (((Fr.refl (fun j => j = w.heap.size + 1) _).setCell (p := ⟨w.heap.size + 1, 0, none⟩) (.inl rfl) _).setCell (p := ⟨w.heap.size + 1, 1, none⟩) (.inl rfl) _).setCell (p := ⟨w.heap.size + 1, 2, none⟩) (.inl rfl) _
        have HL : Hid (CallPost p q M' m' F w mb cnt (pinX ⟨0, pg, v⟩ a pin) (((w5.setCell ⟨w.heap.size + 1, 0, none⟩ (.int .i64 (a.e : Nat))).setCell ⟨w.heap.size + 1, 1, none⟩ (.int .u32 (a.id : Nat))).setCell ⟨w.heap.size + 1, 2, none⟩ (.int .u64 (a.v : Nat)))) := Lib.hid (by
          refine ⟨F', _, H5.out.fro fs (fun j k (e : j = w.heap.size + 1) => ?_) (fun (e : _ = w.heap.size + 1) => by omega), fun j k => ?_, hc5, (HP5.out.fr fs (fun (e : mb = w.heap.size + 1) => by omega)), (FW.out).trans fs (fun j (e : j = w.heap.size + 1) => .inr (by omega))⟩
          · subst e; rcases HF3.out _ k with z | z
            · have := HLT.out _ z; omega
            · omega
          · rcases HF3.out j k with z | z
            · exact .inl z
            · exact .inr (by omega))
        clear fs
        go_wp2_with fail
        (try simp only [Exit.inBlock, Exit.then])
        refine bodyPost_ret (results_blk Tryz.results28 _ _ HR.out rfl Tryz.underlying75 rfl (by kernel_rfl)) rfl ?_
        exact ⟨rfl, HL.out⟩
      · have hzB : (((a.e : Nat) : Int) == 0) = false := by simpa using hz
        have HZ := Lib.hid hz
        clear hz
        have HP5 : Hid (PinsAt w4 mb cnt (pinM (pinX ⟨0, pg, v⟩ a pin))) := Lib.hid (by unfold pinX; rw [if_neg HZ.out]; exact HP4.out)
        have FW : Hid (Fr (fun j => F j ∨ j = mb) w w4) := Lib.hid (((F1.out.none.trans FR3.out (fun j k => .inl k)).trans HW4.out (fun _ k => k.elim)).mono (fun j k => .inl k))
        have t0 := B14.out.cell (i := 0) (by omega)
        have t1 := B14.out.cell (i := 1) (by omega)
        have t2 := B14.out.cell (i := 2) (by omega)
        have u0 := B14.out.frozen 0
        have u1 := B14.out.frozen 1
        have u2 := B14.out.frozen 2
        have ul := B14.out.lt
        simp only at t0 t1 t2
        have HR := Lib.hid (anC_put _ a B14.out)
        have fs : Fr (fun j => j = w.heap.size + 1) w4 (((w4.setCell ⟨w.heap.size + 1, 0, none⟩ (.int .i64 (a.e : Nat))).setCell ⟨w.heap.size + 1, 1, none⟩ (.int .u32 (a.id : Nat))).setCell ⟨w.heap.size + 1, 2, none⟩ (.int .u64 (a.v : Nat))) := (((Fr.refl (fun j => j = w.heap.size + 1) _).setCell (p := ⟨w.heap.size + 1, 0, none⟩) (.inl rfl) _).setCell (p := ⟨w.heap.size + 1, 1, none⟩) (.inl rfl) _).setCell (p := ⟨w.heap.size + 1, 2, none⟩) (.inl rfl) _
        have HL : Hid (CallPost p q M' m' F w mb cnt (pinX ⟨0, pg, v⟩ a pin) (((w4.setCell ⟨w.heap.size + 1, 0, none⟩ (.int .i64 (a.e : Nat))).setCell ⟨w.heap.size + 1, 1, none⟩ (.int .u32 (a.id : Nat))).setCell ⟨w.heap.size + 1, 2, none⟩ (.int .u64 (a.v : Nat)))) := Lib.hid (by
          refine ⟨F', _, H4.out.fro fs (fun j k (e : j = w.heap.size + 1) => ?_) (fun (e : _ = w.heap.size + 1) => by omega), fun j k => ?_, Nat.le_succ _, (HP5.out.fr fs (fun (e : mb = w.heap.size + 1) => by omega)), (FW.out).trans fs (fun j (e : j = w.heap.size + 1) => .inr (by omega))⟩
          · subst e; rcases HF3.out _ k with z | z
            · have := HLT.out _ z; omega
            · omega
          · rcases HF3.out j k with z | z
            · exact .inl z
            · exact .inr (by omega))
        clear fs
        go_wp2_with fail
        (try simp only [Exit.inBlock, Exit.then])
        refine bodyPost_ret (results_blk Tryz.results28 _ _ HR.out rfl Tryz.underlying75 rfl (by kernel_rfl)) rfl ?_
        exact ⟨rfl, HL.out⟩
    exact AllReadyH.nil
  refine AllReadyH.cons rfl (fun K hK => ?_) ?_
  · go_simp
    refine hK.out _ _ (by first | (refine KC.out _ ?_; (repeat (first | exact Fr.refl NoF _ | apply Fr.drew | apply Fr.drewN | apply Fr.alloc)); done) | (refine KS.out _ ?_; (repeat (first | exact Fr.refl F _ | apply Fr.drew | apply Fr.drewN | apply Fr.alloc)); done)) (fun hS => ?_)
    clear hK K
    try simp only [Act.put, List.setIfInBounds_toArray, List.set_cons_zero, List.set_cons_succ]
    refine wpAnyH_ready (rs := [5]) (by kernel_rfl) (by simp) ?_
    refine AllReadyH.cons rfl (fun K hK => ?_) ?_
    · go_simp; go_at_call 32; (with_reducible refine (HCW.out _ (by repeat (first | exact Fr.refl NoF _ | apply Fr.drew | apply Fr.drewN | apply Fr.alloc))).mono ?_); rintro e w2 ⟨rfl, hl2⟩; have HLD := Lib.hid hl2; have KC : Hid (∀ W, Fr NoF w2 W → (fun w' => w'.cell? ⟨fb, 0, none⟩ = some p.ptr ∧ w'.cell? ⟨w.heap.size, 0, none⟩ = some (.int .i64 0) ∧ w'.cell? ⟨w.heap.size, 1, none⟩ = some (.int .u32 (pg : Nat)) ∧ w'.cell? ⟨w.heap.size, 2, none⟩ = some (.int .u64 (v : Nat))) W) := Lib.hid (fun W f => by obtain ⟨F', _, g, _⟩ := hl2; exact KS.out W (Fr.trans (Fr.trans (F := F) (by repeat (first | exact Fr.refl F _ | apply Fr.drew | apply Fr.drewN | apply Fr.alloc)) g (fun i k => .inl k)) f (fun i k => k.elim))); unfold AnF.val; clear hl2; go_wp2_with fail
      refine hK.out _ _ (by first | (refine KC.out _ ?_; (repeat (first | exact Fr.refl NoF _ | apply Fr.drew | apply Fr.drewN | apply Fr.alloc)); done) | (refine KS.out _ ?_; (repeat (first | exact Fr.refl F _ | apply Fr.drew | apply Fr.drewN | apply Fr.alloc)); done)) (fun hS => ?_)
      clear hK K
      try simp only [Act.put, List.setIfInBounds_toArray, List.set_cons_zero, List.set_cons_succ]
      refine wpAnyH_done (by kernel_rfl) ?_ _
      show wpList _ _ _ _ _ _
      have ht1 : 0 < wz.heap.size := by omega
      have hN := put_old (a := a) (w0 := wz) (g := wz.heap.size) HLD.out ((Fr.drew (Fr.refl NoF wz)).alloc _) (blkAn wz.drew (.int .i64 0) (.int .u32 0) (.int .u64 0) (t := 75)) (Nat.le_refl _) (fun i k => by have := HLT.out i k; omega) ht1
      have hbn := hN.2.2
      have x0 := hbn.cell (i := 0) (by omega)
      have x1 := hbn.cell (i := 1) (by omega)
      have x2 := hbn.cell (i := 2) (by omega)
      have y0 := hbn.frozen 0
      have y1 := hbn.frozen 1
      have y2 := hbn.frozen 2
      have ly := hbn.lt
      (try simp only [zAn] at x0 x1 x2)
      (try simp only at x0 x1 x2)
      have HL3 := Lib.hid hN.1
      have HB3 := Lib.hid hN.2.1
      have lg : wz.heap.size ≤ wz.heap.size := Nat.le_refl _
      clear hN hbn HLD KC hS
      go_upto_region 6 with fail
      clear x0 x1 x2 y0 y1 y2 ly
      generalize (((w2.setCell ⟨wz.heap.size, 0, none⟩ (.int .i64 (a.e : Nat))).setCell ⟨wz.heap.size, 1, none⟩ (.int .u32 (a.id : Nat))).setCell ⟨wz.heap.size, 2, none⟩ (.int .u64 (a.v : Nat))) = w3 at *
      obtain ⟨g, hgz⟩ : ∃ g, g = wz.heap.size := ⟨_, rfl⟩
      rw [← hgz]
      rw [← hgz] at HB3
      have lg : wz.heap.size ≤ g := Nat.le_of_eq hgz.symm
      clear hgz
      obtain ⟨F', h3, fr3, hF3⟩ := HL3.out
      have HC3 := Lib.hid ((HCC.out.fr F1.out id).fr fr3 nb)
      have HP3 := Lib.hid ((HP.out.fr F1.out id).fr fr3 nm)
      have B0 := Lib.hid (B0.out.fr fr3 (fun k => by have := HLT.out _ k; omega))
      have B1 := Lib.hid (B1.out.fr fr3 (fun k => by have := HLT.out _ k; omega))
      have H3 := Lib.hid h3
      have FR3 := Lib.hid fr3
      have HF3 := Lib.hid hF3
      clear h3 fr3 hF3 HL3 KS LK HCC HP HX HCW HF
      have KO : Hid (∀ W, Fr NoF w3 W → W.cell? ⟨w.heap.size, 0, none⟩ = some (.int .i64 0)) := Lib.hid fun W f => (B0.out.fr f id).cell (i := 0) (by omega)
      go_region_held3 (fun w' => w'.cell? ⟨w.heap.size, 0, none⟩ = some (.int .i64 0))
        (first | (refine KO.out _ ?_; (repeat (first | exact Fr.refl NoF _ | exact HW4.out | apply Fr.drew | apply Fr.drewN | apply Fr.alloc)); done))
        (first | (go_at_call 33; (with_reducible refine (counting_calls _).mono ?_); rintro e w4 ⟨rfl, ⟨cc, hcm⟩, f4⟩; have HW4 : Hid (Fr NoF w3 w4) := Lib.hid (Fr.trans (F := NoF) (by repeat (first | exact Fr.refl NoF _ | apply Fr.drew | apply Fr.drewN)) f4 (fun i k => k.elim)); have hlk := hcm.look_ok_run MVc (x := 0) (i64wf (by decide)); rw [show cntM 0 = some (.func (.func 43) #[] #[]) from rfl] at hlk; simp only [Option.getD_some, Option.isSome_some] at hlk; (try rw [show w3.drew.heap.size = w3.heap.size from rfl] at hlk); clear hcm f4))
      have HB4 := HB3.out.fr HW4.out id
      have B04 := B0.out.fr HW4.out id
      have B14 := B1.out.fr HW4.out id
      have HC4 := Lib.hid (HC3.out.fr HW4.out id)
      have HP4 := Lib.hid (HP3.out.fr HW4.out id)
      have H4 := Lib.hid (H3.out.fr0 HW4.out)
      have lw3 := (FR3.out.trans HW4.out (fun _ k => k.elim)).size
      have s0 := HB4.cell (i := 0) (by omega)
      have s1 := HB4.cell (i := 1) (by omega)
      have s2 := HB4.cell (i := 2) (by omega)
      have sl := HB4.lt
      have o0 := B04.cell (i := 0) (by omega)
      have o1 := B04.cell (i := 1) (by omega)
      have o2 := B04.cell (i := 2) (by omega)
      have ol := B04.lt
      simp only [anC] at s0 s1 s2
      simp only at o0 o1 o2
      have HB4 := Lib.hid HB4
      have B14 := Lib.hid B14
      have B04 := Lib.hid B04
      by_cases hz : a.e = 0
      · have hzB : (((a.e : Nat) : Int) == 0) = true := by rw [hz]; rfl
        have HZ := Lib.hid hz
        clear hz
        have HPX : Hid (pinX ⟨0, pg, v⟩ a pin = upd pin a.id (pin a.id + 1)) := Lib.hid (by unfold pinX; rw [if_pos HZ.out]; rfl)
        go_wp2_with fail
        (try simp only [OpF.val, AnF.val] at *)
        refine (made_calls (o := ⟨0, pg, v⟩) ha hcn (HPN.out _) HC4.out HP4.out ne).mono ?_
        rintro e w5 ⟨rfl, ⟨cnt5, hc5, hp5⟩, f5⟩
        have HP5 : Hid (PinsAt w5 mb cnt5 (pinM (pinX ⟨0, pg, v⟩ a pin))) := Lib.hid (by rw [HPX.out]; exact hp5)
        have B15 := Lib.hid (B14.out.fr f5 (fun k => by omega))
        have HB5 := HB4.out.fr f5 (fun k => by omega)
        have s0 := HB5.cell (i := 0) (by omega)
        have s1 := HB5.cell (i := 1) (by omega)
        have s2 := HB5.cell (i := 2) (by omega)
        have sl := HB5.lt
        simp only [anC] at s0 s1 s2
        have H5 := Lib.hid (H4.out.fro f5 (fun i k e => by rcases HF3.out i k with z | z; (exact nm (e ▸ z)); (omega)) tm)
        have FW : Hid (Fr (fun j => F j ∨ j = mb) w w5) := Lib.hid ((((F1.out.none.trans FR3.out (fun j k => .inl k)).trans HW4.out (fun _ k => k.elim)).mono (fun j k => .inl k)).trans f5 (fun j k => .inl (.inr k)))
        clear hp5 f5 HB5
        have t0 := B15.out.cell (i := 0) (by omega)
        have t1 := B15.out.cell (i := 1) (by omega)
        have t2 := B15.out.cell (i := 2) (by omega)
        have u0 := B15.out.frozen 0
        have u1 := B15.out.frozen 1
        have u2 := B15.out.frozen 2
        have ul := B15.out.lt
        simp only at t0 t1 t2
        have HR := Lib.hid (anC_put _ a B15.out)
        have fs : Fr (fun j => j = w.heap.size + 1) w5 (((w5.setCell ⟨w.heap.size + 1, 0, none⟩ (.int .i64 (a.e : Nat))).setCell ⟨w.heap.size + 1, 1, none⟩ (.int .u32 (a.id : Nat))).setCell ⟨w.heap.size + 1, 2, none⟩ (.int .u64 (a.v : Nat))) := (((Fr.refl (fun j => j = w.heap.size + 1) _).setCell (p := ⟨w.heap.size + 1, 0, none⟩) (.inl rfl) _).setCell (p := ⟨w.heap.size + 1, 1, none⟩) (.inl rfl) _).setCell (p := ⟨w.heap.size + 1, 2, none⟩) (.inl rfl) _
        have HL : Hid (CallPost p q M' m' F w mb cnt (pinX ⟨0, pg, v⟩ a pin) (((w5.setCell ⟨w.heap.size + 1, 0, none⟩ (.int .i64 (a.e : Nat))).setCell ⟨w.heap.size + 1, 1, none⟩ (.int .u32 (a.id : Nat))).setCell ⟨w.heap.size + 1, 2, none⟩ (.int .u64 (a.v : Nat)))) := Lib.hid (by
          refine ⟨F', _, H5.out.fro fs (fun j k (e : j = w.heap.size + 1) => ?_) (fun (e : _ = w.heap.size + 1) => by omega), fun j k => ?_, hc5, (HP5.out.fr fs (fun (e : mb = w.heap.size + 1) => by omega)), (FW.out).trans fs (fun j (e : j = w.heap.size + 1) => .inr (by omega))⟩
          · subst e; rcases HF3.out _ k with z | z
            · have := HLT.out _ z; omega
            · omega
          · rcases HF3.out j k with z | z
            · exact .inl z
            · exact .inr (by omega))
        clear fs
        go_wp2_with fail
        (try simp only [Exit.inBlock, Exit.then])
        refine bodyPost_ret (results_blk Tryz.results28 _ _ HR.out rfl Tryz.underlying75 rfl (by kernel_rfl)) rfl ?_
        exact ⟨rfl, HL.out⟩
      · have hzB : (((a.e : Nat) : Int) == 0) = false := by simpa using hz
        have HZ := Lib.hid hz
        clear hz
        have HP5 : Hid (PinsAt w4 mb cnt (pinM (pinX ⟨0, pg, v⟩ a pin))) := Lib.hid (by unfold pinX; rw [if_neg HZ.out]; exact HP4.out)
        have FW : Hid (Fr (fun j => F j ∨ j = mb) w w4) := Lib.hid (((F1.out.none.trans FR3.out (fun j k => .inl k)).trans HW4.out (fun _ k => k.elim)).mono (fun j k => .inl k))
        have t0 := B14.out.cell (i := 0) (by omega)
        have t1 := B14.out.cell (i := 1) (by omega)
        have t2 := B14.out.cell (i := 2) (by omega)
        have u0 := B14.out.frozen 0
        have u1 := B14.out.frozen 1
        have u2 := B14.out.frozen 2
        have ul := B14.out.lt
        simp only at t0 t1 t2
        have HR := Lib.hid (anC_put _ a B14.out)
        have fs : Fr (fun j => j = w.heap.size + 1) w4 (((w4.setCell ⟨w.heap.size + 1, 0, none⟩ (.int .i64 (a.e : Nat))).setCell ⟨w.heap.size + 1, 1, none⟩ (.int .u32 (a.id : Nat))).setCell ⟨w.heap.size + 1, 2, none⟩ (.int .u64 (a.v : Nat))) := (((Fr.refl (fun j => j = w.heap.size + 1) _).setCell (p := ⟨w.heap.size + 1, 0, none⟩) (.inl rfl) _).setCell (p := ⟨w.heap.size + 1, 1, none⟩) (.inl rfl) _).setCell (p := ⟨w.heap.size + 1, 2, none⟩) (.inl rfl) _
        have HL : Hid (CallPost p q M' m' F w mb cnt (pinX ⟨0, pg, v⟩ a pin) (((w4.setCell ⟨w.heap.size + 1, 0, none⟩ (.int .i64 (a.e : Nat))).setCell ⟨w.heap.size + 1, 1, none⟩ (.int .u32 (a.id : Nat))).setCell ⟨w.heap.size + 1, 2, none⟩ (.int .u64 (a.v : Nat)))) := Lib.hid (by
          refine ⟨F', _, H4.out.fro fs (fun j k (e : j = w.heap.size + 1) => ?_) (fun (e : _ = w.heap.size + 1) => by omega), fun j k => ?_, Nat.le_succ _, (HP5.out.fr fs (fun (e : mb = w.heap.size + 1) => by omega)), (FW.out).trans fs (fun j (e : j = w.heap.size + 1) => .inr (by omega))⟩
          · subst e; rcases HF3.out _ k with z | z
            · have := HLT.out _ z; omega
            · omega
          · rcases HF3.out j k with z | z
            · exact .inl z
            · exact .inr (by omega))
        clear fs
        go_wp2_with fail
        (try simp only [Exit.inBlock, Exit.then])
        refine bodyPost_ret (results_blk Tryz.results28 _ _ HR.out rfl Tryz.underlying75 rfl (by kernel_rfl)) rfl ?_
        exact ⟨rfl, HL.out⟩
    exact AllReadyH.nil
  exact AllReadyH.nil
set_option maxHeartbeats 8000000 in
theorem ccall_fetch (h : AnyP p q M m w F) (ho : o.ok) (hc : Blk w b 5 (clC i ov d mb b s)) (hf : Blk w fb 4 (frC p.ptr cv la lv)) (hp : PinsAt w mb cnt (pinM pin)) (hcn : cnt < 100000) (hpn : ∀ x, pin x < 100000) (ne : ¬ b = mb) (nb : ¬ F b) (nm : ¬ F mb) (nf : ¬ F fb) (ht : 0 < w.heap.size) (tm : ¬ 0 = mb) (hk : o.k = 1) (hl : lackB o pin = false) (ha : a.id < 4294967296)
    (HC : ∀ W, Fr NoF w W → Calls Tryz.prog 32 #[p.ptr, o.val] W fun e w' => e = .returned a.val ∧ Led (AnyP p q M' m') F W w') :
    Calls Tryz.prog 28 #[.pointer (some ⟨b, 0, none⟩), .pointer (some ⟨fb, 0, none⟩), o.val] w fun e w' => e = .returned a.val ∧ CallPost p q M' m' F w mb cnt (pinX o a pin) w' := by
  obtain ⟨k, pg, v⟩ := o
  simp only at hk
  subst hk
  have f0 : Fr NoF w ((w.alloc (.cells #[.int .i64 1, .int .u32 (pg : Nat), .int .u64 (v : Nat)] 73)).alloc (.cells #[.int .i64 0, .int .u32 0, .int .u64 0] 75)) := ((Fr.refl NoF w).alloc _).alloc _
  have b0 := ((blkAn w (.int .i64 1) (.int .u32 (pg : Nat)) (.int .u64 (v : Nat)) (t := 73)).alloc (.cells #[.int .i64 0, .int .u32 0, .int .u64 0] 75))
  have b1 := (blkAn (w.alloc (.cells #[.int .i64 1, .int .u32 (pg : Nat), .int .u64 (v : Nat)] 73)) (.int .i64 0) (.int .u32 0) (.int .u64 0) (t := 75))
  rw [World.size_alloc] at b1
  have hLK := lacks_calls ho (hc.fr f0 id) (hp.fr f0 id)
  rw [hl] at hLK
  have HLK := Lib.hid hLK
  have HO := Lib.hid ho
  have HCC := Lib.hid hc
  have HF := Lib.hid hf
  have HP := Lib.hid hp
  have B0 := Lib.hid b0
  have B1 := Lib.hid b1
  have F0 := Lib.hid f0
  have HX := Lib.hid HC
  have HLT := Lib.hid h.lt
  have HPN := Lib.hid hpn
  have lmw := hp.lt
  have lbw := hc.lt
  clear h b0 b1 hc hf hp hl ho hLK f0 HC hpn
  unfold OpF.val
  go_enter Tryz.func28, Tryz.ntmps28
  go_wp2_with fail
  refine HLK.out.mono ?_
  clear HLK
  rintro e w1 ⟨rfl, f1⟩
  have hs1 : w.heap.size + 1 + 1 ≤ w1.heap.size := by have q := f1.size; simp only [World.size_alloc] at q; exact q
  have B0 := Lib.hid (B0.out.fr f1 id)
  have B1 := Lib.hid (B1.out.fr f1 id)
  have F1 := Lib.hid (F0.out.trans f1 (fun _ q => q.elim))
  clear f1 F0
  have KS : Hid (∀ W, Fr F w1 W → W.cell? ⟨fb, 0, none⟩ = some p.ptr ∧ W.cell? ⟨w.heap.size, 0, none⟩ = some (.int .i64 1) ∧ W.cell? ⟨w.heap.size, 1, none⟩ = some (.int .u32 (pg : Nat)) ∧ W.cell? ⟨w.heap.size, 2, none⟩ = some (.int .u64 (v : Nat))) := Lib.hid fun W f => by
    have hb0 := B0.out.fr f (fun k => by have := HLT.out _ k; omega)
    have hff := (HF.out.fr F1.out id).fr f nf
    exact ⟨hff.cell (i := 0) (by omega), hb0.cell (i := 0) (by omega), hb0.cell (i := 1) (by omega), hb0.cell (i := 2) (by omega)⟩
  have lf := (HF.out.fr F1.out id).lt
  have l0 := B0.out.lt
  go_upto_region 5 with fail
  obtain ⟨wz, hwz⟩ : ∃ x, x = w1 := ⟨_, rfl⟩
  subst hwz
  have HCW : Hid (∀ W, Fr NoF wz W → Calls Tryz.prog 32 #[p.ptr, .agg #[.int .i64 1, .int .u32 (pg : Nat), .int .u64 (v : Nat)]] W fun e w' => e = .returned a.val ∧ Led (AnyP p q M' m') F W w') := Lib.hid fun W f => HX.out W (F1.out.trans f (fun _ q => q.elim))
  have LK : Hid (∀ W w2, Fr NoF wz W → Led (AnyP p q M' m') F W w2 → (fun w' => w'.cell? ⟨fb, 0, none⟩ = some p.ptr ∧ w'.cell? ⟨w.heap.size, 0, none⟩ = some (.int .i64 1) ∧ w'.cell? ⟨w.heap.size, 1, none⟩ = some (.int .u32 (pg : Nat)) ∧ w'.cell? ⟨w.heap.size, 2, none⟩ = some (.int .u64 (v : Nat))) w2) := Lib.hid fun W w2 f ⟨F', _, g, _⟩ => KS.out w2 (f.none.trans g (fun i k => .inl k))
  refine region_tail (fun w' => w'.cell? ⟨fb, 0, none⟩ = some p.ptr ∧ w'.cell? ⟨w.heap.size, 0, none⟩ = some (.int .i64 1) ∧ w'.cell? ⟨w.heap.size, 1, none⟩ = some (.int .u32 (pg : Nat)) ∧ w'.cell? ⟨w.heap.size, 2, none⟩ = some (.int .u64 (v : Nat))) 7 (by kernel_rfl) rfl rfl (by kernel_rfl) ?_
  simp only [List.take_succ_cons, List.take_zero]
  have hS : (fun w' => w'.cell? ⟨fb, 0, none⟩ = some p.ptr ∧ w'.cell? ⟨w.heap.size, 0, none⟩ = some (.int .i64 1) ∧ w'.cell? ⟨w.heap.size, 1, none⟩ = some (.int .u32 (pg : Nat)) ∧ w'.cell? ⟨w.heap.size, 2, none⟩ = some (.int .u64 (v : Nat))) wz.drew := KS.out _ ((Fr.refl F _).drew)
  refine wpAnyH_take (i := 0) (v := ?_) rfl (by decide +kernel) (by decide +kernel) (by decide +kernel) (fun _ _ _ h => h) (Or.inl ⟨by rfl, ?_⟩) hS ?_
  rotate_left
  · intro wS hSw; (try dsimp only at hSw); go_simp
    try with_reducible rfl
  try simp only [Act.put, List.setIfInBounds_toArray, List.set_cons_zero, List.set_cons_succ]
  refine wpAnyH_take (i := 1) (v := ?_) rfl (by decide +kernel) (by decide +kernel) (by decide +kernel) (fun _ _ _ h => h) (Or.inl ⟨by rfl, ?_⟩) hS ?_
  rotate_left
  · intro wS hSw; (try dsimp only at hSw); go_simp
    try with_reducible rfl
  try simp only [Act.put, List.setIfInBounds_toArray, List.set_cons_zero, List.set_cons_succ]
  refine wpAnyH_take (i := 2) (v := ?_) rfl (by decide +kernel) (by decide +kernel) (by decide +kernel) (fun _ _ _ h => h) (Or.inl ⟨by rfl, ?_⟩) hS ?_
  rotate_left
  · intro wS hSw; (try dsimp only at hSw); go_simp
    try with_reducible rfl
  try simp only [Act.put, List.setIfInBounds_toArray, List.set_cons_zero, List.set_cons_succ]
  refine wpAnyH_take (i := 3) (v := ?_) rfl (by decide +kernel) (by decide +kernel) (by decide +kernel) (fun _ _ _ h => h) (Or.inl ⟨by rfl, ?_⟩) hS ?_
  rotate_left
  · intro wS hSw; (try dsimp only at hSw); go_simp
    try with_reducible rfl
  try simp only [Act.put, List.setIfInBounds_toArray, List.set_cons_zero, List.set_cons_succ]
  refine wpAnyH_take (i := 4) (v := ?_) rfl (by decide +kernel) (by decide +kernel) (by decide +kernel) (fun _ _ _ h => h) (Or.inl ⟨by rfl, ?_⟩) hS ?_
  rotate_left
  · intro wS hSw; (try dsimp only at hSw); go_simp
    try with_reducible rfl
  try simp only [Act.put, List.setIfInBounds_toArray, List.set_cons_zero, List.set_cons_succ]
  clear hS
  refine wpAnyH_ready (rs := [5, 6]) (by kernel_rfl) (by simp) ?_
  refine AllReadyH.cons rfl (fun K hK => ?_) ?_
  · go_simp; go_at_call 32; (with_reducible refine (HCW.out _ (by repeat (first | exact Fr.refl NoF _ | apply Fr.drew | apply Fr.drewN | apply Fr.alloc))).mono ?_); rintro e w2 ⟨rfl, hl2⟩; have HLD := Lib.hid hl2; have KC : Hid (∀ W, Fr NoF w2 W → (fun w' => w'.cell? ⟨fb, 0, none⟩ = some p.ptr ∧ w'.cell? ⟨w.heap.size, 0, none⟩ = some (.int .i64 1) ∧ w'.cell? ⟨w.heap.size, 1, none⟩ = some (.int .u32 (pg : Nat)) ∧ w'.cell? ⟨w.heap.size, 2, none⟩ = some (.int .u64 (v : Nat))) W) := Lib.hid (fun W f => by obtain ⟨F', _, g, _⟩ := hl2; exact KS.out W (Fr.trans (Fr.trans (F := F) (by repeat (first | exact Fr.refl F _ | apply Fr.drew | apply Fr.drewN | apply Fr.alloc)) g (fun i k => .inl k)) f (fun i k => k.elim))); unfold AnF.val; clear hl2; go_wp2_with fail
    refine hK.out _ _ (by first | (refine KC.out _ ?_; (repeat (first | exact Fr.refl NoF _ | apply Fr.drew | apply Fr.drewN | apply Fr.alloc)); done) | (refine KS.out _ ?_; (repeat (first | exact Fr.refl F _ | apply Fr.drew | apply Fr.drewN | apply Fr.alloc)); done)) (fun hS => ?_)
    clear hK K
    try simp only [Act.put, List.setIfInBounds_toArray, List.set_cons_zero, List.set_cons_succ]
    refine wpAnyH_ready (rs := [6]) (by kernel_rfl) (by simp) ?_
    refine AllReadyH.cons rfl (fun K hK => ?_) ?_
    · go_simp
      refine hK.out _ _ (by first | (refine KC.out _ ?_; (repeat (first | exact Fr.refl NoF _ | apply Fr.drew | apply Fr.drewN | apply Fr.alloc)); done) | (refine KS.out _ ?_; (repeat (first | exact Fr.refl F _ | apply Fr.drew | apply Fr.drewN | apply Fr.alloc)); done)) (fun hS => ?_)
      clear hK K
      try simp only [Act.put, List.setIfInBounds_toArray, List.set_cons_zero, List.set_cons_succ]
      refine wpAnyH_done (by kernel_rfl) ?_ _
      show wpList _ _ _ _ _ _
      have hN := put_new (a := a) (w0 := wz) (t := 75) HLD.out (Fr.drew (Fr.refl NoF wz))
      have HL3 := Lib.hid hN.1
      have HB3 := Lib.hid hN.2
      have lg : wz.heap.size ≤ w2.heap.size := by obtain ⟨F', _, g, _⟩ := HLD.out; exact g.size
      clear hN HLD KC hS
      go_upto_region 6 with fail
      generalize (w2.alloc (.cells #[.int .i64 (a.e : Nat), .int .u32 (a.id : Nat), .int .u64 (a.v : Nat)] 75)) = w3 at *
      generalize w2.heap.size = g at *
      obtain ⟨F', h3, fr3, hF3⟩ := HL3.out
      have HC3 := Lib.hid ((HCC.out.fr F1.out id).fr fr3 nb)
      have HP3 := Lib.hid ((HP.out.fr F1.out id).fr fr3 nm)
      have B0 := Lib.hid (B0.out.fr fr3 (fun k => by have := HLT.out _ k; omega))
      have B1 := Lib.hid (B1.out.fr fr3 (fun k => by have := HLT.out _ k; omega))
      have H3 := Lib.hid h3
      have FR3 := Lib.hid fr3
      have HF3 := Lib.hid hF3
      clear h3 fr3 hF3 HL3 KS LK HCC HP HX HCW HF
      have KO : Hid (∀ W, Fr NoF w3 W → W.cell? ⟨w.heap.size, 0, none⟩ = some (.int .i64 1)) := Lib.hid fun W f => (B0.out.fr f id).cell (i := 0) (by omega)
      go_region_held3 (fun w' => w'.cell? ⟨w.heap.size, 0, none⟩ = some (.int .i64 1))
        (first | (refine KO.out _ ?_; (repeat (first | exact Fr.refl NoF _ | exact HW4.out | apply Fr.drew | apply Fr.drewN | apply Fr.alloc)); done))
        (first | (go_at_call 33; (with_reducible refine (counting_calls _).mono ?_); rintro e w4 ⟨rfl, ⟨cc, hcm⟩, f4⟩; have HW4 : Hid (Fr NoF w3 w4) := Lib.hid (Fr.trans (F := NoF) (by repeat (first | exact Fr.refl NoF _ | apply Fr.drew | apply Fr.drewN)) f4 (fun i k => k.elim)); have hlk := hcm.look_ok_run MVc (x := 1) (i64wf (by decide)); rw [show cntM 1 = some (.func (.func 44) #[] #[]) from rfl] at hlk; simp only [Option.getD_some, Option.isSome_some] at hlk; (try rw [show w3.drew.heap.size = w3.heap.size from rfl] at hlk); clear hcm f4))
      have HB4 := HB3.out.fr HW4.out id
      have B04 := B0.out.fr HW4.out id
      have B14 := B1.out.fr HW4.out id
      have HC4 := Lib.hid (HC3.out.fr HW4.out id)
      have HP4 := Lib.hid (HP3.out.fr HW4.out id)
      have H4 := Lib.hid (H3.out.fr0 HW4.out)
      have lw3 := (FR3.out.trans HW4.out (fun _ k => k.elim)).size
      have s0 := HB4.cell (i := 0) (by omega)
      have s1 := HB4.cell (i := 1) (by omega)
      have s2 := HB4.cell (i := 2) (by omega)
      have sl := HB4.lt
      have o0 := B04.cell (i := 0) (by omega)
      have o1 := B04.cell (i := 1) (by omega)
      have o2 := B04.cell (i := 2) (by omega)
      have ol := B04.lt
      simp only [anC] at s0 s1 s2
      simp only at o0 o1 o2
      have HB4 := Lib.hid HB4
      have B14 := Lib.hid B14
      have B04 := Lib.hid B04
      by_cases hz : a.e = 0
      · have hzB : (((a.e : Nat) : Int) == 0) = true := by rw [hz]; rfl
        have HZ := Lib.hid hz
        clear hz
        have HPX : Hid (pinX ⟨1, pg, v⟩ a pin = upd pin pg (pin pg + 1)) := Lib.hid (by unfold pinX; rw [if_pos HZ.out]; rfl)
        go_wp2_with fail
        (try simp only [OpF.val, AnF.val] at *)
        refine (fetched_calls (o := ⟨1, pg, v⟩) (a := a) HO.out hcn (HPN.out _) HC4.out HP4.out ne).mono ?_
        rintro e w5 ⟨rfl, ⟨cnt5, hc5, hp5⟩, f5⟩
        have HP5 : Hid (PinsAt w5 mb cnt5 (pinM (pinX ⟨1, pg, v⟩ a pin))) := Lib.hid (by rw [HPX.out]; exact hp5)
        have B15 := Lib.hid (B14.out.fr f5 (fun k => by omega))
        have HB5 := HB4.out.fr f5 (fun k => by omega)
        have s0 := HB5.cell (i := 0) (by omega)
        have s1 := HB5.cell (i := 1) (by omega)
        have s2 := HB5.cell (i := 2) (by omega)
        have sl := HB5.lt
        simp only [anC] at s0 s1 s2
        have H5 := Lib.hid (H4.out.fro f5 (fun i k e => by rcases HF3.out i k with z | z; (exact nm (e ▸ z)); (omega)) tm)
        have FW : Hid (Fr (fun j => F j ∨ j = mb) w w5) := Lib.hid ((((F1.out.none.trans FR3.out (fun j k => .inl k)).trans HW4.out (fun _ k => k.elim)).mono (fun j k => .inl k)).trans f5 (fun j k => .inl (.inr k)))
        clear hp5 f5 HB5
        have t0 := B15.out.cell (i := 0) (by omega)
        have t1 := B15.out.cell (i := 1) (by omega)
        have t2 := B15.out.cell (i := 2) (by omega)
        have u0 := B15.out.frozen 0
        have u1 := B15.out.frozen 1
        have u2 := B15.out.frozen 2
        have ul := B15.out.lt
        simp only at t0 t1 t2
        have HR := Lib.hid (anC_put _ a B15.out)
        have fs : Fr (fun j => j = w.heap.size + 1) w5 (((w5.setCell ⟨w.heap.size + 1, 0, none⟩ (.int .i64 (a.e : Nat))).setCell ⟨w.heap.size + 1, 1, none⟩ (.int .u32 (a.id : Nat))).setCell ⟨w.heap.size + 1, 2, none⟩ (.int .u64 (a.v : Nat))) := (((Fr.refl (fun j => j = w.heap.size + 1) _).setCell (p := ⟨w.heap.size + 1, 0, none⟩) (.inl rfl) _).setCell (p := ⟨w.heap.size + 1, 1, none⟩) (.inl rfl) _).setCell (p := ⟨w.heap.size + 1, 2, none⟩) (.inl rfl) _
        have HL : Hid (CallPost p q M' m' F w mb cnt (pinX ⟨1, pg, v⟩ a pin) (((w5.setCell ⟨w.heap.size + 1, 0, none⟩ (.int .i64 (a.e : Nat))).setCell ⟨w.heap.size + 1, 1, none⟩ (.int .u32 (a.id : Nat))).setCell ⟨w.heap.size + 1, 2, none⟩ (.int .u64 (a.v : Nat)))) := Lib.hid (by
          refine ⟨F', _, H5.out.fro fs (fun j k (e : j = w.heap.size + 1) => ?_) (fun (e : _ = w.heap.size + 1) => by omega), fun j k => ?_, hc5, (HP5.out.fr fs (fun (e : mb = w.heap.size + 1) => by omega)), (FW.out).trans fs (fun j (e : j = w.heap.size + 1) => .inr (by omega))⟩
          · subst e; rcases HF3.out _ k with z | z
            · have := HLT.out _ z; omega
            · omega
          · rcases HF3.out j k with z | z
            · exact .inl z
            · exact .inr (by omega))
        clear fs
        go_wp2_with fail
        (try simp only [Exit.inBlock, Exit.then])
        refine bodyPost_ret (results_blk Tryz.results28 _ _ HR.out rfl Tryz.underlying75 rfl (by kernel_rfl)) rfl ?_
        exact ⟨rfl, HL.out⟩
      · have hzB : (((a.e : Nat) : Int) == 0) = false := by simpa using hz
        have HZ := Lib.hid hz
        clear hz
        have HP5 : Hid (PinsAt w4 mb cnt (pinM (pinX ⟨1, pg, v⟩ a pin))) := Lib.hid (by unfold pinX; rw [if_neg HZ.out]; exact HP4.out)
        have FW : Hid (Fr (fun j => F j ∨ j = mb) w w4) := Lib.hid (((F1.out.none.trans FR3.out (fun j k => .inl k)).trans HW4.out (fun _ k => k.elim)).mono (fun j k => .inl k))
        have t0 := B14.out.cell (i := 0) (by omega)
        have t1 := B14.out.cell (i := 1) (by omega)
        have t2 := B14.out.cell (i := 2) (by omega)
        have u0 := B14.out.frozen 0
        have u1 := B14.out.frozen 1
        have u2 := B14.out.frozen 2
        have ul := B14.out.lt
        simp only at t0 t1 t2
        have HR := Lib.hid (anC_put _ a B14.out)
        have fs : Fr (fun j => j = w.heap.size + 1) w4 (((w4.setCell ⟨w.heap.size + 1, 0, none⟩ (.int .i64 (a.e : Nat))).setCell ⟨w.heap.size + 1, 1, none⟩ (.int .u32 (a.id : Nat))).setCell ⟨w.heap.size + 1, 2, none⟩ (.int .u64 (a.v : Nat))) := (((Fr.refl (fun j => j = w.heap.size + 1) _).setCell (p := ⟨w.heap.size + 1, 0, none⟩) (.inl rfl) _).setCell (p := ⟨w.heap.size + 1, 1, none⟩) (.inl rfl) _).setCell (p := ⟨w.heap.size + 1, 2, none⟩) (.inl rfl) _
        have HL : Hid (CallPost p q M' m' F w mb cnt (pinX ⟨1, pg, v⟩ a pin) (((w4.setCell ⟨w.heap.size + 1, 0, none⟩ (.int .i64 (a.e : Nat))).setCell ⟨w.heap.size + 1, 1, none⟩ (.int .u32 (a.id : Nat))).setCell ⟨w.heap.size + 1, 2, none⟩ (.int .u64 (a.v : Nat)))) := Lib.hid (by
          refine ⟨F', _, H4.out.fro fs (fun j k (e : j = w.heap.size + 1) => ?_) (fun (e : _ = w.heap.size + 1) => by omega), fun j k => ?_, Nat.le_succ _, (HP5.out.fr fs (fun (e : mb = w.heap.size + 1) => by omega)), (FW.out).trans fs (fun j (e : j = w.heap.size + 1) => .inr (by omega))⟩
          · subst e; rcases HF3.out _ k with z | z
            · have := HLT.out _ z; omega
            · omega
          · rcases HF3.out j k with z | z
            · exact .inl z
            · exact .inr (by omega))
        clear fs
        go_wp2_with fail
        (try simp only [Exit.inBlock, Exit.then])
        refine bodyPost_ret (results_blk Tryz.results28 _ _ HR.out rfl Tryz.underlying75 rfl (by kernel_rfl)) rfl ?_
        exact ⟨rfl, HL.out⟩
    exact AllReadyH.nil
  refine AllReadyH.cons rfl (fun K hK => ?_) ?_
  · go_simp
    refine hK.out _ _ (by first | (refine KC.out _ ?_; (repeat (first | exact Fr.refl NoF _ | apply Fr.drew | apply Fr.drewN | apply Fr.alloc)); done) | (refine KS.out _ ?_; (repeat (first | exact Fr.refl F _ | apply Fr.drew | apply Fr.drewN | apply Fr.alloc)); done)) (fun hS => ?_)
    clear hK K
    try simp only [Act.put, List.setIfInBounds_toArray, List.set_cons_zero, List.set_cons_succ]
    refine wpAnyH_ready (rs := [5]) (by kernel_rfl) (by simp) ?_
    refine AllReadyH.cons rfl (fun K hK => ?_) ?_
    · go_simp; go_at_call 32; (with_reducible refine (HCW.out _ (by repeat (first | exact Fr.refl NoF _ | apply Fr.drew | apply Fr.drewN | apply Fr.alloc))).mono ?_); rintro e w2 ⟨rfl, hl2⟩; have HLD := Lib.hid hl2; have KC : Hid (∀ W, Fr NoF w2 W → (fun w' => w'.cell? ⟨fb, 0, none⟩ = some p.ptr ∧ w'.cell? ⟨w.heap.size, 0, none⟩ = some (.int .i64 1) ∧ w'.cell? ⟨w.heap.size, 1, none⟩ = some (.int .u32 (pg : Nat)) ∧ w'.cell? ⟨w.heap.size, 2, none⟩ = some (.int .u64 (v : Nat))) W) := Lib.hid (fun W f => by obtain ⟨F', _, g, _⟩ := hl2; exact KS.out W (Fr.trans (Fr.trans (F := F) (by repeat (first | exact Fr.refl F _ | apply Fr.drew | apply Fr.drewN | apply Fr.alloc)) g (fun i k => .inl k)) f (fun i k => k.elim))); unfold AnF.val; clear hl2; go_wp2_with fail
      refine hK.out _ _ (by first | (refine KC.out _ ?_; (repeat (first | exact Fr.refl NoF _ | apply Fr.drew | apply Fr.drewN | apply Fr.alloc)); done) | (refine KS.out _ ?_; (repeat (first | exact Fr.refl F _ | apply Fr.drew | apply Fr.drewN | apply Fr.alloc)); done)) (fun hS => ?_)
      clear hK K
      try simp only [Act.put, List.setIfInBounds_toArray, List.set_cons_zero, List.set_cons_succ]
      refine wpAnyH_done (by kernel_rfl) ?_ _
      show wpList _ _ _ _ _ _
      have ht1 : 0 < wz.heap.size := by omega
      have hN := put_old (a := a) (w0 := wz) (g := wz.heap.size) HLD.out ((Fr.drew (Fr.refl NoF wz)).alloc _) (blkAn wz.drew (.int .i64 0) (.int .u32 0) (.int .u64 0) (t := 75)) (Nat.le_refl _) (fun i k => by have := HLT.out i k; omega) ht1
      have hbn := hN.2.2
      have x0 := hbn.cell (i := 0) (by omega)
      have x1 := hbn.cell (i := 1) (by omega)
      have x2 := hbn.cell (i := 2) (by omega)
      have y0 := hbn.frozen 0
      have y1 := hbn.frozen 1
      have y2 := hbn.frozen 2
      have ly := hbn.lt
      (try simp only [zAn] at x0 x1 x2)
      (try simp only at x0 x1 x2)
      have HL3 := Lib.hid hN.1
      have HB3 := Lib.hid hN.2.1
      have lg : wz.heap.size ≤ wz.heap.size := Nat.le_refl _
      clear hN hbn HLD KC hS
      go_upto_region 6 with fail
      clear x0 x1 x2 y0 y1 y2 ly
      generalize (((w2.setCell ⟨wz.heap.size, 0, none⟩ (.int .i64 (a.e : Nat))).setCell ⟨wz.heap.size, 1, none⟩ (.int .u32 (a.id : Nat))).setCell ⟨wz.heap.size, 2, none⟩ (.int .u64 (a.v : Nat))) = w3 at *
      obtain ⟨g, hgz⟩ : ∃ g, g = wz.heap.size := ⟨_, rfl⟩
      rw [← hgz]
      rw [← hgz] at HB3
      have lg : wz.heap.size ≤ g := Nat.le_of_eq hgz.symm
      clear hgz
      obtain ⟨F', h3, fr3, hF3⟩ := HL3.out
      have HC3 := Lib.hid ((HCC.out.fr F1.out id).fr fr3 nb)
      have HP3 := Lib.hid ((HP.out.fr F1.out id).fr fr3 nm)
      have B0 := Lib.hid (B0.out.fr fr3 (fun k => by have := HLT.out _ k; omega))
      have B1 := Lib.hid (B1.out.fr fr3 (fun k => by have := HLT.out _ k; omega))
      have H3 := Lib.hid h3
      have FR3 := Lib.hid fr3
      have HF3 := Lib.hid hF3
      clear h3 fr3 hF3 HL3 KS LK HCC HP HX HCW HF
      have KO : Hid (∀ W, Fr NoF w3 W → W.cell? ⟨w.heap.size, 0, none⟩ = some (.int .i64 1)) := Lib.hid fun W f => (B0.out.fr f id).cell (i := 0) (by omega)
      go_region_held3 (fun w' => w'.cell? ⟨w.heap.size, 0, none⟩ = some (.int .i64 1))
        (first | (refine KO.out _ ?_; (repeat (first | exact Fr.refl NoF _ | exact HW4.out | apply Fr.drew | apply Fr.drewN | apply Fr.alloc)); done))
        (first | (go_at_call 33; (with_reducible refine (counting_calls _).mono ?_); rintro e w4 ⟨rfl, ⟨cc, hcm⟩, f4⟩; have HW4 : Hid (Fr NoF w3 w4) := Lib.hid (Fr.trans (F := NoF) (by repeat (first | exact Fr.refl NoF _ | apply Fr.drew | apply Fr.drewN)) f4 (fun i k => k.elim)); have hlk := hcm.look_ok_run MVc (x := 1) (i64wf (by decide)); rw [show cntM 1 = some (.func (.func 44) #[] #[]) from rfl] at hlk; simp only [Option.getD_some, Option.isSome_some] at hlk; (try rw [show w3.drew.heap.size = w3.heap.size from rfl] at hlk); clear hcm f4))
      have HB4 := HB3.out.fr HW4.out id
      have B04 := B0.out.fr HW4.out id
      have B14 := B1.out.fr HW4.out id
      have HC4 := Lib.hid (HC3.out.fr HW4.out id)
      have HP4 := Lib.hid (HP3.out.fr HW4.out id)
      have H4 := Lib.hid (H3.out.fr0 HW4.out)
      have lw3 := (FR3.out.trans HW4.out (fun _ k => k.elim)).size
      have s0 := HB4.cell (i := 0) (by omega)
      have s1 := HB4.cell (i := 1) (by omega)
      have s2 := HB4.cell (i := 2) (by omega)
      have sl := HB4.lt
      have o0 := B04.cell (i := 0) (by omega)
      have o1 := B04.cell (i := 1) (by omega)
      have o2 := B04.cell (i := 2) (by omega)
      have ol := B04.lt
      simp only [anC] at s0 s1 s2
      simp only at o0 o1 o2
      have HB4 := Lib.hid HB4
      have B14 := Lib.hid B14
      have B04 := Lib.hid B04
      by_cases hz : a.e = 0
      · have hzB : (((a.e : Nat) : Int) == 0) = true := by rw [hz]; rfl
        have HZ := Lib.hid hz
        clear hz
        have HPX : Hid (pinX ⟨1, pg, v⟩ a pin = upd pin pg (pin pg + 1)) := Lib.hid (by unfold pinX; rw [if_pos HZ.out]; rfl)
        go_wp2_with fail
        (try simp only [OpF.val, AnF.val] at *)
        refine (fetched_calls (o := ⟨1, pg, v⟩) (a := a) HO.out hcn (HPN.out _) HC4.out HP4.out ne).mono ?_
        rintro e w5 ⟨rfl, ⟨cnt5, hc5, hp5⟩, f5⟩
        have HP5 : Hid (PinsAt w5 mb cnt5 (pinM (pinX ⟨1, pg, v⟩ a pin))) := Lib.hid (by rw [HPX.out]; exact hp5)
        have B15 := Lib.hid (B14.out.fr f5 (fun k => by omega))
        have HB5 := HB4.out.fr f5 (fun k => by omega)
        have s0 := HB5.cell (i := 0) (by omega)
        have s1 := HB5.cell (i := 1) (by omega)
        have s2 := HB5.cell (i := 2) (by omega)
        have sl := HB5.lt
        simp only [anC] at s0 s1 s2
        have H5 := Lib.hid (H4.out.fro f5 (fun i k e => by rcases HF3.out i k with z | z; (exact nm (e ▸ z)); (omega)) tm)
        have FW : Hid (Fr (fun j => F j ∨ j = mb) w w5) := Lib.hid ((((F1.out.none.trans FR3.out (fun j k => .inl k)).trans HW4.out (fun _ k => k.elim)).mono (fun j k => .inl k)).trans f5 (fun j k => .inl (.inr k)))
        clear hp5 f5 HB5
        have t0 := B15.out.cell (i := 0) (by omega)
        have t1 := B15.out.cell (i := 1) (by omega)
        have t2 := B15.out.cell (i := 2) (by omega)
        have u0 := B15.out.frozen 0
        have u1 := B15.out.frozen 1
        have u2 := B15.out.frozen 2
        have ul := B15.out.lt
        simp only at t0 t1 t2
        have HR := Lib.hid (anC_put _ a B15.out)
        have fs : Fr (fun j => j = w.heap.size + 1) w5 (((w5.setCell ⟨w.heap.size + 1, 0, none⟩ (.int .i64 (a.e : Nat))).setCell ⟨w.heap.size + 1, 1, none⟩ (.int .u32 (a.id : Nat))).setCell ⟨w.heap.size + 1, 2, none⟩ (.int .u64 (a.v : Nat))) := (((Fr.refl (fun j => j = w.heap.size + 1) _).setCell (p := ⟨w.heap.size + 1, 0, none⟩) (.inl rfl) _).setCell (p := ⟨w.heap.size + 1, 1, none⟩) (.inl rfl) _).setCell (p := ⟨w.heap.size + 1, 2, none⟩) (.inl rfl) _
        have HL : Hid (CallPost p q M' m' F w mb cnt (pinX ⟨1, pg, v⟩ a pin) (((w5.setCell ⟨w.heap.size + 1, 0, none⟩ (.int .i64 (a.e : Nat))).setCell ⟨w.heap.size + 1, 1, none⟩ (.int .u32 (a.id : Nat))).setCell ⟨w.heap.size + 1, 2, none⟩ (.int .u64 (a.v : Nat)))) := Lib.hid (by
          refine ⟨F', _, H5.out.fro fs (fun j k (e : j = w.heap.size + 1) => ?_) (fun (e : _ = w.heap.size + 1) => by omega), fun j k => ?_, hc5, (HP5.out.fr fs (fun (e : mb = w.heap.size + 1) => by omega)), (FW.out).trans fs (fun j (e : j = w.heap.size + 1) => .inr (by omega))⟩
          · subst e; rcases HF3.out _ k with z | z
            · have := HLT.out _ z; omega
            · omega
          · rcases HF3.out j k with z | z
            · exact .inl z
            · exact .inr (by omega))
        clear fs
        go_wp2_with fail
        (try simp only [Exit.inBlock, Exit.then])
        refine bodyPost_ret (results_blk Tryz.results28 _ _ HR.out rfl Tryz.underlying75 rfl (by kernel_rfl)) rfl ?_
        exact ⟨rfl, HL.out⟩
      · have hzB : (((a.e : Nat) : Int) == 0) = false := by simpa using hz
        have HZ := Lib.hid hz
        clear hz
        have HP5 : Hid (PinsAt w4 mb cnt (pinM (pinX ⟨1, pg, v⟩ a pin))) := Lib.hid (by unfold pinX; rw [if_neg HZ.out]; exact HP4.out)
        have FW : Hid (Fr (fun j => F j ∨ j = mb) w w4) := Lib.hid (((F1.out.none.trans FR3.out (fun j k => .inl k)).trans HW4.out (fun _ k => k.elim)).mono (fun j k => .inl k))
        have t0 := B14.out.cell (i := 0) (by omega)
        have t1 := B14.out.cell (i := 1) (by omega)
        have t2 := B14.out.cell (i := 2) (by omega)
        have u0 := B14.out.frozen 0
        have u1 := B14.out.frozen 1
        have u2 := B14.out.frozen 2
        have ul := B14.out.lt
        simp only at t0 t1 t2
        have HR := Lib.hid (anC_put _ a B14.out)
        have fs : Fr (fun j => j = w.heap.size + 1) w4 (((w4.setCell ⟨w.heap.size + 1, 0, none⟩ (.int .i64 (a.e : Nat))).setCell ⟨w.heap.size + 1, 1, none⟩ (.int .u32 (a.id : Nat))).setCell ⟨w.heap.size + 1, 2, none⟩ (.int .u64 (a.v : Nat))) := (((Fr.refl (fun j => j = w.heap.size + 1) _).setCell (p := ⟨w.heap.size + 1, 0, none⟩) (.inl rfl) _).setCell (p := ⟨w.heap.size + 1, 1, none⟩) (.inl rfl) _).setCell (p := ⟨w.heap.size + 1, 2, none⟩) (.inl rfl) _
        have HL : Hid (CallPost p q M' m' F w mb cnt (pinX ⟨1, pg, v⟩ a pin) (((w4.setCell ⟨w.heap.size + 1, 0, none⟩ (.int .i64 (a.e : Nat))).setCell ⟨w.heap.size + 1, 1, none⟩ (.int .u32 (a.id : Nat))).setCell ⟨w.heap.size + 1, 2, none⟩ (.int .u64 (a.v : Nat)))) := Lib.hid (by
          refine ⟨F', _, H4.out.fro fs (fun j k (e : j = w.heap.size + 1) => ?_) (fun (e : _ = w.heap.size + 1) => by omega), fun j k => ?_, Nat.le_succ _, (HP5.out.fr fs (fun (e : mb = w.heap.size + 1) => by omega)), (FW.out).trans fs (fun j (e : j = w.heap.size + 1) => .inr (by omega))⟩
          · subst e; rcases HF3.out _ k with z | z
            · have := HLT.out _ z; omega
            · omega
          · rcases HF3.out j k with z | z
            · exact .inl z
            · exact .inr (by omega))
        clear fs
        go_wp2_with fail
        (try simp only [Exit.inBlock, Exit.then])
        refine bodyPost_ret (results_blk Tryz.results28 _ _ HR.out rfl Tryz.underlying75 rfl (by kernel_rfl)) rfl ?_
        exact ⟨rfl, HL.out⟩
    exact AllReadyH.nil
  exact AllReadyH.nil
set_option maxHeartbeats 8000000 in
theorem ccall_unpin (h : AnyP p q M m w F) (ho : o.ok) (hc : Blk w b 5 (clC i ov d mb b s)) (hf : Blk w fb 4 (frC p.ptr cv la lv)) (hp : PinsAt w mb cnt (pinM pin)) (hcn : cnt < 100000) (hpn : ∀ x, pin x < 100000) (ne : ¬ b = mb) (nb : ¬ F b) (nm : ¬ F mb) (nf : ¬ F fb) (ht : 0 < w.heap.size) (tm : ¬ 0 = mb) (hk : o.k = 2) (hl : lackB o pin = false) (ha : a.id < 4294967296)
    (HC : ∀ W, Fr NoF w W → Calls Tryz.prog 32 #[p.ptr, o.val] W fun e w' => e = .returned a.val ∧ Led (AnyP p q M' m') F W w') :
    Calls Tryz.prog 28 #[.pointer (some ⟨b, 0, none⟩), .pointer (some ⟨fb, 0, none⟩), o.val] w fun e w' => e = .returned a.val ∧ CallPost p q M' m' F w mb cnt (pinX o a pin) w' := by
  obtain ⟨k, pg, v⟩ := o
  simp only at hk
  subst hk
  have hp1 : 1 ≤ pin pg := by have z := hl; simp [lackB] at z; omega
  have f0 : Fr NoF w ((w.alloc (.cells #[.int .i64 2, .int .u32 (pg : Nat), .int .u64 (v : Nat)] 73)).alloc (.cells #[.int .i64 0, .int .u32 0, .int .u64 0] 75)) := ((Fr.refl NoF w).alloc _).alloc _
  have b0 := ((blkAn w (.int .i64 2) (.int .u32 (pg : Nat)) (.int .u64 (v : Nat)) (t := 73)).alloc (.cells #[.int .i64 0, .int .u32 0, .int .u64 0] 75))
  have b1 := (blkAn (w.alloc (.cells #[.int .i64 2, .int .u32 (pg : Nat), .int .u64 (v : Nat)] 73)) (.int .i64 0) (.int .u32 0) (.int .u64 0) (t := 75))
  rw [World.size_alloc] at b1
  have hLK := lacks_calls ho (hc.fr f0 id) (hp.fr f0 id)
  rw [hl] at hLK
  have HLK := Lib.hid hLK
  have HO := Lib.hid ho
  have HCC := Lib.hid hc
  have HF := Lib.hid hf
  have HP := Lib.hid hp
  have B0 := Lib.hid b0
  have B1 := Lib.hid b1
  have F0 := Lib.hid f0
  have HX := Lib.hid HC
  have HLT := Lib.hid h.lt
  have HPN := Lib.hid hpn
  have lmw := hp.lt
  have lbw := hc.lt
  clear h b0 b1 hc hf hp hl ho hLK f0 HC hpn
  unfold OpF.val
  go_enter Tryz.func28, Tryz.ntmps28
  go_wp2_with fail
  refine HLK.out.mono ?_
  clear HLK
  rintro e w1 ⟨rfl, f1⟩
  have hs1 : w.heap.size + 1 + 1 ≤ w1.heap.size := by have q := f1.size; simp only [World.size_alloc] at q; exact q
  have B0 := Lib.hid (B0.out.fr f1 id)
  have B1 := Lib.hid (B1.out.fr f1 id)
  have F1 := Lib.hid (F0.out.trans f1 (fun _ q => q.elim))
  clear f1 F0
  have KS : Hid (∀ W, Fr F w1 W → W.cell? ⟨fb, 0, none⟩ = some p.ptr ∧ W.cell? ⟨w.heap.size, 0, none⟩ = some (.int .i64 2) ∧ W.cell? ⟨w.heap.size, 1, none⟩ = some (.int .u32 (pg : Nat)) ∧ W.cell? ⟨w.heap.size, 2, none⟩ = some (.int .u64 (v : Nat))) := Lib.hid fun W f => by
    have hb0 := B0.out.fr f (fun k => by have := HLT.out _ k; omega)
    have hff := (HF.out.fr F1.out id).fr f nf
    exact ⟨hff.cell (i := 0) (by omega), hb0.cell (i := 0) (by omega), hb0.cell (i := 1) (by omega), hb0.cell (i := 2) (by omega)⟩
  have lf := (HF.out.fr F1.out id).lt
  have l0 := B0.out.lt
  go_upto_region 5 with fail
  obtain ⟨wz, hwz⟩ : ∃ x, x = w1 := ⟨_, rfl⟩
  subst hwz
  have HCW : Hid (∀ W, Fr NoF wz W → Calls Tryz.prog 32 #[p.ptr, .agg #[.int .i64 2, .int .u32 (pg : Nat), .int .u64 (v : Nat)]] W fun e w' => e = .returned a.val ∧ Led (AnyP p q M' m') F W w') := Lib.hid fun W f => HX.out W (F1.out.trans f (fun _ q => q.elim))
  have LK : Hid (∀ W w2, Fr NoF wz W → Led (AnyP p q M' m') F W w2 → (fun w' => w'.cell? ⟨fb, 0, none⟩ = some p.ptr ∧ w'.cell? ⟨w.heap.size, 0, none⟩ = some (.int .i64 2) ∧ w'.cell? ⟨w.heap.size, 1, none⟩ = some (.int .u32 (pg : Nat)) ∧ w'.cell? ⟨w.heap.size, 2, none⟩ = some (.int .u64 (v : Nat))) w2) := Lib.hid fun W w2 f ⟨F', _, g, _⟩ => KS.out w2 (f.none.trans g (fun i k => .inl k))
  refine region_tail (fun w' => w'.cell? ⟨fb, 0, none⟩ = some p.ptr ∧ w'.cell? ⟨w.heap.size, 0, none⟩ = some (.int .i64 2) ∧ w'.cell? ⟨w.heap.size, 1, none⟩ = some (.int .u32 (pg : Nat)) ∧ w'.cell? ⟨w.heap.size, 2, none⟩ = some (.int .u64 (v : Nat))) 7 (by kernel_rfl) rfl rfl (by kernel_rfl) ?_
  simp only [List.take_succ_cons, List.take_zero]
  have hS : (fun w' => w'.cell? ⟨fb, 0, none⟩ = some p.ptr ∧ w'.cell? ⟨w.heap.size, 0, none⟩ = some (.int .i64 2) ∧ w'.cell? ⟨w.heap.size, 1, none⟩ = some (.int .u32 (pg : Nat)) ∧ w'.cell? ⟨w.heap.size, 2, none⟩ = some (.int .u64 (v : Nat))) wz.drew := KS.out _ ((Fr.refl F _).drew)
  refine wpAnyH_take (i := 0) (v := ?_) rfl (by decide +kernel) (by decide +kernel) (by decide +kernel) (fun _ _ _ h => h) (Or.inl ⟨by rfl, ?_⟩) hS ?_
  rotate_left
  · intro wS hSw; (try dsimp only at hSw); go_simp
    try with_reducible rfl
  try simp only [Act.put, List.setIfInBounds_toArray, List.set_cons_zero, List.set_cons_succ]
  refine wpAnyH_take (i := 1) (v := ?_) rfl (by decide +kernel) (by decide +kernel) (by decide +kernel) (fun _ _ _ h => h) (Or.inl ⟨by rfl, ?_⟩) hS ?_
  rotate_left
  · intro wS hSw; (try dsimp only at hSw); go_simp
    try with_reducible rfl
  try simp only [Act.put, List.setIfInBounds_toArray, List.set_cons_zero, List.set_cons_succ]
  refine wpAnyH_take (i := 2) (v := ?_) rfl (by decide +kernel) (by decide +kernel) (by decide +kernel) (fun _ _ _ h => h) (Or.inl ⟨by rfl, ?_⟩) hS ?_
  rotate_left
  · intro wS hSw; (try dsimp only at hSw); go_simp
    try with_reducible rfl
  try simp only [Act.put, List.setIfInBounds_toArray, List.set_cons_zero, List.set_cons_succ]
  refine wpAnyH_take (i := 3) (v := ?_) rfl (by decide +kernel) (by decide +kernel) (by decide +kernel) (fun _ _ _ h => h) (Or.inl ⟨by rfl, ?_⟩) hS ?_
  rotate_left
  · intro wS hSw; (try dsimp only at hSw); go_simp
    try with_reducible rfl
  try simp only [Act.put, List.setIfInBounds_toArray, List.set_cons_zero, List.set_cons_succ]
  refine wpAnyH_take (i := 4) (v := ?_) rfl (by decide +kernel) (by decide +kernel) (by decide +kernel) (fun _ _ _ h => h) (Or.inl ⟨by rfl, ?_⟩) hS ?_
  rotate_left
  · intro wS hSw; (try dsimp only at hSw); go_simp
    try with_reducible rfl
  try simp only [Act.put, List.setIfInBounds_toArray, List.set_cons_zero, List.set_cons_succ]
  clear hS
  refine wpAnyH_ready (rs := [5, 6]) (by kernel_rfl) (by simp) ?_
  refine AllReadyH.cons rfl (fun K hK => ?_) ?_
  · go_simp; go_at_call 32; (with_reducible refine (HCW.out _ (by repeat (first | exact Fr.refl NoF _ | apply Fr.drew | apply Fr.drewN | apply Fr.alloc))).mono ?_); rintro e w2 ⟨rfl, hl2⟩; have HLD := Lib.hid hl2; have KC : Hid (∀ W, Fr NoF w2 W → (fun w' => w'.cell? ⟨fb, 0, none⟩ = some p.ptr ∧ w'.cell? ⟨w.heap.size, 0, none⟩ = some (.int .i64 2) ∧ w'.cell? ⟨w.heap.size, 1, none⟩ = some (.int .u32 (pg : Nat)) ∧ w'.cell? ⟨w.heap.size, 2, none⟩ = some (.int .u64 (v : Nat))) W) := Lib.hid (fun W f => by obtain ⟨F', _, g, _⟩ := hl2; exact KS.out W (Fr.trans (Fr.trans (F := F) (by repeat (first | exact Fr.refl F _ | apply Fr.drew | apply Fr.drewN | apply Fr.alloc)) g (fun i k => .inl k)) f (fun i k => k.elim))); unfold AnF.val; clear hl2; go_wp2_with fail
    refine hK.out _ _ (by first | (refine KC.out _ ?_; (repeat (first | exact Fr.refl NoF _ | apply Fr.drew | apply Fr.drewN | apply Fr.alloc)); done) | (refine KS.out _ ?_; (repeat (first | exact Fr.refl F _ | apply Fr.drew | apply Fr.drewN | apply Fr.alloc)); done)) (fun hS => ?_)
    clear hK K
    try simp only [Act.put, List.setIfInBounds_toArray, List.set_cons_zero, List.set_cons_succ]
    refine wpAnyH_ready (rs := [6]) (by kernel_rfl) (by simp) ?_
    refine AllReadyH.cons rfl (fun K hK => ?_) ?_
    · go_simp
      refine hK.out _ _ (by first | (refine KC.out _ ?_; (repeat (first | exact Fr.refl NoF _ | apply Fr.drew | apply Fr.drewN | apply Fr.alloc)); done) | (refine KS.out _ ?_; (repeat (first | exact Fr.refl F _ | apply Fr.drew | apply Fr.drewN | apply Fr.alloc)); done)) (fun hS => ?_)
      clear hK K
      try simp only [Act.put, List.setIfInBounds_toArray, List.set_cons_zero, List.set_cons_succ]
      refine wpAnyH_done (by kernel_rfl) ?_ _
      show wpList _ _ _ _ _ _
      have hN := put_new (a := a) (w0 := wz) (t := 75) HLD.out (Fr.drew (Fr.refl NoF wz))
      have HL3 := Lib.hid hN.1
      have HB3 := Lib.hid hN.2
      have lg : wz.heap.size ≤ w2.heap.size := by obtain ⟨F', _, g, _⟩ := HLD.out; exact g.size
      clear hN HLD KC hS
      go_upto_region 6 with fail
      generalize (w2.alloc (.cells #[.int .i64 (a.e : Nat), .int .u32 (a.id : Nat), .int .u64 (a.v : Nat)] 75)) = w3 at *
      generalize w2.heap.size = g at *
      obtain ⟨F', h3, fr3, hF3⟩ := HL3.out
      have HC3 := Lib.hid ((HCC.out.fr F1.out id).fr fr3 nb)
      have HP3 := Lib.hid ((HP.out.fr F1.out id).fr fr3 nm)
      have B0 := Lib.hid (B0.out.fr fr3 (fun k => by have := HLT.out _ k; omega))
      have B1 := Lib.hid (B1.out.fr fr3 (fun k => by have := HLT.out _ k; omega))
      have H3 := Lib.hid h3
      have FR3 := Lib.hid fr3
      have HF3 := Lib.hid hF3
      clear h3 fr3 hF3 HL3 KS LK HCC HP HX HCW HF
      have KO : Hid (∀ W, Fr NoF w3 W → W.cell? ⟨w.heap.size, 0, none⟩ = some (.int .i64 2)) := Lib.hid fun W f => (B0.out.fr f id).cell (i := 0) (by omega)
      go_region_held3 (fun w' => w'.cell? ⟨w.heap.size, 0, none⟩ = some (.int .i64 2))
        (first | (refine KO.out _ ?_; (repeat (first | exact Fr.refl NoF _ | exact HW4.out | apply Fr.drew | apply Fr.drewN | apply Fr.alloc)); done))
        (first | (go_at_call 33; (with_reducible refine (counting_calls _).mono ?_); rintro e w4 ⟨rfl, ⟨cc, hcm⟩, f4⟩; have HW4 : Hid (Fr NoF w3 w4) := Lib.hid (Fr.trans (F := NoF) (by repeat (first | exact Fr.refl NoF _ | apply Fr.drew | apply Fr.drewN)) f4 (fun i k => k.elim)); have hlk := hcm.look_ok_run MVc (x := 2) (i64wf (by decide)); rw [show cntM 2 = some (.func (.func 45) #[] #[]) from rfl] at hlk; simp only [Option.getD_some, Option.isSome_some] at hlk; (try rw [show w3.drew.heap.size = w3.heap.size from rfl] at hlk); clear hcm f4))
      have HB4 := HB3.out.fr HW4.out id
      have B04 := B0.out.fr HW4.out id
      have B14 := B1.out.fr HW4.out id
      have HC4 := Lib.hid (HC3.out.fr HW4.out id)
      have HP4 := Lib.hid (HP3.out.fr HW4.out id)
      have H4 := Lib.hid (H3.out.fr0 HW4.out)
      have lw3 := (FR3.out.trans HW4.out (fun _ k => k.elim)).size
      have s0 := HB4.cell (i := 0) (by omega)
      have s1 := HB4.cell (i := 1) (by omega)
      have s2 := HB4.cell (i := 2) (by omega)
      have sl := HB4.lt
      have o0 := B04.cell (i := 0) (by omega)
      have o1 := B04.cell (i := 1) (by omega)
      have o2 := B04.cell (i := 2) (by omega)
      have ol := B04.lt
      simp only [anC] at s0 s1 s2
      simp only at o0 o1 o2
      have HB4 := Lib.hid HB4
      have B14 := Lib.hid B14
      have B04 := Lib.hid B04
      by_cases hz : a.e = 0
      · have hzB : (((a.e : Nat) : Int) == 0) = true := by rw [hz]; rfl
        have HZ := Lib.hid hz
        clear hz
        have HPX : Hid (pinX ⟨2, pg, v⟩ a pin = upd pin pg (pin pg - 1)) := Lib.hid (by unfold pinX; rw [if_pos HZ.out]; rfl)
        go_wp2_with fail
        (try simp only [OpF.val, AnF.val] at *)
        refine (unpinned_calls (o := ⟨2, pg, v⟩) (a := a) HO.out hcn (HPN.out _) hp1 HC4.out HP4.out ne).mono ?_
        rintro e w5 ⟨rfl, ⟨cnt5, hc5, hp5⟩, f5⟩
        have HP5 : Hid (PinsAt w5 mb cnt5 (pinM (pinX ⟨2, pg, v⟩ a pin))) := Lib.hid (by rw [HPX.out]; exact hp5)
        have B15 := Lib.hid (B14.out.fr f5 (fun k => by omega))
        have HB5 := HB4.out.fr f5 (fun k => by omega)
        have s0 := HB5.cell (i := 0) (by omega)
        have s1 := HB5.cell (i := 1) (by omega)
        have s2 := HB5.cell (i := 2) (by omega)
        have sl := HB5.lt
        simp only [anC] at s0 s1 s2
        have H5 := Lib.hid (H4.out.fro f5 (fun i k e => by rcases HF3.out i k with z | z; (exact nm (e ▸ z)); (omega)) tm)
        have FW : Hid (Fr (fun j => F j ∨ j = mb) w w5) := Lib.hid ((((F1.out.none.trans FR3.out (fun j k => .inl k)).trans HW4.out (fun _ k => k.elim)).mono (fun j k => .inl k)).trans f5 (fun j k => .inl (.inr k)))
        clear hp5 f5 HB5
        have t0 := B15.out.cell (i := 0) (by omega)
        have t1 := B15.out.cell (i := 1) (by omega)
        have t2 := B15.out.cell (i := 2) (by omega)
        have u0 := B15.out.frozen 0
        have u1 := B15.out.frozen 1
        have u2 := B15.out.frozen 2
        have ul := B15.out.lt
        simp only at t0 t1 t2
        have HR := Lib.hid (anC_put _ a B15.out)
        have fs : Fr (fun j => j = w.heap.size + 1) w5 (((w5.setCell ⟨w.heap.size + 1, 0, none⟩ (.int .i64 (a.e : Nat))).setCell ⟨w.heap.size + 1, 1, none⟩ (.int .u32 (a.id : Nat))).setCell ⟨w.heap.size + 1, 2, none⟩ (.int .u64 (a.v : Nat))) := (((Fr.refl (fun j => j = w.heap.size + 1) _).setCell (p := ⟨w.heap.size + 1, 0, none⟩) (.inl rfl) _).setCell (p := ⟨w.heap.size + 1, 1, none⟩) (.inl rfl) _).setCell (p := ⟨w.heap.size + 1, 2, none⟩) (.inl rfl) _
        have HL : Hid (CallPost p q M' m' F w mb cnt (pinX ⟨2, pg, v⟩ a pin) (((w5.setCell ⟨w.heap.size + 1, 0, none⟩ (.int .i64 (a.e : Nat))).setCell ⟨w.heap.size + 1, 1, none⟩ (.int .u32 (a.id : Nat))).setCell ⟨w.heap.size + 1, 2, none⟩ (.int .u64 (a.v : Nat)))) := Lib.hid (by
          refine ⟨F', _, H5.out.fro fs (fun j k (e : j = w.heap.size + 1) => ?_) (fun (e : _ = w.heap.size + 1) => by omega), fun j k => ?_, hc5, (HP5.out.fr fs (fun (e : mb = w.heap.size + 1) => by omega)), (FW.out).trans fs (fun j (e : j = w.heap.size + 1) => .inr (by omega))⟩
          · subst e; rcases HF3.out _ k with z | z
            · have := HLT.out _ z; omega
            · omega
          · rcases HF3.out j k with z | z
            · exact .inl z
            · exact .inr (by omega))
        clear fs
        go_wp2_with fail
        (try simp only [Exit.inBlock, Exit.then])
        refine bodyPost_ret (results_blk Tryz.results28 _ _ HR.out rfl Tryz.underlying75 rfl (by kernel_rfl)) rfl ?_
        exact ⟨rfl, HL.out⟩
      · have hzB : (((a.e : Nat) : Int) == 0) = false := by simpa using hz
        have HZ := Lib.hid hz
        clear hz
        have HP5 : Hid (PinsAt w4 mb cnt (pinM (pinX ⟨2, pg, v⟩ a pin))) := Lib.hid (by unfold pinX; rw [if_neg HZ.out]; exact HP4.out)
        have FW : Hid (Fr (fun j => F j ∨ j = mb) w w4) := Lib.hid (((F1.out.none.trans FR3.out (fun j k => .inl k)).trans HW4.out (fun _ k => k.elim)).mono (fun j k => .inl k))
        have t0 := B14.out.cell (i := 0) (by omega)
        have t1 := B14.out.cell (i := 1) (by omega)
        have t2 := B14.out.cell (i := 2) (by omega)
        have u0 := B14.out.frozen 0
        have u1 := B14.out.frozen 1
        have u2 := B14.out.frozen 2
        have ul := B14.out.lt
        simp only at t0 t1 t2
        have HR := Lib.hid (anC_put _ a B14.out)
        have fs : Fr (fun j => j = w.heap.size + 1) w4 (((w4.setCell ⟨w.heap.size + 1, 0, none⟩ (.int .i64 (a.e : Nat))).setCell ⟨w.heap.size + 1, 1, none⟩ (.int .u32 (a.id : Nat))).setCell ⟨w.heap.size + 1, 2, none⟩ (.int .u64 (a.v : Nat))) := (((Fr.refl (fun j => j = w.heap.size + 1) _).setCell (p := ⟨w.heap.size + 1, 0, none⟩) (.inl rfl) _).setCell (p := ⟨w.heap.size + 1, 1, none⟩) (.inl rfl) _).setCell (p := ⟨w.heap.size + 1, 2, none⟩) (.inl rfl) _
        have HL : Hid (CallPost p q M' m' F w mb cnt (pinX ⟨2, pg, v⟩ a pin) (((w4.setCell ⟨w.heap.size + 1, 0, none⟩ (.int .i64 (a.e : Nat))).setCell ⟨w.heap.size + 1, 1, none⟩ (.int .u32 (a.id : Nat))).setCell ⟨w.heap.size + 1, 2, none⟩ (.int .u64 (a.v : Nat)))) := Lib.hid (by
          refine ⟨F', _, H4.out.fro fs (fun j k (e : j = w.heap.size + 1) => ?_) (fun (e : _ = w.heap.size + 1) => by omega), fun j k => ?_, Nat.le_succ _, (HP5.out.fr fs (fun (e : mb = w.heap.size + 1) => by omega)), (FW.out).trans fs (fun j (e : j = w.heap.size + 1) => .inr (by omega))⟩
          · subst e; rcases HF3.out _ k with z | z
            · have := HLT.out _ z; omega
            · omega
          · rcases HF3.out j k with z | z
            · exact .inl z
            · exact .inr (by omega))
        clear fs
        go_wp2_with fail
        (try simp only [Exit.inBlock, Exit.then])
        refine bodyPost_ret (results_blk Tryz.results28 _ _ HR.out rfl Tryz.underlying75 rfl (by kernel_rfl)) rfl ?_
        exact ⟨rfl, HL.out⟩
    exact AllReadyH.nil
  refine AllReadyH.cons rfl (fun K hK => ?_) ?_
  · go_simp
    refine hK.out _ _ (by first | (refine KC.out _ ?_; (repeat (first | exact Fr.refl NoF _ | apply Fr.drew | apply Fr.drewN | apply Fr.alloc)); done) | (refine KS.out _ ?_; (repeat (first | exact Fr.refl F _ | apply Fr.drew | apply Fr.drewN | apply Fr.alloc)); done)) (fun hS => ?_)
    clear hK K
    try simp only [Act.put, List.setIfInBounds_toArray, List.set_cons_zero, List.set_cons_succ]
    refine wpAnyH_ready (rs := [5]) (by kernel_rfl) (by simp) ?_
    refine AllReadyH.cons rfl (fun K hK => ?_) ?_
    · go_simp; go_at_call 32; (with_reducible refine (HCW.out _ (by repeat (first | exact Fr.refl NoF _ | apply Fr.drew | apply Fr.drewN | apply Fr.alloc))).mono ?_); rintro e w2 ⟨rfl, hl2⟩; have HLD := Lib.hid hl2; have KC : Hid (∀ W, Fr NoF w2 W → (fun w' => w'.cell? ⟨fb, 0, none⟩ = some p.ptr ∧ w'.cell? ⟨w.heap.size, 0, none⟩ = some (.int .i64 2) ∧ w'.cell? ⟨w.heap.size, 1, none⟩ = some (.int .u32 (pg : Nat)) ∧ w'.cell? ⟨w.heap.size, 2, none⟩ = some (.int .u64 (v : Nat))) W) := Lib.hid (fun W f => by obtain ⟨F', _, g, _⟩ := hl2; exact KS.out W (Fr.trans (Fr.trans (F := F) (by repeat (first | exact Fr.refl F _ | apply Fr.drew | apply Fr.drewN | apply Fr.alloc)) g (fun i k => .inl k)) f (fun i k => k.elim))); unfold AnF.val; clear hl2; go_wp2_with fail
      refine hK.out _ _ (by first | (refine KC.out _ ?_; (repeat (first | exact Fr.refl NoF _ | apply Fr.drew | apply Fr.drewN | apply Fr.alloc)); done) | (refine KS.out _ ?_; (repeat (first | exact Fr.refl F _ | apply Fr.drew | apply Fr.drewN | apply Fr.alloc)); done)) (fun hS => ?_)
      clear hK K
      try simp only [Act.put, List.setIfInBounds_toArray, List.set_cons_zero, List.set_cons_succ]
      refine wpAnyH_done (by kernel_rfl) ?_ _
      show wpList _ _ _ _ _ _
      have ht1 : 0 < wz.heap.size := by omega
      have hN := put_old (a := a) (w0 := wz) (g := wz.heap.size) HLD.out ((Fr.drew (Fr.refl NoF wz)).alloc _) (blkAn wz.drew (.int .i64 0) (.int .u32 0) (.int .u64 0) (t := 75)) (Nat.le_refl _) (fun i k => by have := HLT.out i k; omega) ht1
      have hbn := hN.2.2
      have x0 := hbn.cell (i := 0) (by omega)
      have x1 := hbn.cell (i := 1) (by omega)
      have x2 := hbn.cell (i := 2) (by omega)
      have y0 := hbn.frozen 0
      have y1 := hbn.frozen 1
      have y2 := hbn.frozen 2
      have ly := hbn.lt
      (try simp only [zAn] at x0 x1 x2)
      (try simp only at x0 x1 x2)
      have HL3 := Lib.hid hN.1
      have HB3 := Lib.hid hN.2.1
      have lg : wz.heap.size ≤ wz.heap.size := Nat.le_refl _
      clear hN hbn HLD KC hS
      go_upto_region 6 with fail
      clear x0 x1 x2 y0 y1 y2 ly
      generalize (((w2.setCell ⟨wz.heap.size, 0, none⟩ (.int .i64 (a.e : Nat))).setCell ⟨wz.heap.size, 1, none⟩ (.int .u32 (a.id : Nat))).setCell ⟨wz.heap.size, 2, none⟩ (.int .u64 (a.v : Nat))) = w3 at *
      obtain ⟨g, hgz⟩ : ∃ g, g = wz.heap.size := ⟨_, rfl⟩
      rw [← hgz]
      rw [← hgz] at HB3
      have lg : wz.heap.size ≤ g := Nat.le_of_eq hgz.symm
      clear hgz
      obtain ⟨F', h3, fr3, hF3⟩ := HL3.out
      have HC3 := Lib.hid ((HCC.out.fr F1.out id).fr fr3 nb)
      have HP3 := Lib.hid ((HP.out.fr F1.out id).fr fr3 nm)
      have B0 := Lib.hid (B0.out.fr fr3 (fun k => by have := HLT.out _ k; omega))
      have B1 := Lib.hid (B1.out.fr fr3 (fun k => by have := HLT.out _ k; omega))
      have H3 := Lib.hid h3
      have FR3 := Lib.hid fr3
      have HF3 := Lib.hid hF3
      clear h3 fr3 hF3 HL3 KS LK HCC HP HX HCW HF
      have KO : Hid (∀ W, Fr NoF w3 W → W.cell? ⟨w.heap.size, 0, none⟩ = some (.int .i64 2)) := Lib.hid fun W f => (B0.out.fr f id).cell (i := 0) (by omega)
      go_region_held3 (fun w' => w'.cell? ⟨w.heap.size, 0, none⟩ = some (.int .i64 2))
        (first | (refine KO.out _ ?_; (repeat (first | exact Fr.refl NoF _ | exact HW4.out | apply Fr.drew | apply Fr.drewN | apply Fr.alloc)); done))
        (first | (go_at_call 33; (with_reducible refine (counting_calls _).mono ?_); rintro e w4 ⟨rfl, ⟨cc, hcm⟩, f4⟩; have HW4 : Hid (Fr NoF w3 w4) := Lib.hid (Fr.trans (F := NoF) (by repeat (first | exact Fr.refl NoF _ | apply Fr.drew | apply Fr.drewN)) f4 (fun i k => k.elim)); have hlk := hcm.look_ok_run MVc (x := 2) (i64wf (by decide)); rw [show cntM 2 = some (.func (.func 45) #[] #[]) from rfl] at hlk; simp only [Option.getD_some, Option.isSome_some] at hlk; (try rw [show w3.drew.heap.size = w3.heap.size from rfl] at hlk); clear hcm f4))
      have HB4 := HB3.out.fr HW4.out id
      have B04 := B0.out.fr HW4.out id
      have B14 := B1.out.fr HW4.out id
      have HC4 := Lib.hid (HC3.out.fr HW4.out id)
      have HP4 := Lib.hid (HP3.out.fr HW4.out id)
      have H4 := Lib.hid (H3.out.fr0 HW4.out)
      have lw3 := (FR3.out.trans HW4.out (fun _ k => k.elim)).size
      have s0 := HB4.cell (i := 0) (by omega)
      have s1 := HB4.cell (i := 1) (by omega)
      have s2 := HB4.cell (i := 2) (by omega)
      have sl := HB4.lt
      have o0 := B04.cell (i := 0) (by omega)
      have o1 := B04.cell (i := 1) (by omega)
      have o2 := B04.cell (i := 2) (by omega)
      have ol := B04.lt
      simp only [anC] at s0 s1 s2
      simp only at o0 o1 o2
      have HB4 := Lib.hid HB4
      have B14 := Lib.hid B14
      have B04 := Lib.hid B04
      by_cases hz : a.e = 0
      · have hzB : (((a.e : Nat) : Int) == 0) = true := by rw [hz]; rfl
        have HZ := Lib.hid hz
        clear hz
        have HPX : Hid (pinX ⟨2, pg, v⟩ a pin = upd pin pg (pin pg - 1)) := Lib.hid (by unfold pinX; rw [if_pos HZ.out]; rfl)
        go_wp2_with fail
        (try simp only [OpF.val, AnF.val] at *)
        refine (unpinned_calls (o := ⟨2, pg, v⟩) (a := a) HO.out hcn (HPN.out _) hp1 HC4.out HP4.out ne).mono ?_
        rintro e w5 ⟨rfl, ⟨cnt5, hc5, hp5⟩, f5⟩
        have HP5 : Hid (PinsAt w5 mb cnt5 (pinM (pinX ⟨2, pg, v⟩ a pin))) := Lib.hid (by rw [HPX.out]; exact hp5)
        have B15 := Lib.hid (B14.out.fr f5 (fun k => by omega))
        have HB5 := HB4.out.fr f5 (fun k => by omega)
        have s0 := HB5.cell (i := 0) (by omega)
        have s1 := HB5.cell (i := 1) (by omega)
        have s2 := HB5.cell (i := 2) (by omega)
        have sl := HB5.lt
        simp only [anC] at s0 s1 s2
        have H5 := Lib.hid (H4.out.fro f5 (fun i k e => by rcases HF3.out i k with z | z; (exact nm (e ▸ z)); (omega)) tm)
        have FW : Hid (Fr (fun j => F j ∨ j = mb) w w5) := Lib.hid ((((F1.out.none.trans FR3.out (fun j k => .inl k)).trans HW4.out (fun _ k => k.elim)).mono (fun j k => .inl k)).trans f5 (fun j k => .inl (.inr k)))
        clear hp5 f5 HB5
        have t0 := B15.out.cell (i := 0) (by omega)
        have t1 := B15.out.cell (i := 1) (by omega)
        have t2 := B15.out.cell (i := 2) (by omega)
        have u0 := B15.out.frozen 0
        have u1 := B15.out.frozen 1
        have u2 := B15.out.frozen 2
        have ul := B15.out.lt
        simp only at t0 t1 t2
        have HR := Lib.hid (anC_put _ a B15.out)
        have fs : Fr (fun j => j = w.heap.size + 1) w5 (((w5.setCell ⟨w.heap.size + 1, 0, none⟩ (.int .i64 (a.e : Nat))).setCell ⟨w.heap.size + 1, 1, none⟩ (.int .u32 (a.id : Nat))).setCell ⟨w.heap.size + 1, 2, none⟩ (.int .u64 (a.v : Nat))) := (((Fr.refl (fun j => j = w.heap.size + 1) _).setCell (p := ⟨w.heap.size + 1, 0, none⟩) (.inl rfl) _).setCell (p := ⟨w.heap.size + 1, 1, none⟩) (.inl rfl) _).setCell (p := ⟨w.heap.size + 1, 2, none⟩) (.inl rfl) _
        have HL : Hid (CallPost p q M' m' F w mb cnt (pinX ⟨2, pg, v⟩ a pin) (((w5.setCell ⟨w.heap.size + 1, 0, none⟩ (.int .i64 (a.e : Nat))).setCell ⟨w.heap.size + 1, 1, none⟩ (.int .u32 (a.id : Nat))).setCell ⟨w.heap.size + 1, 2, none⟩ (.int .u64 (a.v : Nat)))) := Lib.hid (by
          refine ⟨F', _, H5.out.fro fs (fun j k (e : j = w.heap.size + 1) => ?_) (fun (e : _ = w.heap.size + 1) => by omega), fun j k => ?_, hc5, (HP5.out.fr fs (fun (e : mb = w.heap.size + 1) => by omega)), (FW.out).trans fs (fun j (e : j = w.heap.size + 1) => .inr (by omega))⟩
          · subst e; rcases HF3.out _ k with z | z
            · have := HLT.out _ z; omega
            · omega
          · rcases HF3.out j k with z | z
            · exact .inl z
            · exact .inr (by omega))
        clear fs
        go_wp2_with fail
        (try simp only [Exit.inBlock, Exit.then])
        refine bodyPost_ret (results_blk Tryz.results28 _ _ HR.out rfl Tryz.underlying75 rfl (by kernel_rfl)) rfl ?_
        exact ⟨rfl, HL.out⟩
      · have hzB : (((a.e : Nat) : Int) == 0) = false := by simpa using hz
        have HZ := Lib.hid hz
        clear hz
        have HP5 : Hid (PinsAt w4 mb cnt (pinM (pinX ⟨2, pg, v⟩ a pin))) := Lib.hid (by unfold pinX; rw [if_neg HZ.out]; exact HP4.out)
        have FW : Hid (Fr (fun j => F j ∨ j = mb) w w4) := Lib.hid (((F1.out.none.trans FR3.out (fun j k => .inl k)).trans HW4.out (fun _ k => k.elim)).mono (fun j k => .inl k))
        have t0 := B14.out.cell (i := 0) (by omega)
        have t1 := B14.out.cell (i := 1) (by omega)
        have t2 := B14.out.cell (i := 2) (by omega)
        have u0 := B14.out.frozen 0
        have u1 := B14.out.frozen 1
        have u2 := B14.out.frozen 2
        have ul := B14.out.lt
        simp only at t0 t1 t2
        have HR := Lib.hid (anC_put _ a B14.out)
        have fs : Fr (fun j => j = w.heap.size + 1) w4 (((w4.setCell ⟨w.heap.size + 1, 0, none⟩ (.int .i64 (a.e : Nat))).setCell ⟨w.heap.size + 1, 1, none⟩ (.int .u32 (a.id : Nat))).setCell ⟨w.heap.size + 1, 2, none⟩ (.int .u64 (a.v : Nat))) := (((Fr.refl (fun j => j = w.heap.size + 1) _).setCell (p := ⟨w.heap.size + 1, 0, none⟩) (.inl rfl) _).setCell (p := ⟨w.heap.size + 1, 1, none⟩) (.inl rfl) _).setCell (p := ⟨w.heap.size + 1, 2, none⟩) (.inl rfl) _
        have HL : Hid (CallPost p q M' m' F w mb cnt (pinX ⟨2, pg, v⟩ a pin) (((w4.setCell ⟨w.heap.size + 1, 0, none⟩ (.int .i64 (a.e : Nat))).setCell ⟨w.heap.size + 1, 1, none⟩ (.int .u32 (a.id : Nat))).setCell ⟨w.heap.size + 1, 2, none⟩ (.int .u64 (a.v : Nat)))) := Lib.hid (by
          refine ⟨F', _, H4.out.fro fs (fun j k (e : j = w.heap.size + 1) => ?_) (fun (e : _ = w.heap.size + 1) => by omega), fun j k => ?_, Nat.le_succ _, (HP5.out.fr fs (fun (e : mb = w.heap.size + 1) => by omega)), (FW.out).trans fs (fun j (e : j = w.heap.size + 1) => .inr (by omega))⟩
          · subst e; rcases HF3.out _ k with z | z
            · have := HLT.out _ z; omega
            · omega
          · rcases HF3.out j k with z | z
            · exact .inl z
            · exact .inr (by omega))
        clear fs
        go_wp2_with fail
        (try simp only [Exit.inBlock, Exit.then])
        refine bodyPost_ret (results_blk Tryz.results28 _ _ HR.out rfl Tryz.underlying75 rfl (by kernel_rfl)) rfl ?_
        exact ⟨rfl, HL.out⟩
    exact AllReadyH.nil
  exact AllReadyH.nil
set_option maxHeartbeats 8000000 in
theorem ccall_other (h : AnyP p q M m w F) (ho : o.ok) (hc : Blk w b 5 (clC i ov d mb b s)) (hf : Blk w fb 4 (frC p.ptr cv la lv)) (hp : PinsAt w mb cnt (pinM pin)) (hcn : cnt < 100000) (hpn : ∀ x, pin x < 100000) (ne : ¬ b = mb) (nb : ¬ F b) (nm : ¬ F mb) (nf : ¬ F fb) (ht : 0 < w.heap.size) (tm : ¬ 0 = mb) (hk : ¬ o.k = 0 ∧ ¬ o.k = 1 ∧ ¬ o.k = 2) (hl : lackB o pin = false) (ha : a.id < 4294967296)
    (HC : ∀ W, Fr NoF w W → Calls Tryz.prog 32 #[p.ptr, o.val] W fun e w' => e = .returned a.val ∧ Led (AnyP p q M' m') F W w') :
    Calls Tryz.prog 28 #[.pointer (some ⟨b, 0, none⟩), .pointer (some ⟨fb, 0, none⟩), o.val] w fun e w' => e = .returned a.val ∧ CallPost p q M' m' F w mb cnt (pinX o a pin) w' := by
  obtain ⟨k, pg, v⟩ := o
  simp only at hk
  have f0 : Fr NoF w ((w.alloc (.cells #[.int .i64 k, .int .u32 (pg : Nat), .int .u64 (v : Nat)] 73)).alloc (.cells #[.int .i64 0, .int .u32 0, .int .u64 0] 75)) := ((Fr.refl NoF w).alloc _).alloc _
  have b0 := ((blkAn w (.int .i64 k) (.int .u32 (pg : Nat)) (.int .u64 (v : Nat)) (t := 73)).alloc (.cells #[.int .i64 0, .int .u32 0, .int .u64 0] 75))
  have b1 := (blkAn (w.alloc (.cells #[.int .i64 k, .int .u32 (pg : Nat), .int .u64 (v : Nat)] 73)) (.int .i64 0) (.int .u32 0) (.int .u64 0) (t := 75))
  rw [World.size_alloc] at b1
  have hLK := lacks_calls ho (hc.fr f0 id) (hp.fr f0 id)
  rw [hl] at hLK
  have HLK := Lib.hid hLK
  have HO := Lib.hid ho
  have HCC := Lib.hid hc
  have HF := Lib.hid hf
  have HP := Lib.hid hp
  have B0 := Lib.hid b0
  have B1 := Lib.hid b1
  have F0 := Lib.hid f0
  have HX := Lib.hid HC
  have HLT := Lib.hid h.lt
  have HPN := Lib.hid hpn
  have lmw := hp.lt
  have lbw := hc.lt
  clear h b0 b1 hc hf hp hl ho hLK f0 HC hpn
  unfold OpF.val
  go_enter Tryz.func28, Tryz.ntmps28
  go_wp2_with fail
  refine HLK.out.mono ?_
  clear HLK
  rintro e w1 ⟨rfl, f1⟩
  have hs1 : w.heap.size + 1 + 1 ≤ w1.heap.size := by have q := f1.size; simp only [World.size_alloc] at q; exact q
  have B0 := Lib.hid (B0.out.fr f1 id)
  have B1 := Lib.hid (B1.out.fr f1 id)
  have F1 := Lib.hid (F0.out.trans f1 (fun _ q => q.elim))
  clear f1 F0
  have KS : Hid (∀ W, Fr F w1 W → W.cell? ⟨fb, 0, none⟩ = some p.ptr ∧ W.cell? ⟨w.heap.size, 0, none⟩ = some (.int .i64 k) ∧ W.cell? ⟨w.heap.size, 1, none⟩ = some (.int .u32 (pg : Nat)) ∧ W.cell? ⟨w.heap.size, 2, none⟩ = some (.int .u64 (v : Nat))) := Lib.hid fun W f => by
    have hb0 := B0.out.fr f (fun k => by have := HLT.out _ k; omega)
    have hff := (HF.out.fr F1.out id).fr f nf
    exact ⟨hff.cell (i := 0) (by omega), hb0.cell (i := 0) (by omega), hb0.cell (i := 1) (by omega), hb0.cell (i := 2) (by omega)⟩
  have lf := (HF.out.fr F1.out id).lt
  have l0 := B0.out.lt
  go_upto_region 5 with fail
  obtain ⟨wz, hwz⟩ : ∃ x, x = w1 := ⟨_, rfl⟩
  subst hwz
  have HCW : Hid (∀ W, Fr NoF wz W → Calls Tryz.prog 32 #[p.ptr, .agg #[.int .i64 k, .int .u32 (pg : Nat), .int .u64 (v : Nat)]] W fun e w' => e = .returned a.val ∧ Led (AnyP p q M' m') F W w') := Lib.hid fun W f => HX.out W (F1.out.trans f (fun _ q => q.elim))
  have LK : Hid (∀ W w2, Fr NoF wz W → Led (AnyP p q M' m') F W w2 → (fun w' => w'.cell? ⟨fb, 0, none⟩ = some p.ptr ∧ w'.cell? ⟨w.heap.size, 0, none⟩ = some (.int .i64 k) ∧ w'.cell? ⟨w.heap.size, 1, none⟩ = some (.int .u32 (pg : Nat)) ∧ w'.cell? ⟨w.heap.size, 2, none⟩ = some (.int .u64 (v : Nat))) w2) := Lib.hid fun W w2 f ⟨F', _, g, _⟩ => KS.out w2 (f.none.trans g (fun i k => .inl k))
  refine region_tail (fun w' => w'.cell? ⟨fb, 0, none⟩ = some p.ptr ∧ w'.cell? ⟨w.heap.size, 0, none⟩ = some (.int .i64 k) ∧ w'.cell? ⟨w.heap.size, 1, none⟩ = some (.int .u32 (pg : Nat)) ∧ w'.cell? ⟨w.heap.size, 2, none⟩ = some (.int .u64 (v : Nat))) 7 (by kernel_rfl) rfl rfl (by kernel_rfl) ?_
  simp only [List.take_succ_cons, List.take_zero]
  have hS : (fun w' => w'.cell? ⟨fb, 0, none⟩ = some p.ptr ∧ w'.cell? ⟨w.heap.size, 0, none⟩ = some (.int .i64 k) ∧ w'.cell? ⟨w.heap.size, 1, none⟩ = some (.int .u32 (pg : Nat)) ∧ w'.cell? ⟨w.heap.size, 2, none⟩ = some (.int .u64 (v : Nat))) wz.drew := KS.out _ ((Fr.refl F _).drew)
  refine wpAnyH_take (i := 0) (v := ?_) rfl (by decide +kernel) (by decide +kernel) (by decide +kernel) (fun _ _ _ h => h) (Or.inl ⟨by rfl, ?_⟩) hS ?_
  rotate_left
  · intro wS hSw; (try dsimp only at hSw); go_simp
    try with_reducible rfl
  try simp only [Act.put, List.setIfInBounds_toArray, List.set_cons_zero, List.set_cons_succ]
  refine wpAnyH_take (i := 1) (v := ?_) rfl (by decide +kernel) (by decide +kernel) (by decide +kernel) (fun _ _ _ h => h) (Or.inl ⟨by rfl, ?_⟩) hS ?_
  rotate_left
  · intro wS hSw; (try dsimp only at hSw); go_simp
    try with_reducible rfl
  try simp only [Act.put, List.setIfInBounds_toArray, List.set_cons_zero, List.set_cons_succ]
  refine wpAnyH_take (i := 2) (v := ?_) rfl (by decide +kernel) (by decide +kernel) (by decide +kernel) (fun _ _ _ h => h) (Or.inl ⟨by rfl, ?_⟩) hS ?_
  rotate_left
  · intro wS hSw; (try dsimp only at hSw); go_simp
    try with_reducible rfl
  try simp only [Act.put, List.setIfInBounds_toArray, List.set_cons_zero, List.set_cons_succ]
  refine wpAnyH_take (i := 3) (v := ?_) rfl (by decide +kernel) (by decide +kernel) (by decide +kernel) (fun _ _ _ h => h) (Or.inl ⟨by rfl, ?_⟩) hS ?_
  rotate_left
  · intro wS hSw; (try dsimp only at hSw); go_simp
    try with_reducible rfl
  try simp only [Act.put, List.setIfInBounds_toArray, List.set_cons_zero, List.set_cons_succ]
  refine wpAnyH_take (i := 4) (v := ?_) rfl (by decide +kernel) (by decide +kernel) (by decide +kernel) (fun _ _ _ h => h) (Or.inl ⟨by rfl, ?_⟩) hS ?_
  rotate_left
  · intro wS hSw; (try dsimp only at hSw); go_simp
    try with_reducible rfl
  try simp only [Act.put, List.setIfInBounds_toArray, List.set_cons_zero, List.set_cons_succ]
  clear hS
  refine wpAnyH_ready (rs := [5, 6]) (by kernel_rfl) (by simp) ?_
  refine AllReadyH.cons rfl (fun K hK => ?_) ?_
  · go_simp; go_at_call 32; (with_reducible refine (HCW.out _ (by repeat (first | exact Fr.refl NoF _ | apply Fr.drew | apply Fr.drewN | apply Fr.alloc))).mono ?_); rintro e w2 ⟨rfl, hl2⟩; have HLD := Lib.hid hl2; have KC : Hid (∀ W, Fr NoF w2 W → (fun w' => w'.cell? ⟨fb, 0, none⟩ = some p.ptr ∧ w'.cell? ⟨w.heap.size, 0, none⟩ = some (.int .i64 k) ∧ w'.cell? ⟨w.heap.size, 1, none⟩ = some (.int .u32 (pg : Nat)) ∧ w'.cell? ⟨w.heap.size, 2, none⟩ = some (.int .u64 (v : Nat))) W) := Lib.hid (fun W f => by obtain ⟨F', _, g, _⟩ := hl2; exact KS.out W (Fr.trans (Fr.trans (F := F) (by repeat (first | exact Fr.refl F _ | apply Fr.drew | apply Fr.drewN | apply Fr.alloc)) g (fun i k => .inl k)) f (fun i k => k.elim))); unfold AnF.val; clear hl2; go_wp2_with fail
    refine hK.out _ _ (by first | (refine KC.out _ ?_; (repeat (first | exact Fr.refl NoF _ | apply Fr.drew | apply Fr.drewN | apply Fr.alloc)); done) | (refine KS.out _ ?_; (repeat (first | exact Fr.refl F _ | apply Fr.drew | apply Fr.drewN | apply Fr.alloc)); done)) (fun hS => ?_)
    clear hK K
    try simp only [Act.put, List.setIfInBounds_toArray, List.set_cons_zero, List.set_cons_succ]
    refine wpAnyH_ready (rs := [6]) (by kernel_rfl) (by simp) ?_
    refine AllReadyH.cons rfl (fun K hK => ?_) ?_
    · go_simp
      refine hK.out _ _ (by first | (refine KC.out _ ?_; (repeat (first | exact Fr.refl NoF _ | apply Fr.drew | apply Fr.drewN | apply Fr.alloc)); done) | (refine KS.out _ ?_; (repeat (first | exact Fr.refl F _ | apply Fr.drew | apply Fr.drewN | apply Fr.alloc)); done)) (fun hS => ?_)
      clear hK K
      try simp only [Act.put, List.setIfInBounds_toArray, List.set_cons_zero, List.set_cons_succ]
      refine wpAnyH_done (by kernel_rfl) ?_ _
      show wpList _ _ _ _ _ _
      have hN := put_new (a := a) (w0 := wz) (t := 75) HLD.out (Fr.drew (Fr.refl NoF wz))
      have HL3 := Lib.hid hN.1
      have HB3 := Lib.hid hN.2
      have lg : wz.heap.size ≤ w2.heap.size := by obtain ⟨F', _, g, _⟩ := HLD.out; exact g.size
      clear hN HLD KC hS
      go_upto_region 6 with fail
      generalize (w2.alloc (.cells #[.int .i64 (a.e : Nat), .int .u32 (a.id : Nat), .int .u64 (a.v : Nat)] 75)) = w3 at *
      generalize w2.heap.size = g at *
      obtain ⟨F', h3, fr3, hF3⟩ := HL3.out
      have HC3 := Lib.hid ((HCC.out.fr F1.out id).fr fr3 nb)
      have HP3 := Lib.hid ((HP.out.fr F1.out id).fr fr3 nm)
      have B0 := Lib.hid (B0.out.fr fr3 (fun k => by have := HLT.out _ k; omega))
      have B1 := Lib.hid (B1.out.fr fr3 (fun k => by have := HLT.out _ k; omega))
      have H3 := Lib.hid h3
      have FR3 := Lib.hid fr3
      have HF3 := Lib.hid hF3
      clear h3 fr3 hF3 HL3 KS LK HCC HP HX HCW HF
      have KO : Hid (∀ W, Fr NoF w3 W → W.cell? ⟨w.heap.size, 0, none⟩ = some (.int .i64 k)) := Lib.hid fun W f => (B0.out.fr f id).cell (i := 0) (by omega)
      go_region_held3 (fun w' => w'.cell? ⟨w.heap.size, 0, none⟩ = some (.int .i64 k))
        (first | (refine KO.out _ ?_; (repeat (first | exact Fr.refl NoF _ | exact HW4.out | apply Fr.drew | apply Fr.drewN | apply Fr.alloc)); done))
        (first | (go_at_call 33; (with_reducible refine (counting_calls _).mono ?_); rintro e w4 ⟨rfl, ⟨cc, hcm⟩, f4⟩; have HW4 : Hid (Fr NoF w3 w4) := Lib.hid (Fr.trans (F := NoF) (by repeat (first | exact Fr.refl NoF _ | apply Fr.drew | apply Fr.drewN)) f4 (fun i k => k.elim)); have hlk := hcm.look_ok_run MVc (x := k) (i64wf HO.out.2.2); rw [cntM_no hk] at hlk; simp only [Option.getD_none, Option.isSome_none] at hlk; (try rw [show w3.drew.heap.size = w3.heap.size from rfl] at hlk); clear hcm f4))
      have HB4 := HB3.out.fr HW4.out id
      have B04 := B0.out.fr HW4.out id
      have B14 := B1.out.fr HW4.out id
      have HC4 := Lib.hid (HC3.out.fr HW4.out id)
      have HP4 := Lib.hid (HP3.out.fr HW4.out id)
      have H4 := Lib.hid (H3.out.fr0 HW4.out)
      have lw3 := (FR3.out.trans HW4.out (fun _ k => k.elim)).size
      have s0 := HB4.cell (i := 0) (by omega)
      have s1 := HB4.cell (i := 1) (by omega)
      have s2 := HB4.cell (i := 2) (by omega)
      have sl := HB4.lt
      have o0 := B04.cell (i := 0) (by omega)
      have o1 := B04.cell (i := 1) (by omega)
      have o2 := B04.cell (i := 2) (by omega)
      have ol := B04.lt
      simp only [anC] at s0 s1 s2
      simp only at o0 o1 o2
      have HB4 := Lib.hid HB4
      have B14 := Lib.hid B14
      have B04 := Lib.hid B04
      have HP5 : Hid (PinsAt w4 mb cnt (pinM (pinX ⟨k, pg, v⟩ a pin))) := Lib.hid (by
        unfold pinX
        have e : (if k = 0 then upd pin a.id (pin a.id + 1) else if k = 1 then upd pin pg (pin pg + 1) else if k = 2 then upd pin pg (pin pg - 1) else pin) = pin := by rw [if_neg hk.1, if_neg hk.2.1, if_neg hk.2.2]
        simp only [e, ite_self]
        exact HP4.out)
      have FW : Hid (Fr (fun j => F j ∨ j = mb) w w4) := Lib.hid (((F1.out.none.trans FR3.out (fun j k => .inl k)).trans HW4.out (fun _ k => k.elim)).mono (fun j k => .inl k))
      have t0 := B14.out.cell (i := 0) (by omega)
      have t1 := B14.out.cell (i := 1) (by omega)
      have t2 := B14.out.cell (i := 2) (by omega)
      have u0 := B14.out.frozen 0
      have u1 := B14.out.frozen 1
      have u2 := B14.out.frozen 2
      have ul := B14.out.lt
      simp only at t0 t1 t2
      have HR := Lib.hid (anC_put _ a B14.out)
      have fs : Fr (fun j => j = w.heap.size + 1) w4 (((w4.setCell ⟨w.heap.size + 1, 0, none⟩ (.int .i64 (a.e : Nat))).setCell ⟨w.heap.size + 1, 1, none⟩ (.int .u32 (a.id : Nat))).setCell ⟨w.heap.size + 1, 2, none⟩ (.int .u64 (a.v : Nat))) := (((Fr.refl (fun j => j = w.heap.size + 1) _).setCell (p := ⟨w.heap.size + 1, 0, none⟩) (.inl rfl) _).setCell (p := ⟨w.heap.size + 1, 1, none⟩) (.inl rfl) _).setCell (p := ⟨w.heap.size + 1, 2, none⟩) (.inl rfl) _
      have HL : Hid (CallPost p q M' m' F w mb cnt (pinX ⟨k, pg, v⟩ a pin) (((w4.setCell ⟨w.heap.size + 1, 0, none⟩ (.int .i64 (a.e : Nat))).setCell ⟨w.heap.size + 1, 1, none⟩ (.int .u32 (a.id : Nat))).setCell ⟨w.heap.size + 1, 2, none⟩ (.int .u64 (a.v : Nat)))) := Lib.hid (by
        refine ⟨F', _, H4.out.fro fs (fun j k (e : j = w.heap.size + 1) => ?_) (fun (e : _ = w.heap.size + 1) => by omega), fun j k => ?_, Nat.le_succ _, (HP5.out.fr fs (fun (e : mb = w.heap.size + 1) => by omega)), (FW.out).trans fs (fun j (e : j = w.heap.size + 1) => .inr (by omega))⟩
        · subst e; rcases HF3.out _ k with z | z
          · have := HLT.out _ z; omega
          · omega
        · rcases HF3.out j k with z | z
          · exact .inl z
          · exact .inr (by omega))
      clear fs
      go_wp2_with fail
      (try simp only [Exit.inBlock, Exit.then])
      refine bodyPost_ret (results_blk Tryz.results28 _ _ HR.out rfl Tryz.underlying75 rfl (by kernel_rfl)) rfl ?_
      exact ⟨rfl, HL.out⟩
    exact AllReadyH.nil
  refine AllReadyH.cons rfl (fun K hK => ?_) ?_
  · go_simp
    refine hK.out _ _ (by first | (refine KC.out _ ?_; (repeat (first | exact Fr.refl NoF _ | apply Fr.drew | apply Fr.drewN | apply Fr.alloc)); done) | (refine KS.out _ ?_; (repeat (first | exact Fr.refl F _ | apply Fr.drew | apply Fr.drewN | apply Fr.alloc)); done)) (fun hS => ?_)
    clear hK K
    try simp only [Act.put, List.setIfInBounds_toArray, List.set_cons_zero, List.set_cons_succ]
    refine wpAnyH_ready (rs := [5]) (by kernel_rfl) (by simp) ?_
    refine AllReadyH.cons rfl (fun K hK => ?_) ?_
    · go_simp; go_at_call 32; (with_reducible refine (HCW.out _ (by repeat (first | exact Fr.refl NoF _ | apply Fr.drew | apply Fr.drewN | apply Fr.alloc))).mono ?_); rintro e w2 ⟨rfl, hl2⟩; have HLD := Lib.hid hl2; have KC : Hid (∀ W, Fr NoF w2 W → (fun w' => w'.cell? ⟨fb, 0, none⟩ = some p.ptr ∧ w'.cell? ⟨w.heap.size, 0, none⟩ = some (.int .i64 k) ∧ w'.cell? ⟨w.heap.size, 1, none⟩ = some (.int .u32 (pg : Nat)) ∧ w'.cell? ⟨w.heap.size, 2, none⟩ = some (.int .u64 (v : Nat))) W) := Lib.hid (fun W f => by obtain ⟨F', _, g, _⟩ := hl2; exact KS.out W (Fr.trans (Fr.trans (F := F) (by repeat (first | exact Fr.refl F _ | apply Fr.drew | apply Fr.drewN | apply Fr.alloc)) g (fun i k => .inl k)) f (fun i k => k.elim))); unfold AnF.val; clear hl2; go_wp2_with fail
      refine hK.out _ _ (by first | (refine KC.out _ ?_; (repeat (first | exact Fr.refl NoF _ | apply Fr.drew | apply Fr.drewN | apply Fr.alloc)); done) | (refine KS.out _ ?_; (repeat (first | exact Fr.refl F _ | apply Fr.drew | apply Fr.drewN | apply Fr.alloc)); done)) (fun hS => ?_)
      clear hK K
      try simp only [Act.put, List.setIfInBounds_toArray, List.set_cons_zero, List.set_cons_succ]
      refine wpAnyH_done (by kernel_rfl) ?_ _
      show wpList _ _ _ _ _ _
      have ht1 : 0 < wz.heap.size := by omega
      have hN := put_old (a := a) (w0 := wz) (g := wz.heap.size) HLD.out ((Fr.drew (Fr.refl NoF wz)).alloc _) (blkAn wz.drew (.int .i64 0) (.int .u32 0) (.int .u64 0) (t := 75)) (Nat.le_refl _) (fun i k => by have := HLT.out i k; omega) ht1
      have hbn := hN.2.2
      have x0 := hbn.cell (i := 0) (by omega)
      have x1 := hbn.cell (i := 1) (by omega)
      have x2 := hbn.cell (i := 2) (by omega)
      have y0 := hbn.frozen 0
      have y1 := hbn.frozen 1
      have y2 := hbn.frozen 2
      have ly := hbn.lt
      (try simp only [zAn] at x0 x1 x2)
      (try simp only at x0 x1 x2)
      have HL3 := Lib.hid hN.1
      have HB3 := Lib.hid hN.2.1
      have lg : wz.heap.size ≤ wz.heap.size := Nat.le_refl _
      clear hN hbn HLD KC hS
      go_upto_region 6 with fail
      clear x0 x1 x2 y0 y1 y2 ly
      generalize (((w2.setCell ⟨wz.heap.size, 0, none⟩ (.int .i64 (a.e : Nat))).setCell ⟨wz.heap.size, 1, none⟩ (.int .u32 (a.id : Nat))).setCell ⟨wz.heap.size, 2, none⟩ (.int .u64 (a.v : Nat))) = w3 at *
      obtain ⟨g, hgz⟩ : ∃ g, g = wz.heap.size := ⟨_, rfl⟩
      rw [← hgz]
      rw [← hgz] at HB3
      have lg : wz.heap.size ≤ g := Nat.le_of_eq hgz.symm
      clear hgz
      obtain ⟨F', h3, fr3, hF3⟩ := HL3.out
      have HC3 := Lib.hid ((HCC.out.fr F1.out id).fr fr3 nb)
      have HP3 := Lib.hid ((HP.out.fr F1.out id).fr fr3 nm)
      have B0 := Lib.hid (B0.out.fr fr3 (fun k => by have := HLT.out _ k; omega))
      have B1 := Lib.hid (B1.out.fr fr3 (fun k => by have := HLT.out _ k; omega))
      have H3 := Lib.hid h3
      have FR3 := Lib.hid fr3
      have HF3 := Lib.hid hF3
      clear h3 fr3 hF3 HL3 KS LK HCC HP HX HCW HF
      have KO : Hid (∀ W, Fr NoF w3 W → W.cell? ⟨w.heap.size, 0, none⟩ = some (.int .i64 k)) := Lib.hid fun W f => (B0.out.fr f id).cell (i := 0) (by omega)
      go_region_held3 (fun w' => w'.cell? ⟨w.heap.size, 0, none⟩ = some (.int .i64 k))
        (first | (refine KO.out _ ?_; (repeat (first | exact Fr.refl NoF _ | exact HW4.out | apply Fr.drew | apply Fr.drewN | apply Fr.alloc)); done))
        (first | (go_at_call 33; (with_reducible refine (counting_calls _).mono ?_); rintro e w4 ⟨rfl, ⟨cc, hcm⟩, f4⟩; have HW4 : Hid (Fr NoF w3 w4) := Lib.hid (Fr.trans (F := NoF) (by repeat (first | exact Fr.refl NoF _ | apply Fr.drew | apply Fr.drewN)) f4 (fun i k => k.elim)); have hlk := hcm.look_ok_run MVc (x := k) (i64wf HO.out.2.2); rw [cntM_no hk] at hlk; simp only [Option.getD_none, Option.isSome_none] at hlk; (try rw [show w3.drew.heap.size = w3.heap.size from rfl] at hlk); clear hcm f4))
      have HB4 := HB3.out.fr HW4.out id
      have B04 := B0.out.fr HW4.out id
      have B14 := B1.out.fr HW4.out id
      have HC4 := Lib.hid (HC3.out.fr HW4.out id)
      have HP4 := Lib.hid (HP3.out.fr HW4.out id)
      have H4 := Lib.hid (H3.out.fr0 HW4.out)
      have lw3 := (FR3.out.trans HW4.out (fun _ k => k.elim)).size
      have s0 := HB4.cell (i := 0) (by omega)
      have s1 := HB4.cell (i := 1) (by omega)
      have s2 := HB4.cell (i := 2) (by omega)
      have sl := HB4.lt
      have o0 := B04.cell (i := 0) (by omega)
      have o1 := B04.cell (i := 1) (by omega)
      have o2 := B04.cell (i := 2) (by omega)
      have ol := B04.lt
      simp only [anC] at s0 s1 s2
      simp only at o0 o1 o2
      have HB4 := Lib.hid HB4
      have B14 := Lib.hid B14
      have B04 := Lib.hid B04
      have HP5 : Hid (PinsAt w4 mb cnt (pinM (pinX ⟨k, pg, v⟩ a pin))) := Lib.hid (by
        unfold pinX
        have e : (if k = 0 then upd pin a.id (pin a.id + 1) else if k = 1 then upd pin pg (pin pg + 1) else if k = 2 then upd pin pg (pin pg - 1) else pin) = pin := by rw [if_neg hk.1, if_neg hk.2.1, if_neg hk.2.2]
        simp only [e, ite_self]
        exact HP4.out)
      have FW : Hid (Fr (fun j => F j ∨ j = mb) w w4) := Lib.hid (((F1.out.none.trans FR3.out (fun j k => .inl k)).trans HW4.out (fun _ k => k.elim)).mono (fun j k => .inl k))
      have t0 := B14.out.cell (i := 0) (by omega)
      have t1 := B14.out.cell (i := 1) (by omega)
      have t2 := B14.out.cell (i := 2) (by omega)
      have u0 := B14.out.frozen 0
      have u1 := B14.out.frozen 1
      have u2 := B14.out.frozen 2
      have ul := B14.out.lt
      simp only at t0 t1 t2
      have HR := Lib.hid (anC_put _ a B14.out)
      have fs : Fr (fun j => j = w.heap.size + 1) w4 (((w4.setCell ⟨w.heap.size + 1, 0, none⟩ (.int .i64 (a.e : Nat))).setCell ⟨w.heap.size + 1, 1, none⟩ (.int .u32 (a.id : Nat))).setCell ⟨w.heap.size + 1, 2, none⟩ (.int .u64 (a.v : Nat))) := (((Fr.refl (fun j => j = w.heap.size + 1) _).setCell (p := ⟨w.heap.size + 1, 0, none⟩) (.inl rfl) _).setCell (p := ⟨w.heap.size + 1, 1, none⟩) (.inl rfl) _).setCell (p := ⟨w.heap.size + 1, 2, none⟩) (.inl rfl) _
      have HL : Hid (CallPost p q M' m' F w mb cnt (pinX ⟨k, pg, v⟩ a pin) (((w4.setCell ⟨w.heap.size + 1, 0, none⟩ (.int .i64 (a.e : Nat))).setCell ⟨w.heap.size + 1, 1, none⟩ (.int .u32 (a.id : Nat))).setCell ⟨w.heap.size + 1, 2, none⟩ (.int .u64 (a.v : Nat)))) := Lib.hid (by
        refine ⟨F', _, H4.out.fro fs (fun j k (e : j = w.heap.size + 1) => ?_) (fun (e : _ = w.heap.size + 1) => by omega), fun j k => ?_, Nat.le_succ _, (HP5.out.fr fs (fun (e : mb = w.heap.size + 1) => by omega)), (FW.out).trans fs (fun j (e : j = w.heap.size + 1) => .inr (by omega))⟩
        · subst e; rcases HF3.out _ k with z | z
          · have := HLT.out _ z; omega
          · omega
        · rcases HF3.out j k with z | z
          · exact .inl z
          · exact .inr (by omega))
      clear fs
      go_wp2_with fail
      (try simp only [Exit.inBlock, Exit.then])
      refine bodyPost_ret (results_blk Tryz.results28 _ _ HR.out rfl Tryz.underlying75 rfl (by kernel_rfl)) rfl ?_
      exact ⟨rfl, HL.out⟩
    exact AllReadyH.nil
  exact AllReadyH.nil
end
end Go.Proofs.YtmpjnphnljakiaaGreatDoor
