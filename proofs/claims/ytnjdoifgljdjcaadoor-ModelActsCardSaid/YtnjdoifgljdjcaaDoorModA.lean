/-
  model's Model in memory: held, known, Value.
-/
import Derived.Test.YtnjdoifgljdjcaaDoorLeaE
import Derived.Test.YtnjdoifgljdjcaaDoorMapV
namespace Go.Proofs.YtnjdoifgljdjcaaDoor
open Go.RowKit Go.Maps
set_option linter.unusedVariables false

/-- Results: a struct in a block, and a plain one. -/
theorem results_blk2 {P : Program} {fn : Func} {p u : Tmp} {ty : TypeId} (h : fn.results = #[.cell p ty, .tmp u]) (tmps : Array Value) (w : World) {g N : Nat} {c : Nat → Value} {d : TypeDesc} (hb : Blk w g N c) (hp : tmps.getD p undef = .pointer (some ⟨g, 0, none⟩))
    (hu : P.underlying ty = some d) (hd : (match d with | .struct _ | .array _ _ => true | _ => false) = true) (hi : (P.info? ty).map (·.size) = some N) :
    (results fn tmps).run P w = .ok (.tuple #[.agg ((List.range N).map c).toArray, tmps.getD u undef]) w := by
  obtain ⟨cs, t, hh, hs, hc⟩ := hb
  have e : cs = ((List.range N).map c).toArray := by
    apply Array.ext_getElem?
    intro i
    by_cases hi : i < N
    · rw [hc i hi]; simp [hi]
    · rw [Array.getElem?_eq_none (by omega)]; simp [hi]
  rw [← e]
  have hp' : tmps[p]?.getD undef = .pointer (some ⟨g, 0, none⟩) := by simpa using hp
  simp [results, h, hp', asAddr, run_loadVar_row w g t ty cs (0, 0) d hh hu hd (by rw [hi, hs]), Result.andThen]

/-- A number of 32 bits. -/
def okId (x : Nat) : Prop := x < 4294967296
def okV (x : Nat) : Prop := x < 18446744073709551616
/-- A page: what it holds, how often it is pinned. -/
def pageV (p : Nat × Nat) : Value := .agg #[.int .u64 (p.1 : Nat), .int .i64 (p.2 : Nat)]
def zeroP : Value := .agg #[.int .u64 0, .int .i64 0]
/-- What a map of pages says. -/
def pgM (pg : Nat → Option (Nat × Nat)) : Int → Option Value := fun x => if x < 0 then none else (pg x.toNat).map pageV
def updP (pg : Nat → Option (Nat × Nat)) (id : Nat) (p : Option (Nat × Nat)) : Nat → Option (Nat × Nat) := fun x => if x = id then p else pg x
theorem updP_same (pg : Nat → Option (Nat × Nat)) (id : Nat) (p : Option (Nat × Nat)) : updP pg id p id = p := by simp [updP]
theorem updP_other (pg : Nat → Option (Nat × Nat)) {id x : Nat} (p : Option (Nat × Nat)) (h : ¬ x = id) : updP pg id p x = pg x := by simp [updP, h]
theorem pgM_at (pg : Nat → Option (Nat × Nat)) (id : Nat) : pgM pg (id : Int) = (pg id).map pageV := by
  unfold pgM
  rw [if_neg (by omega)]; rfl
theorem pgM_upd (pg : Nat → Option (Nat × Nat)) (id : Nat) (p : Option (Nat × Nat)) : updV (pgM pg) (id : Int) (p.map pageV) = pgM (updP pg id p) := by
  funext x
  by_cases e : x = (id : Int)
  · subst e; rw [updV_same, pgM_at, updP_same]
  · rw [updV_other _ _ e]
    unfold pgM
    by_cases h : x < 0
    · rw [if_pos h, if_pos h]
    · rw [if_neg h, if_neg h, updP_other _ _ (by omega)]
/-- The ids that no page has, each less 1. -/
def freeB (room : Nat) (pg : Nat → Option (Nat × Nat)) : Nat → Bool := fun x => decide (x < room) && (pg (x + 1)).isNone
theorem MVm : MV Tryd.prog 52 33 65 .u32 zeroP := ⟨Tryd.underlying52, Tryd.underlying33, fun w => by kernel_rfl⟩
/-- A Model's cells. -/
def mC (n mb room fc : Nat) (v : Value) (pin : Nat) : Nat → Value
  | 0 => .int .i64 n
  | 1 => .map (some mb)
  | 2 => .int .i64 room
  | 3 => .int .i64 fc
  | 4 => v
  | _ => .int .i64 pin
/-- A Model in block b: n frames, room; its pages; pin: how many are pinned; len: how many there are. -/
structure MM (w : World) (b n room : Nat) (pg : Nat → Option (Nat × Nat)) (pin len : Nat) (mb : Nat) (v : Value) (h : Nat → Nat) (L : Nat) : Prop where
  lc : LC w b 2 6 (mC n mb room (cntB (freeB room pg) room) v pin) room (freeB room pg) v h L
  mp : MpV Tryd.prog 33 .u32 zeroP w mb len (pgM pg)
  dom : ∀ id p, pg id = some p → 1 ≤ id ∧ id ≤ room
  num : len + cntB (freeB room pg) room = room
  nb : ¬ mb = b ∧ ¬ LF v h L mb
  ok : ∀ id p, pg id = some p → okV p.1 ∧ p.2 < 1000000
  hn : n ≤ 65535
  hp : pin ≤ len
/-- All its blocks. -/
def MF (b mb : Nat) (v : Value) (h : Nat → Nat) (L : Nat) : Nat → Prop := fun k => k = b ∨ k = mb ∨ LF v h L k
section
variable {w w' : World} {b n room pin len mb L : Nat} {pg : Nat → Option (Nat × Nat)} {v : Value} {h : Nat → Nat}
theorem MM.fr (H : MM w b n room pg pin len mb v h L) {G : Nat → Prop} (f : Fr G w w') (hG : ∀ k, MF b mb v h L k → ¬ G k) : MM w' b n room pg pin len mb v h L :=
  ⟨H.lc.fr f (hG b (.inl rfl)) (fun k q => hG k (.inr (.inr q))), H.mp.fr f (hG mb (.inr (.inl rfl))), H.dom, H.num, H.nb, H.ok, H.hn, H.hp⟩
theorem MM.fr0 (H : MM w b n room pg pin len mb v h L) (f : Fr NoF w w') : MM w' b n room pg pin len mb v h L := H.fr f (fun _ _ q => q)
theorem MM.lt (H : MM w b n room pg pin len mb v h L) : ∀ k, MF b mb v h L k → k < w.heap.size := by
  rintro k (rfl | rfl | q)
  · exact H.lc.blk.lt
  · exact H.mp.lt
  · exact H.lc.ls.r.lt k q
theorem MM.ce (H : MM w b n room pg pin len mb v h L) (i : Nat) (hi : i < 6) : w.cell? ⟨b, i, none⟩ = some (mC n mb room (cntB (freeB room pg) room) v pin i) := H.lc.blk.cell hi
theorem wf_id {id : Nat} (h : okId id) : (Lit.int .u32 (id : Nat)).wf = true := WalkArith.wf_u32 ⟨by omega, by unfold okId at h; omega⟩
/-- What 'pages[id]' is. -/
theorem MM.look (H : MM w b n room pg pin len mb v h L) {id : Nat} (hid : okId id) (W : World) (f : Fr NoF w W) :
    (Instr.lookup 52 (.map (some mb)) (.int .u32 (id : Nat)) true).run Tryd.prog W = .ok (.tuple #[((pg id).map pageV).getD zeroP, .bool (pg id).isSome]) W := by
  have := (H.fr0 f).mp.look_ok_run MVm (wf_id hid)
  rw [pgM_at] at this
  rw [this]
  cases pg id <;> rfl
set_option maxHeartbeats 1000000 in
theorem known_calls (H : MM w b n room pg pin len mb v h L) {id : Nat} (hid : okId id) : Calls Tryd.prog 19 #[.pointer (some ⟨b, 0, none⟩), .int .u32 id] w fun e w' => e = .returned (.int .i64 (if (pg id).isSome then 0 else 3)) ∧ Fr NoF w w' := by
  have c1 : w.cell? ⟨b, 1, none⟩ = some (.map (some mb)) := H.ce 1 (by omega)
  have lb := H.lc.blk.lt
  have lk := H.look hid w (Fr.refl NoF w)
  cases hp : pg id with
  | none =>
    rw [hp] at lk
    simp only [Option.map_none, Option.getD_none, Option.isSome_none] at lk
    unfold zeroP at lk
    clear H hp
    go_enter Tryd.func19, Tryd.ntmps19
    go_wp2
    go_returns
    exact ⟨rfl, (Fr.refl NoF w).alloc _⟩
  | some p =>
    rw [hp] at lk
    simp only [Option.map_some, Option.getD_some, Option.isSome_some] at lk
    unfold pageV at lk
    clear H hp
    go_enter Tryd.func19, Tryd.ntmps19
    go_wp2
    go_returns
    exact ⟨rfl, (Fr.refl NoF w).alloc _⟩
theorem blk_two (w : World) (u1 u2 x1 x2 : Value) {t t' : TypeId} : Blk ((w.alloc (.cells #[u1, u2] t)).alloc (.cells #[x1, x2] t')) w.heap.size 2 (fun i => if i = 0 then u1 else u2) :=
  (Blk.new _ _ _ _ _ _ rfl rfl (fun i hi => by
    match i, hi with
    | 0, _ => rfl
    | 1, _ => rfl)).alloc _
/-- What 'held' says. -/
def heldX (p : Option (Nat × Nat)) : Nat := match p with | none => 0 | some p => if p.2 = 0 then 0 else p.1
def heldY (p : Option (Nat × Nat)) : Nat := match p with | none => 0 | some p => p.2
def heldE (p : Option (Nat × Nat)) : Int := match p with | none => 3 | some p => if p.2 = 0 then 5 else 0
def heldA (p : Option (Nat × Nat)) : Value × Int := (.agg #[.int .u64 (heldX p : Nat), .int .i64 (heldY p : Nat)], heldE p)
set_option maxHeartbeats 1000000 in
theorem held_calls (H : MM w b n room pg pin len mb v h L) {id : Nat} (hid : okId id) : Calls Tryd.prog 27 #[.pointer (some ⟨b, 0, none⟩), .int .u32 id] w fun e w' => e = .returned (.tuple #[(heldA (pg id)).1, .int .i64 (heldA (pg id)).2]) ∧ Fr NoF w w' := by
  have c1 : w.cell? ⟨b, 1, none⟩ = some (.map (some mb)) := H.ce 1 (by omega)
  have lb := H.lc.blk.lt
  have c1' : (w.alloc (.cells #[.int .u64 0, .int .i64 0] 65)).cell? ⟨b, 1, none⟩ = some (.map (some mb)) := by
    have := (H.fr0 ((Fr.refl NoF w).alloc (.cells #[.int .u64 0, .int .i64 0] 65))).ce 1 (by omega)
    exact this
  have lk := H.look hid (w.alloc (.cells #[.int .u64 0, .int .i64 0] 65)) ((Fr.refl NoF w).alloc _)
  cases hp : pg id with
  | none =>
    rw [hp] at lk
    simp only [Option.map_none, Option.getD_none, Option.isSome_none] at lk
    unfold zeroP at lk
    clear H hp
    go_enter Tryd.func27, Tryd.ntmps27
    go_wp2
    (try simp only [Exit.inBlock, Exit.then])
    refine bodyPost_ret (results_blk2 Tryd.results27 _ _ (blk_two w _ _ _ _) rfl Tryd.underlying65 rfl (by kernel_rfl)) rfl ?_
    exact ⟨rfl, ((Fr.refl NoF w).alloc _).alloc _⟩
  | some p =>
    obtain ⟨pv, pn⟩ := p
    rw [hp] at lk
    simp only [Option.map_some, Option.getD_some, Option.isSome_some] at lk
    unfold pageV at lk
    have hpn := (H.ok id _ hp).2
    simp only at hpn
    clear H hp
    by_cases h0 : pn = 0
    · subst h0
      go_enter Tryd.func27, Tryd.ntmps27
      go_wp2
      (try simp only [Exit.inBlock, Exit.then])
      refine bodyPost_ret (results_blk2 Tryd.results27 _ _ (blk_two w _ _ _ _) rfl Tryd.underlying65 rfl (by kernel_rfl)) rfl ?_
      exact ⟨rfl, ((Fr.refl NoF w).alloc _).alloc _⟩
    · have g0 : ((pn : Int) == 0) = false := by simpa using h0
      have HE : Hid (heldA (some (pv, pn)) = (pageV (pv, pn), 0)) := by unfold Hid heldA heldX heldY heldE pageV; simp [h0]
      rw [HE.out]
      clear h0
      go_enter Tryd.func27, Tryd.ntmps27
      go_wp2
      (try simp only [Exit.inBlock, Exit.then])
      refine bodyPost_ret (results_blk2 Tryd.results27 _ _ (blk_two w _ _ _ _) rfl Tryd.underlying65 rfl (by kernel_rfl)) rfl ?_
      exact ⟨rfl, ((Fr.refl NoF w).alloc _).alloc _⟩
set_option maxHeartbeats 1000000 in
theorem value_calls (H : MM w b n room pg pin len mb v h L) {id : Nat} (hid : okId id) : Calls Tryd.prog 11 #[.pointer (some ⟨b, 0, none⟩), .int .u32 id] w fun e w' => e = .returned (.tuple #[.int .u64 (((pg id).map (·.1)).getD 0 : Nat), .bool (pg id).isSome]) ∧ Fr NoF w w' := by
  have c1 : w.cell? ⟨b, 1, none⟩ = some (.map (some mb)) := H.ce 1 (by omega)
  have lb := H.lc.blk.lt
  have lk := H.look hid w (Fr.refl NoF w)
  cases hp : pg id with
  | none =>
    rw [hp] at lk
    simp only [Option.map_none, Option.getD_none, Option.isSome_none] at lk
    unfold zeroP at lk
    clear H hp
    go_enter Tryd.func11, Tryd.ntmps11
    go_wp2
    go_returns
    exact ⟨rfl, (Fr.refl NoF w).alloc _⟩
  | some p =>
    rw [hp] at lk
    simp only [Option.map_some, Option.getD_some, Option.isSome_some] at lk
    unfold pageV at lk
    clear H hp
    go_enter Tryd.func11, Tryd.ntmps11
    go_wp2
    go_returns
    exact ⟨rfl, (Fr.refl NoF w).alloc _⟩
theorem value_nil (w : World) (id : Int) : Calls Tryd.prog 11 #[.pointer none, .int .u32 id] w fun e w' => e = .returned (.tuple #[.int .u64 0, .bool false]) ∧ w = w' := by
  go_enter Tryd.func11, Tryd.ntmps11
  go_wp2
  go_returns
  exact ⟨rfl, rfl⟩
theorem blk_three (w : World) (u1 u2 u3 : Value) {t : TypeId} : Blk (w.alloc (.cells #[u1, u2, u3] t)) w.heap.size 3 (fun i => if i = 0 then u1 else if i = 1 then u2 else u3) :=
  Blk.new _ _ _ _ _ _ rfl rfl (fun i hi => by
    match i, hi with
    | 0, _ => rfl
    | 1, _ => rfl
    | 2, _ => rfl)
/-- A struct of three cells is stored into a block of the call's own. -/
theorem store3 {w0 w : World} {g : Nat} {c : Nat → Value} (hb : Blk w g 3 c) (hf : Fr NoF w0 w) (hg : w0.heap.size ≤ g) (x y z : Value) :
    Blk (((w.setCell ⟨g, 0, none⟩ x).setCell ⟨g, 1, none⟩ y).setCell ⟨g, 2, none⟩ z) g 3 (upd (upd (upd c 0 x) 1 y) 2 z) ∧ Fr NoF w0 (((w.setCell ⟨g, 0, none⟩ x).setCell ⟨g, 1, none⟩ y).setCell ⟨g, 2, none⟩ z) :=
  ⟨((hb.set 0 _).set 1 _).set 2 _, ((hf.setCell (p := ⟨g, 0, none⟩) (.inr hg) _).setCell (p := ⟨g, 1, none⟩) (.inr hg) _).setCell (p := ⟨g, 2, none⟩) (.inr hg) _⟩
set_option maxHeartbeats 1000000 in
theorem read_calls (H : MM w b n room pg pin len mb v h L) {id : Nat} (hid : okId id) : Calls Tryd.prog 17 #[.pointer (some ⟨b, 0, none⟩), .int .u32 id] w fun e w' => e = .returned (.agg #[.int .i64 (heldE (pg id)), .int .u32 0, .int .u64 (heldX (pg id) : Nat)]) ∧ Fr NoF w w' := by
  have HH : Hid (Calls Tryd.prog 27 #[.pointer (some ⟨b, 0, none⟩), .int .u32 id] (w.alloc (.cells #[.int .i64 0, .int .u32 0, .int .u64 0] 38)) _) := held_calls (H.fr0 ((Fr.refl NoF w).alloc _)) hid
  unfold heldA at HH
  generalize pg id = p at *
  generalize heldX p = X at *
  generalize heldY p = Y at *
  generalize heldE p = E at *
  have HB0 := Lib.hid (blk_three w (.int .i64 0) (.int .u32 0) (.int .u64 0) (t := 38))
  clear H
  go_enter Tryd.func17, Tryd.ntmps17
  go_wp2_with fail
  refine HH.out.mono ?_
  clear HH
  rintro e w1 ⟨rfl, f⟩
  have RB := HB0.out.fr f (fun q => q)
  have HRB := Lib.hid RB
  have HF : Hid (Fr NoF w w1) := ((Fr.refl NoF w).alloc _).trans f (fun _ q => .inl q)
  have t0 : w1.cell? ⟨w.heap.size, 0, none⟩ = some (.int .i64 0) := RB.cell (i := 0) (by omega)
  have t1 : w1.cell? ⟨w.heap.size, 1, none⟩ = some (.int .u32 0) := RB.cell (i := 1) (by omega)
  have t2 : w1.cell? ⟨w.heap.size, 2, none⟩ = some (.int .u64 0) := RB.cell (i := 2) (by omega)
  have g0 := RB.frozen 0
  have g1 := RB.frozen 1
  have g2 := RB.frozen 2
  have lr := RB.lt
  clear RB f HB0
  go_wp2
  obtain ⟨r1, r2⟩ := store3 HRB.out HF.out (Nat.le_refl _) (.int .i64 E) (.int .u32 0) (.int .u64 X)
  (try simp only [Exit.inBlock, Exit.then])
  refine bodyPost_ret (results_blk Tryd.results17 _ _ (r1.alloc _) rfl Tryd.underlying38 rfl (by kernel_rfl)) rfl ?_
  exact ⟨rfl, r2.alloc _⟩
end
end Go.Proofs.YtnjdoifgljdjcaaDoor
