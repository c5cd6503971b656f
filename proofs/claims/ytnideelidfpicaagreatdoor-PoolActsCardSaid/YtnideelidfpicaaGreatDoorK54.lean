/-
  PoolActs: whatever is done, one thing behind the other, with whatever advice, and however the disk fails, is answered as the document says, and all pages are where they are to be: the row, and its card. No condition of its own; the library's table of trailing zeros (math/bits.deBruijn64tab) is as its initialiser lays it: the card ties it to the program's text.
  PoolActs: whatever is done, one thing behind the other, with whatever advice, and however the disk fails, is answered as the document says: the walk. No condition of its own; the library's table of trailing zeros is as its initialiser lays it.
-/
import Derived.Test.YtnideelidfpicaaGreatDoorK52
import Derived.Test.YtnideelidfpicaaGreatDoorK53
import Derived.Deep.RegionHeld3
import Derived.Deep.QuietTactic
import Derived.BigQuiet
import Derived.Test.YtnideelidfpicaaGreatDoorCards
import Derived.Deep.Slices
import Derived.Deep.Strs
namespace Go.Proofs.YtnideelidfpicaaGreatDoor
open Go.RowKit Go.Maps
set_option linter.unusedVariables false
set_option linter.unusedSimpArgs false
set_option linter.unusedSectionVars false
theorem SlZ.cut {w : World} {a : Option Addr} {c : Nat} {l : List Int} (h : SlZ w (.slice a l.length c) l) (k : Nat) (hk : k ≤ l.length) : SlZ w (.slice a k c) (l.take k) := by
  have e : (l.take k).length = k := by rw [List.length_take]; omega
  by_cases hc : 0 < c
  · obtain ⟨b, off, rfl, h1⟩ := SlC.cut (lo := 0) (hi := k) h (by omega) hk rfl hc
    simp only [Nat.zero_mul, Nat.add_zero, Nat.sub_zero, List.drop_zero, Nat.mul_one] at h1
    unfold SlZ
    rw [e, List.map_take]
    exact h1
  · obtain ⟨_, _, e1, q1, _⟩ := h.shape
    simp only [Value.slice.injEq] at e1
    obtain ⟨rfl, _, rfl⟩ := e1
    obtain rfl : k = l.length := by omega
    rw [List.take_length]
    exact h
theorem te_holds2 {w0 w : World} {p : PP} {q : QQ} {lb m : Nat} {X : PS (List Int)} (H : TE p q lb w0 w X m) : ∃ a n c, w.cell? ⟨q.rb, 1, none⟩ = some (.slice a n c) ∧ q.rb < w.heap.size ∧ ∀ W, Fr NoF w W → Calls Tryz.prog 12 #[.pointer (some ⟨p.db, 0, none⟩), .slice a n c] W fun e w' => e = .returned (.bool true) ∧ Fr NoF W w' := by
  obtain ⟨F, G, h1, h2, _⟩ := H
  obtain ⟨FC, s, c, pv, fv, mb, fh, nf, d1, d2, _⟩ := h1.1.cdE
  obtain ⟨FQ, lv, nv, sv, e1, _⟩ := h2.qd
  have c1 := e1.ce 1 (by omega)
  obtain ⟨a, cc, e, _, _⟩ := e1.hl.shape
  exact ⟨a, _, cc, by rw [c1]; show some lv = _; rw [e], e1.hd.lt, fun W g => by rw [← e]; exact holds_yes (d1.fr0 g) (e1.hl.fr0 g) e1.b1 d2⟩
theorem TE.cells {w0 w w' : World} {p : PP} {q : QQ} {lb m : Nat} {X : PS (List Int)} (H : TE p q lb w0 w X m) (g : Fr NoF w w') {b o : Nat} (hb : b < w0.heap.size) {x y z : Value} (hc : w0.cell? ⟨b, o, none⟩ = some x ∧ w0.cell? ⟨b, o + 1, none⟩ = some y ∧ w0.cell? ⟨b, o + 2, none⟩ = some z) : w'.cell? ⟨b, o, none⟩ = some x ∧ w'.cell? ⟨b, o + 1, none⟩ = some y ∧ w'.cell? ⟨b, o + 2, none⟩ = some z := by
  obtain ⟨F, G, _, _, _, f⟩ := H
  have f2 : Fr NoF w0 w' := f.trans g (fun _ k => k.elim)
  rw [f2.cell (p := ⟨b, o, none⟩) hb id, f2.cell (p := ⟨b, o + 1, none⟩) hb id, f2.cell (p := ⟨b, o + 2, none⟩) hb id]
  exact hc
set_option maxRecDepth 100000 in
set_option maxHeartbeats 16000000 in
theorem pool_walk (a0 : Int) (v av : Value) (zs : List OpZ) (l : List Int) (w : World) (hv : ArgZ w v zs) (ha : SlZ w av l) (hT : TabT w) : Calls Tryz.prog 3 #[.int .i64 a0, v, av] w fun e w' => e = .returned (.bool true) ∧ Fr NoF w w' := by
  obtain ⟨sa, sc, ev, q1, q2, hcells, hrng⟩ := hv
  subst ev
  obtain ⟨aa, ac, rfl, p1, p2⟩ := SlC.shape ha
  unfold maxLen at q2 p2
  have HCE := Lib.hid hcells
  have HRG := Lib.hid hrng
  have HAD := Lib.hid ha
  have HT := Lib.hid hT
  clear hcells hrng ha hT
  obtain ⟨n, hn1, hn2, en⟩ := modu1 a0 (k := 6) (by decide) (by decide)
  have EN := Lib.hid en
  clear en
  go_enter Tryz.func3, Tryz.ntmps3
  go_wp2_with fail
  rw [EN.out]
  have HK : Hid ((min (l.length : Int) 200).toNat ≤ l.length ∧ (min (l.length : Int) 200).toNat ≤ 200) := ⟨by omega, by omega⟩
  generalize (min (l.length : Int) 200).toNat = k at *
  have HA2 := Lib.hid (HAD.out.cut k HK.out.1)
  have hlk : (l.take k).length = k := by rw [List.length_take]; have := HK.out.1; omega
  have hl2 : (l.take k).length ≤ 65535 := by have := HK.out.2; omega
  generalize l.take k = L at *
  subst hlk
  clear HAD HK EN p1
  refine (cd_new 12 _ (by omega) (by omega)).mono ?_
  rintro e w1 ⟨db, FD, rfl, d1, d2, d3⟩
  have D1 := Lib.hid d1
  have D2 := Lib.hid d2
  have D3 := Lib.hid d3
  clear d1 d2 d3
  go_wp2_with fail
  refine (toldP_calls (HT.out.fr0 D3.out)).mono ?_
  rintro e w2 ⟨rfl, f2⟩
  have F2 := Lib.hid (D3.out.trans f2 (fun _ q => q.elim))
  have D4 := Lib.hid (D1.out.fr0 f2)
  clear f2 D1 D3
  go_wp2_with fail
  refine (advise_calls (HA2.out.keep F2.out) hl2).mono ?_
  rintro e w3 ⟨lb, FA, rfl, a1, a2, a3⟩
  have htl := HT.out.lt
  have F3 := Lib.hid (F2.out.trans a3 (fun _ q => q.elim))
  have hs2 := F2.out.size
  have HN := Lib.hid (pa_new (w0 := w) (n := n) (D4.out.fr0 a3) (by omega) a1 (fun i q k => by have := D4.out.lt i q; have := a2 i k; omega) (HT.out.fr0 F3.out) ⟨fun q => by have := D2.out _ q; omega, fun q => by have := a2 _ q; omega⟩ ⟨by omega, by omega⟩ (by show 0 ≤ 1000; omega) (p_inv n) (fun i q => q.elim (fun q => D2.out i q) (fun q => by have := a2 i q; omega)) F3.out)
  clear a1 a2 a3 D4 D2 F2 F3 hs2
  go_wp2_with fail
  refine HN.out.mono ?_
  clear HN
  rintro e w4 ⟨p, hpn, hpd, hpr, rfl, h4⟩
  subst hpd
  have HR := Lib.hid hpr
  have HP := Lib.hid hpn
  have H4 := Lib.hid h4
  clear hpr hpn h4
  unfold PP.ptr
  go_wp2_with fail
  refine (rnew_calls n _ _ ⟨by omega, by omega⟩ _ _ _).mono ?_
  rintro e w6 ⟨q, k1, k2, rfl, k3, k4, k5, k6, k7, k8⟩
  have HE0 : Hid (TE p q lb w w6 ⟨fun _ => zF, rs0 12, L, 0⟩ 1000) := by
    obtain ⟨F, z1, z2, z3⟩ := H4.out
    have fa : Fr NoF w4 (w4.alloc (.cells #[.int .i64 (12 : Nat), .slice none 0 0, .slice none 0 0, .slice none 0 0, .int .i64 0, .int .i64 0, .bool false, .int .i64 0] 41)) := (Fr.refl NoF w4).alloc _
    have hs4 := z3.size
    exact te_first HR.out HP.out ⟨F, PW.fr0 (pa_sys HR.out) z1 fa, z2, z3.trans fa (fun _ q => q.elim), fun i k q => by have := FR.nil_is k; have := PA.lt HR.out z1 i q; omega⟩ (qd_first 12 1000 w4 (by omega)) (fun i k => by have := FR.nil_is k; omega) ⟨by omega, by omega⟩ ((HA2.out.keep z3).keep fa) (fun b e => HA2.out.lt b e) k1 k2 k3 k4 k5 k6 k7 k8
  have HQ := Lib.hid k1
  clear k1 k2 k3 k4 k5 k6 k7 k8 H4 HA2
  unfold QQ.ptr
  go_wp2_with fail
  go_loopw [13] (fun i wr => ∃ j : Nat, j ≤ zs.length ∧ i = .int .i64 j ∧ j ≤ 150 ∧ ∃ X : PS (List Int), TE p q lb w wr X (1000 + 100 * j) ∧ X.D.room = 12) (fun i _ => zs.length - (intOf i).toNat)
  case atStart => exact ⟨0, Nat.zero_le _, rfl, Nat.zero_le _, _, HE0.out, rfl⟩
  case round =>
    obtain ⟨j, hj, rfl, hj2, X, hE, hrn⟩ := hrel
    have HF0 : Hid (Fr NoF w wr) := by obtain ⟨F, G, _, _, _, h⟩ := hE; exact h
    by_cases hlt : j < zs.length
    · by_cases h150 : j < 150
      · obtain ⟨xb, xo, rfl, hxb, hcell⟩ := HCE.out (by omega)
        obtain ⟨cz0, cz1, cz2⟩ := hcell j zs[j] (List.getElem?_eq_getElem hlt)
        have HU := Lib.hid (HRG.out zs[j] (List.getElem_mem hlt))
        have HZ0 := Lib.hid (And.intro cz0 (And.intro cz1 cz2))
        rw [← HF0.out.cell (p := ⟨xb, xo + j * 3, none⟩) hxb id] at cz0
        rw [← HF0.out.cell (p := ⟨xb, xo + j * 3 + 1, none⟩) hxb id] at cz1
        rw [← HF0.out.cell (p := ⟨xb, xo + j * 3 + 2, none⟩) hxb id] at cz2
        generalize zs[j] = z at cz0 cz1 cz2 HU HZ0
        obtain ⟨zk, zi, zx⟩ := z
        have HZ : Hid (w.cell? ⟨xb, xo + j * 3, none⟩ = some (.int .i64 zk) ∧ w.cell? ⟨xb, xo + j * 3 + 1, none⟩ = some (.int .u32 zi) ∧ w.cell? ⟨xb, xo + j * 3 + 2, none⟩ = some (.int .u64 zx)) := HZ0.out
        clear HZ0
        simp only at cz0 cz1 cz2 HU
        clear hcell
        have hsz := HF0.out.size
        have hn64 : p.n ≤ 64 := by rw [HP.out]; omega
        have HB : Hid (∀ W, Fr NoF wr W → Calls Tryz.prog 9 #[p.ptr, q.ptr, .pointer (some ⟨p.db, 0, none⟩), .agg #[.int .i64 zk, .int .u32 zi, .int .u64 zx]] W fun e w' => e = .returned (.bool true) ∧ ∃ X' : PS (List Int), TE p q lb w w' X' (1000 + 100 * j + 100) ∧ X'.D.room = X.D.room) := fun W g =>
          both_calls HR.out (HP.out.trans HQ.out.symm) htl (hE.fr0 HR.out g) (by omega) hn64 (by omega) zk HU.out.1 HU.out.2
        have HRN := Lib.hid hrn
        have HE := Lib.hid hE
        clear hE hrn HE0 HF0
        unfold PP.ptr QQ.ptr at HB
        go_wp2_with fail
        refine wp_region_held_drew (S := (fun w' => w'.cell? ⟨xb, xo + j * 3, none⟩ = some (.int .i64 zk) ∧ w'.cell? ⟨xb, xo + j * 3 + 1, none⟩ = some (.int .u32 zi) ∧ w'.cell? ⟨xb, xo + j * 3 + 2, none⟩ = some (.int .u64 zx))) (by kernel_rfl) ?_ (fun hHeld => ?_)
        · (try dsimp only); exact HE.out.cells (by repeat (first | exact Fr.refl NoF _ | apply Fr.drew | apply Fr.drewN)) hxb HZ.out
        refine wpAnyH_take (i := 0) (oi := (⟨some 68, Op.move (Operand.tmp 10), 30, "law.go:89", #[], none⟩ : Oper)) (v := ?_) rfl (by kernel_rfl) (by kernel_rfl) (by kernel_rfl) (fun _ _ _ h => h) (Or.inl ⟨by rfl, ?_⟩) (by assumption) ?_
        rotate_left
        · intro w hSw; (try dsimp only at hSw); go_simp; (try with_reducible rfl)
        simp only [Act.put, List.setIfInBounds_toArray, List.set_cons_zero, List.set_cons_succ]
        refine wpAnyH_take (i := 1) (oi := (⟨some 69, Op.move (Operand.tmp 12), 36, "law.go:89", #[], none⟩ : Oper)) (v := ?_) rfl (by kernel_rfl) (by kernel_rfl) (by kernel_rfl) (fun _ _ _ h => h) (Or.inl ⟨by rfl, ?_⟩) (by assumption) ?_
        rotate_left
        · intro w hSw; (try dsimp only at hSw); go_simp; (try with_reducible rfl)
        simp only [Act.put, List.setIfInBounds_toArray, List.set_cons_zero, List.set_cons_succ]
        refine wpAnyH_take (i := 2) (oi := (⟨some 70, Op.move (Operand.tmp 8), 25, "law.go:89", #[], none⟩ : Oper)) (v := ?_) rfl (by kernel_rfl) (by kernel_rfl) (by kernel_rfl) (fun _ _ _ h => h) (Or.inl ⟨by rfl, ?_⟩) (by assumption) ?_
        rotate_left
        · intro w hSw; (try dsimp only at hSw); go_simp; (try with_reducible rfl)
        simp only [Act.put, List.setIfInBounds_toArray, List.set_cons_zero, List.set_cons_succ]
        refine wpAnyH_take (i := 3) (oi := (⟨some 71, Op.move (Operand.tmp 1), 22, "law.go:89", #[], none⟩ : Oper)) (v := ?_) rfl (by kernel_rfl) (by kernel_rfl) (by kernel_rfl) (fun _ _ _ h => h) (Or.inl ⟨by rfl, ?_⟩) (by assumption) ?_
        rotate_left
        · intro w hSw; (try dsimp only at hSw); go_simp; (try with_reducible rfl)
        simp only [Act.put, List.setIfInBounds_toArray, List.set_cons_zero, List.set_cons_succ]
        refine wpAnyH_take (i := 4) (oi := (⟨some 72, Op.move (Operand.tmp 13), 3, "law.go:89", #[], none⟩ : Oper)) (v := ?_) rfl (by kernel_rfl) (by kernel_rfl) (by kernel_rfl) (fun _ _ _ h => h) (Or.inl ⟨by rfl, ?_⟩) (by assumption) ?_
        rotate_left
        · intro w hSw; (try dsimp only at hSw); go_simp; (try with_reducible rfl)
        simp only [Act.put, List.setIfInBounds_toArray, List.set_cons_zero, List.set_cons_succ]
        refine wpAnyH_take (i := 5) (oi := (⟨some 73, Op.indexAddr 22 (Operand.tmp 71) (Operand.tmp 72), 0, "law.go:89", #[⟨3, Ground.data⟩, ⟨4, Ground.data⟩], none⟩ : Oper)) (v := ?_) rfl (by kernel_rfl) (by kernel_rfl) (by kernel_rfl) (fun _ _ _ h => h) (Or.inl ⟨by rfl, ?_⟩) (by assumption) ?_
        rotate_left
        · intro w hSw; (try dsimp only at hSw); go_simp; (try with_reducible rfl)
        simp only [Act.put, List.setIfInBounds_toArray, List.set_cons_zero, List.set_cons_succ]
        refine wpAnyH_take (i := 6) (oi := (⟨some 74, Op.load 45 (Operand.tmp 73), 45, "law.go:89", #[⟨5, Ground.data⟩], none⟩ : Oper)) (v := ?_) rfl (by kernel_rfl) (by kernel_rfl) (by kernel_rfl) (fun _ _ _ h => h) (Or.inl ⟨by rfl, ?_⟩) (by assumption) ?_
        rotate_left
        · intro w hSw; (try dsimp only at hSw); go_simp; (try with_reducible rfl)
        simp only [Act.put, List.setIfInBounds_toArray, List.set_cons_zero, List.set_cons_succ]
        refine wpAnyH_ready (rs := [7]) (by kernel_rfl) (by simp) ?_
        refine AllReadyH.cons (o := (⟨some 75, Op.call ⟨Callee.value (Operand.func 9), #[Operand.tmp 68, Operand.tmp 69, Operand.tmp 70, Operand.tmp 74], #[30, 36, 25, 45]⟩, 4, "law.go:89", #[⟨0, Ground.data⟩, ⟨1, Ground.data⟩, ⟨2, Ground.data⟩, ⟨6, Ground.data⟩], none⟩ : Oper)) rfl (fun K hK => ?_) AllReadyH.nil
        go_simp
        (go_at_call 9; (with_reducible refine (HB.out _ (by repeat (first | exact Fr.refl NoF _ | apply Fr.drew | apply Fr.drewN))).mono ?_); rintro e w5 ⟨rfl, X', h5, r5⟩; have H5 := Lib.hid h5; have R5 := Lib.hid r5; obtain ⟨s1, s2, s3, s4⟩ := te_sc h5; have HS5 := Lib.hid s1; clear h5 r5 s1)
        go_wp2_with fail
        refine hK.out _ _ ?_ (fun hHeld2 => ?_)
        · (try dsimp only); exact H5.out.cells (by repeat (first | exact Fr.refl NoF _ | apply Fr.drew | apply Fr.drewN)) hxb HZ.out
        clear hK K
        try simp only [Act.put, List.setIfInBounds_toArray, List.set_cons_zero, List.set_cons_succ]
        refine wpAnyH_take (i := 8) (oi := (⟨some 76, Op.unOp UnOp.not 4 (Operand.tmp 75), 4, "law.go:89", #[⟨7, Ground.data⟩], none⟩ : Oper)) (v := ?_) rfl (by kernel_rfl) (by kernel_rfl) (by kernel_rfl) (fun _ _ _ h => h) (Or.inl ⟨by rfl, ?_⟩) (by assumption) ?_
        rotate_left
        · intro w hSw; (try dsimp only at hSw); go_simp; (try with_reducible rfl)
        simp only [Act.put, List.setIfInBounds_toArray, List.set_cons_zero, List.set_cons_succ]
        refine wpAnyH_take (i := 9) (oi := (⟨some 77, Op.move (Operand.tmp 76), 4, "law.go:89", #[⟨8, Ground.data⟩, ⟨7, Ground.chain⟩], none⟩ : Oper)) (v := ?_) rfl (by kernel_rfl) (by kernel_rfl) (by kernel_rfl) (fun _ _ _ h => h) (Or.inl ⟨by rfl, ?_⟩) (by assumption) ?_
        rotate_left
        · intro w hSw; (try dsimp only at hSw); go_simp; (try with_reducible rfl)
        simp only [Act.put, List.setIfInBounds_toArray, List.set_cons_zero, List.set_cons_succ]
        refine wpAnyH_take (i := 10) (oi := (⟨some 78, Op.move (Operand.tmp 10), 30, "law.go:89", #[⟨9, Ground.guard⟩], some (9, false)⟩ : Oper)) (v := ?_) rfl (by kernel_rfl) (by kernel_rfl) (by kernel_rfl) (fun _ _ _ h => h) (Or.inl ⟨by rfl, ?_⟩) (by assumption) ?_
        rotate_left
        · intro w hSw; (try dsimp only at hSw); go_simp; (try with_reducible rfl)
        simp only [Act.put, List.setIfInBounds_toArray, List.set_cons_zero, List.set_cons_succ]
        refine wpAnyH_take (i := 12) (oi := (⟨some 80, Op.move (Operand.tmp 12), 36, "law.go:89", #[⟨9, Ground.guard⟩], some (9, false)⟩ : Oper)) (v := ?_) rfl (by kernel_rfl) (by kernel_rfl) (by kernel_rfl) (fun _ _ _ h => h) (Or.inl ⟨by rfl, ?_⟩) (by assumption) ?_
        rotate_left
        · intro w hSw; (try dsimp only at hSw); go_simp; (try with_reducible rfl)
        simp only [Act.put, List.setIfInBounds_toArray, List.set_cons_zero, List.set_cons_succ]
        refine wpAnyH_take (i := 13) (oi := (⟨some 81, Op.nilCheck (Operand.tmp 80), 0, "law.go:89", #[⟨12, Ground.data⟩, ⟨9, Ground.guard⟩], some (9, false)⟩ : Oper)) (v := ?_) rfl (by kernel_rfl) (by kernel_rfl) (by kernel_rfl) (fun _ _ _ h => h) (Or.inl ⟨by rfl, ?_⟩) (by assumption) ?_
        rotate_left
        · intro w hSw; (try dsimp only at hSw); go_simp; (try with_reducible rfl)
        simp only [Act.put, List.setIfInBounds_toArray, List.set_cons_zero, List.set_cons_succ]
        refine wpAnyH_take (i := 14) (oi := (⟨some 82, Op.fieldAddr 49 (Operand.tmp 81) 3, 0, "law.go:89", #[⟨13, Ground.data⟩, ⟨9, Ground.guard⟩], some (9, false)⟩ : Oper)) (v := ?_) rfl (by kernel_rfl) (by kernel_rfl) (by kernel_rfl) (fun _ _ _ h => h) (Or.inl ⟨by rfl, ?_⟩) (by assumption) ?_
        rotate_left
        · intro w hSw; (try dsimp only at hSw); go_simp; (try with_reducible rfl)
        simp only [Act.put, List.setIfInBounds_toArray, List.set_cons_zero, List.set_cons_succ]
        refine wpAnyH_ready (rs := [11, 15]) (by kernel_rfl) (by simp) ?_
        refine AllReadyH.cons (o := (⟨some 79, Op.call ⟨Callee.value (Operand.func 10), #[Operand.tmp 78], #[30]⟩, 3, "law.go:89", #[⟨10, Ground.data⟩, ⟨9, Ground.chain⟩, ⟨9, Ground.guard⟩], some (9, false)⟩ : Oper)) rfl (fun K hK => ?_) (AllReadyH.cons (o := (⟨some 83, Op.load 3 (Operand.tmp 82), 3, "law.go:89", #[⟨14, Ground.data⟩, ⟨9, Ground.guard⟩], some (9, false)⟩ : Oper)) rfl (fun K hK => ?_) AllReadyH.nil)
        focus
          go_simp
          (go_at_call 10; (refine (te_sc (H5.out.fr0 HR.out (by repeat (first | exact Fr.refl NoF _ | apply Fr.drew | apply Fr.drewN)))).1.mono ?_); rintro e w6 ⟨rfl, rfl⟩)
          go_wp2_with fail
          refine hK.out _ _ ?_ (fun hHeld2 => ?_)
          · (try dsimp only); exact H5.out.cells (by repeat (first | exact Fr.refl NoF _ | apply Fr.drew | apply Fr.drewN)) hxb HZ.out
          clear hK K
          try simp only [Act.put, List.setIfInBounds_toArray, List.set_cons_zero, List.set_cons_succ]
          refine wpAnyH_ready (rs := [15]) (by kernel_rfl) (by simp) ?_
          refine AllReadyH.cons (o := (⟨some 83, Op.load 3 (Operand.tmp 82), 3, "law.go:89", #[⟨14, Ground.data⟩, ⟨9, Ground.guard⟩], some (9, false)⟩ : Oper)) rfl (fun K hK => ?_) AllReadyH.nil
          go_simp
          refine hK.out _ _ ?_ (fun hHeld2 => ?_)
          · (try dsimp only); exact H5.out.cells (by repeat (first | exact Fr.refl NoF _ | apply Fr.drew | apply Fr.drewN)) hxb HZ.out
          clear hK K
          try simp only [Act.put, List.setIfInBounds_toArray, List.set_cons_zero, List.set_cons_succ]
          refine wpAnyH_take (i := 16) (oi := (⟨some 84, Op.binOp BinOp.neq 3 (Operand.tmp 79) (Operand.tmp 83) 3, 4, "law.go:89", #[⟨11, Ground.data⟩, ⟨15, Ground.data⟩, ⟨9, Ground.guard⟩], some (9, false)⟩ : Oper)) (v := ?_) rfl (by kernel_rfl) (by kernel_rfl) (by kernel_rfl) (fun _ _ _ h => h) (Or.inl ⟨by rfl, ?_⟩) (by assumption) ?_
          rotate_left
          · intro w hSw; (try dsimp only at hSw); go_simp; (try with_reducible rfl)
          simp only [Act.put, List.setIfInBounds_toArray, List.set_cons_zero, List.set_cons_succ]
          refine wpAnyH_take (i := 17) (oi := (⟨some 85, Op.pick (Operand.tmp 77) (Operand.const (Value.bool true)) (Operand.tmp 84), 4, "law.go:89", #[⟨9, Ground.data⟩, ⟨16, Ground.data⟩], none⟩ : Oper)) (v := ?_) rfl (by kernel_rfl) (by kernel_rfl) (by kernel_rfl) (fun _ _ _ h => h) (Or.inl ⟨by rfl, ?_⟩) (by assumption) ?_
          rotate_left
          · intro w hSw; (try dsimp only at hSw); go_simp; (try with_reducible rfl)
          simp only [Act.put, List.setIfInBounds_toArray, List.set_cons_zero, List.set_cons_succ]
          refine wpAnyH_take (i := 18) (oi := (⟨some 86, Op.move (Operand.tmp 85), 4, "law.go:89", #[⟨17, Ground.data⟩, ⟨11, Ground.chain⟩], none⟩ : Oper)) (v := ?_) rfl (by kernel_rfl) (by kernel_rfl) (by kernel_rfl) (fun _ _ _ h => h) (Or.inl ⟨by rfl, ?_⟩) (by assumption) ?_
          rotate_left
          · intro w hSw; (try dsimp only at hSw); go_simp; (try with_reducible rfl)
          simp only [Act.put, List.setIfInBounds_toArray, List.set_cons_zero, List.set_cons_succ]
          refine wpAnyH_take (i := 19) (oi := (⟨some 87, Op.move (Operand.tmp 8), 25, "law.go:89", #[⟨18, Ground.guard⟩], some (18, false)⟩ : Oper)) (v := ?_) rfl (by kernel_rfl) (by kernel_rfl) (by kernel_rfl) (fun _ _ _ h => h) (Or.inl ⟨by rfl, ?_⟩) (by assumption) ?_
          rotate_left
          · intro w hSw; (try dsimp only at hSw); go_simp; (try with_reducible rfl)
          simp only [Act.put, List.setIfInBounds_toArray, List.set_cons_zero, List.set_cons_succ]
          refine wpAnyH_take (i := 20) (oi := (⟨some 88, Op.move (Operand.tmp 12), 36, "law.go:89", #[⟨18, Ground.guard⟩], some (18, false)⟩ : Oper)) (v := ?_) rfl (by kernel_rfl) (by kernel_rfl) (by kernel_rfl) (fun _ _ _ h => h) (Or.inl ⟨by rfl, ?_⟩) (by assumption) ?_
          rotate_left
          · intro w hSw; (try dsimp only at hSw); go_simp; (try with_reducible rfl)
          simp only [Act.put, List.setIfInBounds_toArray, List.set_cons_zero, List.set_cons_succ]
          refine wpAnyH_take (i := 21) (oi := (⟨some 89, Op.nilCheck (Operand.tmp 88), 0, "law.go:89", #[⟨20, Ground.data⟩, ⟨18, Ground.guard⟩], some (18, false)⟩ : Oper)) (v := ?_) rfl (by kernel_rfl) (by kernel_rfl) (by kernel_rfl) (fun _ _ _ h => h) (Or.inl ⟨by rfl, ?_⟩) (by assumption) ?_
          rotate_left
          · intro w hSw; (try dsimp only at hSw); go_simp; (try with_reducible rfl)
          simp only [Act.put, List.setIfInBounds_toArray, List.set_cons_zero, List.set_cons_succ]
          refine wpAnyH_take (i := 22) (oi := (⟨some 90, Op.fieldAddr 49 (Operand.tmp 89) 0, 0, "law.go:89", #[⟨21, Ground.data⟩, ⟨18, Ground.guard⟩], some (18, false)⟩ : Oper)) (v := ?_) rfl (by kernel_rfl) (by kernel_rfl) (by kernel_rfl) (fun _ _ _ h => h) (Or.inl ⟨by rfl, ?_⟩) (by assumption) ?_
          rotate_left
          · intro w hSw; (try dsimp only at hSw); go_simp; (try with_reducible rfl)
          simp only [Act.put, List.setIfInBounds_toArray, List.set_cons_zero, List.set_cons_succ]
          refine wpAnyH_ready (rs := [23]) (by kernel_rfl) (by simp) ?_
          refine AllReadyH.cons (o := (⟨some 91, Op.load 38 (Operand.tmp 90), 38, "law.go:89", #[⟨22, Ground.data⟩, ⟨18, Ground.guard⟩], some (18, false)⟩ : Oper)) rfl (fun K hK => ?_) AllReadyH.nil
          go_simp
          refine hK.out _ _ ?_ (fun hHeld2 => ?_)
          · (try dsimp only); exact H5.out.cells (by repeat (first | exact Fr.refl NoF _ | apply Fr.drew | apply Fr.drewN)) hxb HZ.out
          clear hK K
          try simp only [Act.put, List.setIfInBounds_toArray, List.set_cons_zero, List.set_cons_succ]
          refine wpAnyH_ready (rs := [24]) (by kernel_rfl) (by simp) ?_
          refine AllReadyH.cons (o := (⟨some 92, Op.call ⟨Callee.value (Operand.func 11), #[Operand.tmp 87, Operand.tmp 91], #[25, 38]⟩, 4, "law.go:89", #[⟨19, Ground.data⟩, ⟨23, Ground.data⟩, ⟨18, Ground.chain⟩, ⟨18, Ground.guard⟩], some (18, false)⟩ : Oper)) rfl (fun K hK => ?_) AllReadyH.nil
          go_simp
          (go_at_call 11; (refine (te_same (H5.out.fr0 HR.out (by repeat (first | exact Fr.refl NoF _ | apply Fr.drew | apply Fr.drewN)))).mono ?_); rintro e w6 ⟨rfl, f6⟩; have H6 := Lib.hid ((H5.out.fr0 HR.out (by repeat (first | exact Fr.refl NoF _ | apply Fr.drew | apply Fr.drewN))).fr0 HR.out f6); clear f6; obtain ⟨_, _, u3, u4⟩ := te_sc H6.out; obtain ⟨la, ln, lc, cl, lbb, hH⟩ := te_holds2 H6.out; have HH := Lib.hid hH; clear hH)
          go_wp2_with fail
          refine hK.out _ _ ?_ (fun hHeld2 => ?_)
          · (try dsimp only); exact H6.out.cells (by repeat (first | exact Fr.refl NoF _ | apply Fr.drew | apply Fr.drewN)) hxb HZ.out
          clear hK K
          try simp only [Act.put, List.setIfInBounds_toArray, List.set_cons_zero, List.set_cons_succ]
          refine wpAnyH_take (i := 25) (oi := (⟨some 93, Op.unOp UnOp.not 4 (Operand.tmp 92), 4, "law.go:89", #[⟨24, Ground.data⟩, ⟨18, Ground.guard⟩], some (18, false)⟩ : Oper)) (v := ?_) rfl (by kernel_rfl) (by kernel_rfl) (by kernel_rfl) (fun _ _ _ h => h) (Or.inl ⟨by rfl, ?_⟩) (by assumption) ?_
          rotate_left
          · intro w hSw; (try dsimp only at hSw); go_simp; (try with_reducible rfl)
          simp only [Act.put, List.setIfInBounds_toArray, List.set_cons_zero, List.set_cons_succ]
          refine wpAnyH_take (i := 26) (oi := (⟨some 94, Op.pick (Operand.tmp 86) (Operand.const (Value.bool true)) (Operand.tmp 93), 4, "law.go:89", #[⟨18, Ground.data⟩, ⟨25, Ground.data⟩], none⟩ : Oper)) (v := ?_) rfl (by kernel_rfl) (by kernel_rfl) (by kernel_rfl) (fun _ _ _ h => h) (Or.inl ⟨by rfl, ?_⟩) (by assumption) ?_
          rotate_left
          · intro w hSw; (try dsimp only at hSw); go_simp; (try with_reducible rfl)
          simp only [Act.put, List.setIfInBounds_toArray, List.set_cons_zero, List.set_cons_succ]
          refine wpAnyH_take (i := 27) (oi := (⟨some 95, Op.move (Operand.tmp 94), 4, "law.go:89", #[⟨26, Ground.data⟩, ⟨24, Ground.chain⟩], none⟩ : Oper)) (v := ?_) rfl (by kernel_rfl) (by kernel_rfl) (by kernel_rfl) (fun _ _ _ h => h) (Or.inl ⟨by rfl, ?_⟩) (by assumption) ?_
          rotate_left
          · intro w hSw; (try dsimp only at hSw); go_simp; (try with_reducible rfl)
          simp only [Act.put, List.setIfInBounds_toArray, List.set_cons_zero, List.set_cons_succ]
          refine wpAnyH_take (i := 28) (oi := (⟨some 96, Op.move (Operand.tmp 8), 25, "law.go:89", #[⟨27, Ground.guard⟩], some (27, false)⟩ : Oper)) (v := ?_) rfl (by kernel_rfl) (by kernel_rfl) (by kernel_rfl) (fun _ _ _ h => h) (Or.inl ⟨by rfl, ?_⟩) (by assumption) ?_
          rotate_left
          · intro w hSw; (try dsimp only at hSw); go_simp; (try with_reducible rfl)
          simp only [Act.put, List.setIfInBounds_toArray, List.set_cons_zero, List.set_cons_succ]
          refine wpAnyH_take (i := 29) (oi := (⟨some 97, Op.move (Operand.tmp 12), 36, "law.go:89", #[⟨27, Ground.guard⟩], some (27, false)⟩ : Oper)) (v := ?_) rfl (by kernel_rfl) (by kernel_rfl) (by kernel_rfl) (fun _ _ _ h => h) (Or.inl ⟨by rfl, ?_⟩) (by assumption) ?_
          rotate_left
          · intro w hSw; (try dsimp only at hSw); go_simp; (try with_reducible rfl)
          simp only [Act.put, List.setIfInBounds_toArray, List.set_cons_zero, List.set_cons_succ]
          refine wpAnyH_take (i := 30) (oi := (⟨some 98, Op.nilCheck (Operand.tmp 97), 0, "law.go:89", #[⟨29, Ground.data⟩, ⟨27, Ground.guard⟩], some (27, false)⟩ : Oper)) (v := ?_) rfl (by kernel_rfl) (by kernel_rfl) (by kernel_rfl) (fun _ _ _ h => h) (Or.inl ⟨by rfl, ?_⟩) (by assumption) ?_
          rotate_left
          · intro w hSw; (try dsimp only at hSw); go_simp; (try with_reducible rfl)
          simp only [Act.put, List.setIfInBounds_toArray, List.set_cons_zero, List.set_cons_succ]
          refine wpAnyH_take (i := 31) (oi := (⟨some 99, Op.fieldAddr 49 (Operand.tmp 98) 0, 0, "law.go:89", #[⟨30, Ground.data⟩, ⟨27, Ground.guard⟩], some (27, false)⟩ : Oper)) (v := ?_) rfl (by kernel_rfl) (by kernel_rfl) (by kernel_rfl) (fun _ _ _ h => h) (Or.inl ⟨by rfl, ?_⟩) (by assumption) ?_
          rotate_left
          · intro w hSw; (try dsimp only at hSw); go_simp; (try with_reducible rfl)
          simp only [Act.put, List.setIfInBounds_toArray, List.set_cons_zero, List.set_cons_succ]
          refine wpAnyH_ready (rs := [32]) (by kernel_rfl) (by simp) ?_
          refine AllReadyH.cons (o := (⟨some 100, Op.load 38 (Operand.tmp 99), 38, "law.go:89", #[⟨31, Ground.data⟩, ⟨27, Ground.guard⟩], some (27, false)⟩ : Oper)) rfl (fun K hK => ?_) AllReadyH.nil
          go_simp
          refine hK.out _ _ ?_ (fun hHeld2 => ?_)
          · (try dsimp only); exact H6.out.cells (by repeat (first | exact Fr.refl NoF _ | apply Fr.drew | apply Fr.drewN)) hxb HZ.out
          clear hK K
          try simp only [Act.put, List.setIfInBounds_toArray, List.set_cons_zero, List.set_cons_succ]
          refine wpAnyH_take (i := 33) (oi := (⟨some 101, Op.nilCheck (Operand.tmp 100), 0, "law.go:89", #[⟨32, Ground.data⟩, ⟨27, Ground.guard⟩], some (27, false)⟩ : Oper)) (v := ?_) rfl (by kernel_rfl) (by kernel_rfl) (by kernel_rfl) (fun _ _ _ h => h) (Or.inl ⟨by rfl, ?_⟩) (by assumption) ?_
          rotate_left
          · intro w hSw; (try dsimp only at hSw); go_simp; (try with_reducible rfl)
          simp only [Act.put, List.setIfInBounds_toArray, List.set_cons_zero, List.set_cons_succ]
          refine wpAnyH_take (i := 34) (oi := (⟨some 102, Op.fieldAddr 41 (Operand.tmp 101) 1, 0, "law.go:89", #[⟨33, Ground.data⟩, ⟨27, Ground.guard⟩], some (27, false)⟩ : Oper)) (v := ?_) rfl (by kernel_rfl) (by kernel_rfl) (by kernel_rfl) (fun _ _ _ h => h) (Or.inl ⟨by rfl, ?_⟩) (by assumption) ?_
          rotate_left
          · intro w hSw; (try dsimp only at hSw); go_simp; (try with_reducible rfl)
          simp only [Act.put, List.setIfInBounds_toArray, List.set_cons_zero, List.set_cons_succ]
          refine wpAnyH_ready (rs := [35]) (by kernel_rfl) (by simp) ?_
          refine AllReadyH.cons (o := (⟨some 103, Op.load 39 (Operand.tmp 102), 39, "law.go:89", #[⟨34, Ground.data⟩, ⟨27, Ground.guard⟩], some (27, false)⟩ : Oper)) rfl (fun K hK => ?_) AllReadyH.nil
          go_simp
          refine hK.out _ _ ?_ (fun hHeld2 => ?_)
          · (try dsimp only); exact H6.out.cells (by repeat (first | exact Fr.refl NoF _ | apply Fr.drew | apply Fr.drewN)) hxb HZ.out
          clear hK K
          try simp only [Act.put, List.setIfInBounds_toArray, List.set_cons_zero, List.set_cons_succ]
          refine wpAnyH_ready (rs := [36]) (by kernel_rfl) (by simp) ?_
          refine AllReadyH.cons (o := (⟨some 104, Op.call ⟨Callee.value (Operand.func 12), #[Operand.tmp 96, Operand.tmp 103], #[25, 39]⟩, 4, "law.go:89", #[⟨28, Ground.data⟩, ⟨35, Ground.data⟩, ⟨27, Ground.chain⟩, ⟨27, Ground.guard⟩], some (27, false)⟩ : Oper)) rfl (fun K hK => ?_) AllReadyH.nil
          go_simp
          (go_at_call 12; (refine (HH.out _ (by repeat (first | exact Fr.refl NoF _ | apply Fr.drew | apply Fr.drewN))).mono ?_); rintro e w7 ⟨rfl, f7⟩; have H7 := Lib.hid ((H6.out.fr0 HR.out (by repeat (first | exact Fr.refl NoF _ | apply Fr.drew | apply Fr.drewN))).fr0 HR.out f7); clear f7)
          go_wp2_with fail
          refine hK.out _ _ ?_ (fun hHeld2 => ?_)
          · (try dsimp only); exact H7.out.cells (by repeat (first | exact Fr.refl NoF _ | apply Fr.drew | apply Fr.drewN)) hxb HZ.out
          clear hK K
          try simp only [Act.put, List.setIfInBounds_toArray, List.set_cons_zero, List.set_cons_succ]
          refine wpAnyH_take (i := 37) (oi := (⟨some 105, Op.unOp UnOp.not 4 (Operand.tmp 104), 4, "law.go:89", #[⟨36, Ground.data⟩, ⟨27, Ground.guard⟩], some (27, false)⟩ : Oper)) (v := ?_) rfl (by kernel_rfl) (by kernel_rfl) (by kernel_rfl) (fun _ _ _ h => h) (Or.inl ⟨by rfl, ?_⟩) (by assumption) ?_
          rotate_left
          · intro w hSw; (try dsimp only at hSw); go_simp; (try with_reducible rfl)
          simp only [Act.put, List.setIfInBounds_toArray, List.set_cons_zero, List.set_cons_succ]
          refine wpAnyH_take (i := 38) (oi := (⟨some 106, Op.pick (Operand.tmp 95) (Operand.const (Value.bool true)) (Operand.tmp 105), 4, "law.go:89", #[⟨27, Ground.data⟩, ⟨37, Ground.data⟩], none⟩ : Oper)) (v := ?_) rfl (by kernel_rfl) (by kernel_rfl) (by kernel_rfl) (fun _ _ _ h => h) (Or.inl ⟨by rfl, ?_⟩) (by assumption) ?_
          rotate_left
          · intro w hSw; (try dsimp only at hSw); go_simp; (try with_reducible rfl)
          simp only [Act.put, List.setIfInBounds_toArray, List.set_cons_zero, List.set_cons_succ]
          refine wpAnyH_done (by kernel_rfl) ?_ _
        rotate_left
        focus
          go_simp
          refine hK.out _ _ ?_ (fun hHeld2 => ?_)
          · (try dsimp only); exact H5.out.cells (by repeat (first | exact Fr.refl NoF _ | apply Fr.drew | apply Fr.drewN)) hxb HZ.out
          clear hK K
          try simp only [Act.put, List.setIfInBounds_toArray, List.set_cons_zero, List.set_cons_succ]
          refine wpAnyH_ready (rs := [11]) (by kernel_rfl) (by simp) ?_
          refine AllReadyH.cons (o := (⟨some 79, Op.call ⟨Callee.value (Operand.func 10), #[Operand.tmp 78], #[30]⟩, 3, "law.go:89", #[⟨10, Ground.data⟩, ⟨9, Ground.chain⟩, ⟨9, Ground.guard⟩], some (9, false)⟩ : Oper)) rfl (fun K hK => ?_) AllReadyH.nil
          go_simp
          (go_at_call 10; (refine (te_sc (H5.out.fr0 HR.out (by repeat (first | exact Fr.refl NoF _ | apply Fr.drew | apply Fr.drewN)))).1.mono ?_); rintro e w6 ⟨rfl, rfl⟩)
          go_wp2_with fail
          refine hK.out _ _ ?_ (fun hHeld2 => ?_)
          · (try dsimp only); exact H5.out.cells (by repeat (first | exact Fr.refl NoF _ | apply Fr.drew | apply Fr.drewN)) hxb HZ.out
          clear hK K
          try simp only [Act.put, List.setIfInBounds_toArray, List.set_cons_zero, List.set_cons_succ]
          refine wpAnyH_take (i := 16) (oi := (⟨some 84, Op.binOp BinOp.neq 3 (Operand.tmp 79) (Operand.tmp 83) 3, 4, "law.go:89", #[⟨11, Ground.data⟩, ⟨15, Ground.data⟩, ⟨9, Ground.guard⟩], some (9, false)⟩ : Oper)) (v := ?_) rfl (by kernel_rfl) (by kernel_rfl) (by kernel_rfl) (fun _ _ _ h => h) (Or.inl ⟨by rfl, ?_⟩) (by assumption) ?_
          rotate_left
          · intro w hSw; (try dsimp only at hSw); go_simp; (try with_reducible rfl)
          simp only [Act.put, List.setIfInBounds_toArray, List.set_cons_zero, List.set_cons_succ]
          refine wpAnyH_take (i := 17) (oi := (⟨some 85, Op.pick (Operand.tmp 77) (Operand.const (Value.bool true)) (Operand.tmp 84), 4, "law.go:89", #[⟨9, Ground.data⟩, ⟨16, Ground.data⟩], none⟩ : Oper)) (v := ?_) rfl (by kernel_rfl) (by kernel_rfl) (by kernel_rfl) (fun _ _ _ h => h) (Or.inl ⟨by rfl, ?_⟩) (by assumption) ?_
          rotate_left
          · intro w hSw; (try dsimp only at hSw); go_simp; (try with_reducible rfl)
          simp only [Act.put, List.setIfInBounds_toArray, List.set_cons_zero, List.set_cons_succ]
          refine wpAnyH_take (i := 18) (oi := (⟨some 86, Op.move (Operand.tmp 85), 4, "law.go:89", #[⟨17, Ground.data⟩, ⟨11, Ground.chain⟩], none⟩ : Oper)) (v := ?_) rfl (by kernel_rfl) (by kernel_rfl) (by kernel_rfl) (fun _ _ _ h => h) (Or.inl ⟨by rfl, ?_⟩) (by assumption) ?_
          rotate_left
          · intro w hSw; (try dsimp only at hSw); go_simp; (try with_reducible rfl)
          simp only [Act.put, List.setIfInBounds_toArray, List.set_cons_zero, List.set_cons_succ]
          refine wpAnyH_take (i := 19) (oi := (⟨some 87, Op.move (Operand.tmp 8), 25, "law.go:89", #[⟨18, Ground.guard⟩], some (18, false)⟩ : Oper)) (v := ?_) rfl (by kernel_rfl) (by kernel_rfl) (by kernel_rfl) (fun _ _ _ h => h) (Or.inl ⟨by rfl, ?_⟩) (by assumption) ?_
          rotate_left
          · intro w hSw; (try dsimp only at hSw); go_simp; (try with_reducible rfl)
          simp only [Act.put, List.setIfInBounds_toArray, List.set_cons_zero, List.set_cons_succ]
          refine wpAnyH_take (i := 20) (oi := (⟨some 88, Op.move (Operand.tmp 12), 36, "law.go:89", #[⟨18, Ground.guard⟩], some (18, false)⟩ : Oper)) (v := ?_) rfl (by kernel_rfl) (by kernel_rfl) (by kernel_rfl) (fun _ _ _ h => h) (Or.inl ⟨by rfl, ?_⟩) (by assumption) ?_
          rotate_left
          · intro w hSw; (try dsimp only at hSw); go_simp; (try with_reducible rfl)
          simp only [Act.put, List.setIfInBounds_toArray, List.set_cons_zero, List.set_cons_succ]
          refine wpAnyH_take (i := 21) (oi := (⟨some 89, Op.nilCheck (Operand.tmp 88), 0, "law.go:89", #[⟨20, Ground.data⟩, ⟨18, Ground.guard⟩], some (18, false)⟩ : Oper)) (v := ?_) rfl (by kernel_rfl) (by kernel_rfl) (by kernel_rfl) (fun _ _ _ h => h) (Or.inl ⟨by rfl, ?_⟩) (by assumption) ?_
          rotate_left
          · intro w hSw; (try dsimp only at hSw); go_simp; (try with_reducible rfl)
          simp only [Act.put, List.setIfInBounds_toArray, List.set_cons_zero, List.set_cons_succ]
          refine wpAnyH_take (i := 22) (oi := (⟨some 90, Op.fieldAddr 49 (Operand.tmp 89) 0, 0, "law.go:89", #[⟨21, Ground.data⟩, ⟨18, Ground.guard⟩], some (18, false)⟩ : Oper)) (v := ?_) rfl (by kernel_rfl) (by kernel_rfl) (by kernel_rfl) (fun _ _ _ h => h) (Or.inl ⟨by rfl, ?_⟩) (by assumption) ?_
          rotate_left
          · intro w hSw; (try dsimp only at hSw); go_simp; (try with_reducible rfl)
          simp only [Act.put, List.setIfInBounds_toArray, List.set_cons_zero, List.set_cons_succ]
          refine wpAnyH_ready (rs := [23]) (by kernel_rfl) (by simp) ?_
          refine AllReadyH.cons (o := (⟨some 91, Op.load 38 (Operand.tmp 90), 38, "law.go:89", #[⟨22, Ground.data⟩, ⟨18, Ground.guard⟩], some (18, false)⟩ : Oper)) rfl (fun K hK => ?_) AllReadyH.nil
          go_simp
          refine hK.out _ _ ?_ (fun hHeld2 => ?_)
          · (try dsimp only); exact H5.out.cells (by repeat (first | exact Fr.refl NoF _ | apply Fr.drew | apply Fr.drewN)) hxb HZ.out
          clear hK K
          try simp only [Act.put, List.setIfInBounds_toArray, List.set_cons_zero, List.set_cons_succ]
          refine wpAnyH_ready (rs := [24]) (by kernel_rfl) (by simp) ?_
          refine AllReadyH.cons (o := (⟨some 92, Op.call ⟨Callee.value (Operand.func 11), #[Operand.tmp 87, Operand.tmp 91], #[25, 38]⟩, 4, "law.go:89", #[⟨19, Ground.data⟩, ⟨23, Ground.data⟩, ⟨18, Ground.chain⟩, ⟨18, Ground.guard⟩], some (18, false)⟩ : Oper)) rfl (fun K hK => ?_) AllReadyH.nil
          go_simp
          (go_at_call 11; (refine (te_same (H5.out.fr0 HR.out (by repeat (first | exact Fr.refl NoF _ | apply Fr.drew | apply Fr.drewN)))).mono ?_); rintro e w6 ⟨rfl, f6⟩; have H6 := Lib.hid ((H5.out.fr0 HR.out (by repeat (first | exact Fr.refl NoF _ | apply Fr.drew | apply Fr.drewN))).fr0 HR.out f6); clear f6; obtain ⟨_, _, u3, u4⟩ := te_sc H6.out; obtain ⟨la, ln, lc, cl, lbb, hH⟩ := te_holds2 H6.out; have HH := Lib.hid hH; clear hH)
          go_wp2_with fail
          refine hK.out _ _ ?_ (fun hHeld2 => ?_)
          · (try dsimp only); exact H6.out.cells (by repeat (first | exact Fr.refl NoF _ | apply Fr.drew | apply Fr.drewN)) hxb HZ.out
          clear hK K
          try simp only [Act.put, List.setIfInBounds_toArray, List.set_cons_zero, List.set_cons_succ]
          refine wpAnyH_take (i := 25) (oi := (⟨some 93, Op.unOp UnOp.not 4 (Operand.tmp 92), 4, "law.go:89", #[⟨24, Ground.data⟩, ⟨18, Ground.guard⟩], some (18, false)⟩ : Oper)) (v := ?_) rfl (by kernel_rfl) (by kernel_rfl) (by kernel_rfl) (fun _ _ _ h => h) (Or.inl ⟨by rfl, ?_⟩) (by assumption) ?_
          rotate_left
          · intro w hSw; (try dsimp only at hSw); go_simp; (try with_reducible rfl)
          simp only [Act.put, List.setIfInBounds_toArray, List.set_cons_zero, List.set_cons_succ]
          refine wpAnyH_take (i := 26) (oi := (⟨some 94, Op.pick (Operand.tmp 86) (Operand.const (Value.bool true)) (Operand.tmp 93), 4, "law.go:89", #[⟨18, Ground.data⟩, ⟨25, Ground.data⟩], none⟩ : Oper)) (v := ?_) rfl (by kernel_rfl) (by kernel_rfl) (by kernel_rfl) (fun _ _ _ h => h) (Or.inl ⟨by rfl, ?_⟩) (by assumption) ?_
          rotate_left
          · intro w hSw; (try dsimp only at hSw); go_simp; (try with_reducible rfl)
          simp only [Act.put, List.setIfInBounds_toArray, List.set_cons_zero, List.set_cons_succ]
          refine wpAnyH_take (i := 27) (oi := (⟨some 95, Op.move (Operand.tmp 94), 4, "law.go:89", #[⟨26, Ground.data⟩, ⟨24, Ground.chain⟩], none⟩ : Oper)) (v := ?_) rfl (by kernel_rfl) (by kernel_rfl) (by kernel_rfl) (fun _ _ _ h => h) (Or.inl ⟨by rfl, ?_⟩) (by assumption) ?_
          rotate_left
          · intro w hSw; (try dsimp only at hSw); go_simp; (try with_reducible rfl)
          simp only [Act.put, List.setIfInBounds_toArray, List.set_cons_zero, List.set_cons_succ]
          refine wpAnyH_take (i := 28) (oi := (⟨some 96, Op.move (Operand.tmp 8), 25, "law.go:89", #[⟨27, Ground.guard⟩], some (27, false)⟩ : Oper)) (v := ?_) rfl (by kernel_rfl) (by kernel_rfl) (by kernel_rfl) (fun _ _ _ h => h) (Or.inl ⟨by rfl, ?_⟩) (by assumption) ?_
          rotate_left
          · intro w hSw; (try dsimp only at hSw); go_simp; (try with_reducible rfl)
          simp only [Act.put, List.setIfInBounds_toArray, List.set_cons_zero, List.set_cons_succ]
          refine wpAnyH_take (i := 29) (oi := (⟨some 97, Op.move (Operand.tmp 12), 36, "law.go:89", #[⟨27, Ground.guard⟩], some (27, false)⟩ : Oper)) (v := ?_) rfl (by kernel_rfl) (by kernel_rfl) (by kernel_rfl) (fun _ _ _ h => h) (Or.inl ⟨by rfl, ?_⟩) (by assumption) ?_
          rotate_left
          · intro w hSw; (try dsimp only at hSw); go_simp; (try with_reducible rfl)
          simp only [Act.put, List.setIfInBounds_toArray, List.set_cons_zero, List.set_cons_succ]
          refine wpAnyH_take (i := 30) (oi := (⟨some 98, Op.nilCheck (Operand.tmp 97), 0, "law.go:89", #[⟨29, Ground.data⟩, ⟨27, Ground.guard⟩], some (27, false)⟩ : Oper)) (v := ?_) rfl (by kernel_rfl) (by kernel_rfl) (by kernel_rfl) (fun _ _ _ h => h) (Or.inl ⟨by rfl, ?_⟩) (by assumption) ?_
          rotate_left
          · intro w hSw; (try dsimp only at hSw); go_simp; (try with_reducible rfl)
          simp only [Act.put, List.setIfInBounds_toArray, List.set_cons_zero, List.set_cons_succ]
          refine wpAnyH_take (i := 31) (oi := (⟨some 99, Op.fieldAddr 49 (Operand.tmp 98) 0, 0, "law.go:89", #[⟨30, Ground.data⟩, ⟨27, Ground.guard⟩], some (27, false)⟩ : Oper)) (v := ?_) rfl (by kernel_rfl) (by kernel_rfl) (by kernel_rfl) (fun _ _ _ h => h) (Or.inl ⟨by rfl, ?_⟩) (by assumption) ?_
          rotate_left
          · intro w hSw; (try dsimp only at hSw); go_simp; (try with_reducible rfl)
          simp only [Act.put, List.setIfInBounds_toArray, List.set_cons_zero, List.set_cons_succ]
          refine wpAnyH_ready (rs := [32]) (by kernel_rfl) (by simp) ?_
          refine AllReadyH.cons (o := (⟨some 100, Op.load 38 (Operand.tmp 99), 38, "law.go:89", #[⟨31, Ground.data⟩, ⟨27, Ground.guard⟩], some (27, false)⟩ : Oper)) rfl (fun K hK => ?_) AllReadyH.nil
          go_simp
          refine hK.out _ _ ?_ (fun hHeld2 => ?_)
          · (try dsimp only); exact H6.out.cells (by repeat (first | exact Fr.refl NoF _ | apply Fr.drew | apply Fr.drewN)) hxb HZ.out
          clear hK K
          try simp only [Act.put, List.setIfInBounds_toArray, List.set_cons_zero, List.set_cons_succ]
          refine wpAnyH_take (i := 33) (oi := (⟨some 101, Op.nilCheck (Operand.tmp 100), 0, "law.go:89", #[⟨32, Ground.data⟩, ⟨27, Ground.guard⟩], some (27, false)⟩ : Oper)) (v := ?_) rfl (by kernel_rfl) (by kernel_rfl) (by kernel_rfl) (fun _ _ _ h => h) (Or.inl ⟨by rfl, ?_⟩) (by assumption) ?_
          rotate_left
          · intro w hSw; (try dsimp only at hSw); go_simp; (try with_reducible rfl)
          simp only [Act.put, List.setIfInBounds_toArray, List.set_cons_zero, List.set_cons_succ]
          refine wpAnyH_take (i := 34) (oi := (⟨some 102, Op.fieldAddr 41 (Operand.tmp 101) 1, 0, "law.go:89", #[⟨33, Ground.data⟩, ⟨27, Ground.guard⟩], some (27, false)⟩ : Oper)) (v := ?_) rfl (by kernel_rfl) (by kernel_rfl) (by kernel_rfl) (fun _ _ _ h => h) (Or.inl ⟨by rfl, ?_⟩) (by assumption) ?_
          rotate_left
          · intro w hSw; (try dsimp only at hSw); go_simp; (try with_reducible rfl)
          simp only [Act.put, List.setIfInBounds_toArray, List.set_cons_zero, List.set_cons_succ]
          refine wpAnyH_ready (rs := [35]) (by kernel_rfl) (by simp) ?_
          refine AllReadyH.cons (o := (⟨some 103, Op.load 39 (Operand.tmp 102), 39, "law.go:89", #[⟨34, Ground.data⟩, ⟨27, Ground.guard⟩], some (27, false)⟩ : Oper)) rfl (fun K hK => ?_) AllReadyH.nil
          go_simp
          refine hK.out _ _ ?_ (fun hHeld2 => ?_)
          · (try dsimp only); exact H6.out.cells (by repeat (first | exact Fr.refl NoF _ | apply Fr.drew | apply Fr.drewN)) hxb HZ.out
          clear hK K
          try simp only [Act.put, List.setIfInBounds_toArray, List.set_cons_zero, List.set_cons_succ]
          refine wpAnyH_ready (rs := [36]) (by kernel_rfl) (by simp) ?_
          refine AllReadyH.cons (o := (⟨some 104, Op.call ⟨Callee.value (Operand.func 12), #[Operand.tmp 96, Operand.tmp 103], #[25, 39]⟩, 4, "law.go:89", #[⟨28, Ground.data⟩, ⟨35, Ground.data⟩, ⟨27, Ground.chain⟩, ⟨27, Ground.guard⟩], some (27, false)⟩ : Oper)) rfl (fun K hK => ?_) AllReadyH.nil
          go_simp
          (go_at_call 12; (refine (HH.out _ (by repeat (first | exact Fr.refl NoF _ | apply Fr.drew | apply Fr.drewN))).mono ?_); rintro e w7 ⟨rfl, f7⟩; have H7 := Lib.hid ((H6.out.fr0 HR.out (by repeat (first | exact Fr.refl NoF _ | apply Fr.drew | apply Fr.drewN))).fr0 HR.out f7); clear f7)
          go_wp2_with fail
          refine hK.out _ _ ?_ (fun hHeld2 => ?_)
          · (try dsimp only); exact H7.out.cells (by repeat (first | exact Fr.refl NoF _ | apply Fr.drew | apply Fr.drewN)) hxb HZ.out
          clear hK K
          try simp only [Act.put, List.setIfInBounds_toArray, List.set_cons_zero, List.set_cons_succ]
          refine wpAnyH_take (i := 37) (oi := (⟨some 105, Op.unOp UnOp.not 4 (Operand.tmp 104), 4, "law.go:89", #[⟨36, Ground.data⟩, ⟨27, Ground.guard⟩], some (27, false)⟩ : Oper)) (v := ?_) rfl (by kernel_rfl) (by kernel_rfl) (by kernel_rfl) (fun _ _ _ h => h) (Or.inl ⟨by rfl, ?_⟩) (by assumption) ?_
          rotate_left
          · intro w hSw; (try dsimp only at hSw); go_simp; (try with_reducible rfl)
          simp only [Act.put, List.setIfInBounds_toArray, List.set_cons_zero, List.set_cons_succ]
          refine wpAnyH_take (i := 38) (oi := (⟨some 106, Op.pick (Operand.tmp 95) (Operand.const (Value.bool true)) (Operand.tmp 105), 4, "law.go:89", #[⟨27, Ground.data⟩, ⟨37, Ground.data⟩], none⟩ : Oper)) (v := ?_) rfl (by kernel_rfl) (by kernel_rfl) (by kernel_rfl) (fun _ _ _ h => h) (Or.inl ⟨by rfl, ?_⟩) (by assumption) ?_
          rotate_left
          · intro w hSw; (try dsimp only at hSw); go_simp; (try with_reducible rfl)
          simp only [Act.put, List.setIfInBounds_toArray, List.set_cons_zero, List.set_cons_succ]
          refine wpAnyH_done (by kernel_rfl) ?_ _
        rotate_left
        all_goals
          have HE7 := H7
          clear HB HH H5 H6 H7 HE HZ s2 s3 s4 u3 u4 cl lbb HS5 HU
          have HXR : Hid (X'.D.room = 12) := R5.out.trans HRN.out
          have HPQ : Hid (p.n = q.n) := HP.out.trans HQ.out.symm
          clear R5 HRN
          go_wp2_with fail
          go_hide hQ2
          go_loopw [14] (fun i wq => ∃ k : Nat, k ≤ 14 ∧ i = .int .u32 k ∧ TE p q lb w wq X' (1000 + 100 * j + 100)) (fun i _ => 14 - (intOf i).toNat)
          case atStart => exact ⟨0, by omega, rfl, HE7.out⟩
          case round =>
            obtain ⟨k, hk, rfl, h8⟩ := hrel
            have H8 := Lib.hid h8
            clear HE7
            by_cases hlk : k < 14
            · obtain ⟨_, _, v2, v3⟩ := te_sc h8
              have HA : Hid (∀ W, Fr NoF wr W → _) := fun W g => te_ask HPQ.out (H8.out.fr0 HR.out g) (id := k) (by omega)
              unfold PP.ptr QQ.ptr at HA
              clear h8
              go_wp2_with fail
              go_quiet (first
                | (go_at_call 13; exact qs (HA.out _ ((Fr.refl NoF _).drewN _)).1)
                | (go_at_call 14; exact qs (HA.out _ ((Fr.refl NoF _).drewN _)).2.1)
                | (go_at_call 15; exact qs (HA.out _ ((Fr.refl NoF _).drewN _)).2.2.1)
                | (go_at_call 16; exact qs (HA.out _ ((Fr.refl NoF _).drewN _)).2.2.2.1)
                | (go_at_call 17; exact qs (HA.out _ ((Fr.refl NoF _).drewN _)).2.2.2.2.1)
                | (go_at_call 18; exact qs (HA.out _ ((Fr.refl NoF _).drewN _)).2.2.2.2.2))
              clear HA
              go_wp2
              go_roundw
              case rel => exact ⟨k + 1, by omega, by go_num, H8.out.fr0 HR.out (by repeat (first | exact Fr.refl NoF _ | apply Fr.drewN | apply Fr.drew))⟩
              case measure => simp [intOf]; omega
            · obtain rfl : k = 14 := by omega
              clear hlk hk h8
              go_wp2
              subst hQ2
              go_wp2
              go_roundw
              case rel => exact ⟨j + 1, by omega, by go_num, by omega, X', by rw [show 1000 + 100 * (j + 1) = 1000 + 100 * j + 100 from by omega]; exact H8.out, HXR.out⟩
              case measure => simp [intOf]; omega
      · have hd : decide ((j : Int) < 150) = false := by simp; omega
        have hd1 : (j : Int) < (zs.length : Int) := by omega
        go_wp2
        go_ret
        exact ⟨rfl, HF0.out⟩
    · have hd : decide ((j : Int) < (zs.length : Int)) = false := by simp; omega
      go_wp2
      go_ret
      exact ⟨rfl, HF0.out⟩
end Go.Proofs.YtnideelidfpicaaGreatDoor
namespace Go.Proofs.YtnideelidfpicaaGreatDoor
open Go.ChangeShapes Go.WideShapes Go.ChangeAt Go.RowKit
set_option linter.unusedVariables false

namespace poolActs
set_option maxRecDepth 100000 in
theorem lifted (os : Os) (started : os.Started) (H : Type) (enc : TypeId × Value → H) :
    ReturnsInHanded {} Tryz.checked os 3 .any (fun w args => (Rows.poolActsSpec.pre enc Tryz.prog Tryz.f3 Rows.poolActsRow.domain false w args ∧ laidMet Tryz.prog Rows.poolActsRow.laid w) ∧ sizedMet enc Tryz.prog Tryz.f3 (OpenSpec.ofChange Rows.poolActsSpec) false w args)
      (Rows.poolActsSpec.post enc Tryz.prog Tryz.f3 false true false false) := by
  refine returnsInHanded_of_change_and (C := Tryz.checked) (X := fun w _ => laidMet Tryz.prog Rows.poolActsRow.laid w) (fun _ _ _ hh h => h.of_heap hh) ownM started (by kernel_rfl) Tryz.func3
    (ChangeSpec.witness_at (enc := enc) (C := Tryz.checked) (os := os) (X := fun w _ => laidMet Tryz.prog Rows.poolActsRow.laid w) false (tabWorld os) #[.int .i64 0, .slice none 0 0, .slice none 0 0] 8 rfl (by kernel_rfl) (by kernel_rfl) (by kernel_rfl) (by kernel_rfl) (by kernel_rfl) (tab_met os _)) ?_
  intro W base args ds gs before hval0 hW _ _ hL _
  have hval : ∀ (j : Nat) t v, Tryz.f3.params[j]? = some t → args[j]? = some v → Value.okWide Tryz.prog W .any base t v := hval0
  have hW' := hW
  obtain ⟨p, q, hA0, hV, rfl, hfz, hnd⟩ := hW
  have hA : DataW.TrodAll enc Tryz.prog W 0 (fun _ => true) true Tryz.f3.params.toList args.toList ds p := hA0
  rw [Tryz.params3] at hA hval
  obtain ⟨v0, vs0, d0, ds0, p0, q0, hargs, rfl, rfl, h0, r0⟩ := trodAll_cons hA
  obtain ⟨v1, vs1, d1, ds1, p1, q1, rfl, rfl, rfl, h1, r1⟩ := trodAll_cons r0
  obtain ⟨v2, vs2, d2, ds2, p2, q2, rfl, rfl, rfl, h2, r2⟩ := trodAll_cons r1
  obtain ⟨rfl, rfl, rfl⟩ := trodAll_nil r2
  obtain rfl : args = #[v0, v1, v2] := by cases args; simp_all
  obtain ⟨rfl, rfl⟩ := trodVars_none hV
  obtain ⟨a0, rfl, rfl, rfl, w0⟩ := open_int Tryz.underlying3 (hval 0 3 v0 rfl rfl) h0
  obtain ⟨a1, len1, cap1, rfl⟩ := okWide_slice Tryz.underlying22 (hval 1 22 v1 rfl rfl)
  obtain ⟨a2, len2, cap2, rfl⟩ := okWide_slice Tryz.underlying23 (hval 2 23 v2 rfl rfl)
  have hv2 : ∀ a, a2 = some a → a.spot = none ∧ a.block < W.heap.size := fun a e => by subst e; exact has_slice (hval 2 23 _ rfl rfl)
  have k1 := h1
  have k2 := h2
  have lt1 : ∀ x ∈ p1, x.block < W.heap.size := by obtain ⟨m, hm⟩ := k1; exact DataW.trod_lt m _ _ _ hm
  have lt2 : ∀ x ∈ p2, x.block < W.heap.size := by obtain ⟨m, hm⟩ := k2; exact DataW.trod_lt m _ _ _ hm
  obtain ⟨zs, wz⟩ : ∃ zs, ArgZ W (.slice a1 len1 cap1) zs := by
    obtain ⟨fuel, hf⟩ := h1
    exact argO_of hf
  obtain ⟨l, wl, _⟩ : ∃ l : List Int, SlZ W (.slice a2 len2 cap2) l ∧ l.length = len2 := by
    obtain ⟨fuel, hf⟩ := h2
    exact argI_of hv2 hf
  clear hA0 hval0
  have hT : TabT W := tabT_of hL
  simp only [List.append_nil, List.nil_append] at hW'
  refine (pool_walk a0 _ _ zs l W wz wl hT).mono fun e W' ⟨he, hf⟩ => ?_
  have bel := hf.below
  subst he
  exact ⟨_, rfl, _, _, _, [], _, [], hW', trodAll_mk1 (shut_bool Tryz.underlying4 _), (trodAll_cons_mk (shut_int Tryz.underlying3 w0) (trodAll_cons_mk (Below.trod laidOutM (by kernel_rfl) (of_decide_eq_true (by kernel_rfl)) k1 bel lt1) (trodAll_cons_mk (Below.trod laidOutM (by kernel_rfl) (of_decide_eq_true (by kernel_rfl)) k2 bel lt2) trodAll_mk0))), rfl, bel.frame _, fun h => by cases h⟩

/-- The row. -/
theorem said : Rows.PoolActsSaid :=
  OpenClaim.holds_of_wide 3 Tryz.f3 rfl rfl rfl rfl rfl rfl rfl ⟨rfl, rfl, rfl, rfl, rfl⟩ rfl rfl rfl rfl rfl (by kernel_rfl) Tryz.func3 (by kernel_rfl)
    (of_decide_eq_true (by kernel_rfl)) (by unfold Func.isWrapper; first | (rw [if_pos (by decide +kernel)]; kernel_rfl) | (rw [if_neg (by decide +kernel)]; exact ⟨rfl, rfl⟩))
    (fun os started H enc _ => lifted os started H enc)
/-- THE STATEMENT. -/
theorem proved : Rows.PoolActsCardSaid :=
  Claim7.holds_tied_plain_at .later [] [.data] true (true, "d8f85df11472c3f4752c9fecac3a40f91100e699bd4be345ce604d0f798bf478") true
    said (fun _ h => by cases h) (by kernel_rfl) (fun _ h => by cases h) poolActs_row_tie rfl ⟨rfl, rfl⟩ (by kernel_rfl) rfl
    (fun f fn hf hfn => by
      obtain rfl : f = 3 := Option.some.inj ((show Tryz.prog.funcNamed "hatcheck/hatchecklaw09.PoolActs" = some 3 by kernel_rfl).symm.trans hf) |>.symm
      obtain rfl : fn = Tryz.f3 := (Option.some.inj (Tryz.func3.symm.trans hfn)).symm
      exact ⟨by kernel_rfl, fun j t ht => by
        rw [Tryz.params3] at ht
        have h3 : t = 3 ∨ t = 22 ∨ t = 23 := by
          rcases j with _ | _ | _ | j
          · left; simpa using ht.symm
          · right; left; simpa using ht.symm
          · right; right; simpa using ht.symm
          · simp at ht
        rcases h3 with rfl | rfl | rfl
        · exact (show Tryz.prog.wantsStandIn 3 = false by kernel_rfl)
        · exact (show Tryz.prog.wantsStandIn 22 = false by kernel_rfl)
        · exact (show Tryz.prog.wantsStandIn 23 = false by kernel_rfl)⟩)
    (by kernel_rfl)
#print axioms proved
end poolActs
end Go.Proofs.YtnideelidfpicaaGreatDoor
