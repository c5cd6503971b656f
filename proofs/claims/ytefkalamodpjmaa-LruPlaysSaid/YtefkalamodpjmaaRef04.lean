/-
  Package hatcheckref04's P, the document's LRU, in memory: its calls.
-/
import Derived.Test.YtefkalamodpjmaaRun
import Derived.Deep.QuietTactic
import Derived.BigQuiet
import Derived.RegionTactic
import Derived.ChangeAlike
namespace Go.Proofs.Ytefkalamodpjmaa
open Go.RowKit
set_option linter.unusedVariables false

structure LS where
  page : List Nat
  on : Nat → Bool
  l : List Nat
def backN (l : List Nat) (f : Nat) : List Nat := awayN l f ++ [f]
def LS.remove (s : LS) (a : Nat) : LS := ⟨s.page.set a 0, upd s.on a false, awayN s.l a⟩
def lsPol : Pol LS where
  miss s _ := s
  access s a id := ⟨s.page.set a id, s.on, backN s.l a⟩
  set s a v := ⟨s.page, upd s.on a v, s.l⟩
  victim s _ := s.l.find? s.on
  gone s _ := match s.l.find? s.on with | none => s | some a => s.remove a
  remove s a := s.remove a
  size s := ((List.range s.page.length).filter fun k => !decide (s.page.getD k 0 = 0) && s.on k).length
  ghosts _ := []
def lsCo (n : Nat) (s : LS) (fr : List Nat) : Prop := s.page = fr ∧ fr.length = n ∧ (∀ f, f ∈ s.l ↔ f < n ∧ ¬ fr.getD f 0 = 0) ∧ ∀ f, s.on f = true → f ∈ s.l

theorem nodup_back {l : List Nat} (h : l.Nodup) (a : Nat) : (backN l a).Nodup := by
  unfold backN awayN
  rw [List.nodup_append]
  refine ⟨h.filter _, by simp, fun x hx y hy e => ?_⟩
  rw [List.mem_singleton.1 hy] at e
  subst e
  simp at hx
theorem len_lt {l : List Nat} {n : Nat} (h : l.Nodup) (hl : ∀ x ∈ l, x < n) : l.length ≤ n := by
  have := List.Nodup.length_le_of_subset (l₁ := l) (l₂ := List.range n) h (fun y hy => List.mem_range.2 (hl y hy))
  simpa using this
theorem mem_awayN {l : List Nat} {f x : Nat} : x ∈ awayN l f ↔ x ∈ l ∧ ¬ x = f := by simp [awayN]
theorem mem_backN {l : List Nat} {f x : Nat} : x ∈ backN l f ↔ x ∈ l ∨ x = f := by
  simp only [backN, List.mem_append, mem_awayN, List.mem_singleton]
  by_cases e : x = f <;> simp [e]

def pH (n gb ob : Nat) (v : Value) : Nat → Value
  | 0 => .int .i64 n
  | 1 => .slice (some ⟨gb, 0, none⟩) n n
  | 2 => .slice (some ⟨ob, 0, none⟩) n n
  | 3 => v
  | _ => .int .i64 0
theorem pH_set (n gb ob : Nat) (v v' : Value) : upd (pH n gb ob v) 3 v' = pH n gb ob v' := by
  funext j
  match j with
  | 0 => rfl
  | 1 => rfl
  | 2 => rfl
  | 3 => rfl
  | j + 4 => simp [upd, pH]

structure PL (w : World) (pb gb ob n : Nat) (s : LS) (v : Value) : Prop where
  hd : Blk w pb 4 (pH n gb ob v)
  pg : Blk w gb n (uF s.page)
  on : Blk w ob n (bF s.on)
  sl : SlK .i64 w v s.l
  d1 : ¬ pb = gb
  d2 : ¬ pb = ob
  d3 : ¬ gb = ob
  dv : ∀ b, v.ownBlock = some b → ¬ b = pb ∧ ¬ b = gb ∧ ¬ b = ob
  pn : s.page.length = n
  nd : s.l.Nodup
  lt : ∀ x ∈ s.l, x < n
  hn : n < 1000
def PRL (pb n : Nat) : PRel LS := fun w s F D => ∃ gb ob v, PL w pb gb ob n s v ∧ (∀ i, F i ↔ i = pb ∨ i = gb ∨ i = ob) ∧ (∀ i, D i ↔ (i = pb ∨ i = gb ∨ i = ob) ∨ v.ownBlock = some i)

section
variable {w w' : World} {pb gb ob n : Nat} {s : LS} {v : Value}
theorem PL.fr (h : PL w pb gb ob n s v) {G : Nat → Prop} (f : Fr G w w') (h1 : ¬ G pb) (h2 : ¬ G gb) (h3 : ¬ G ob) (h4 : ∀ b, v.ownBlock = some b → ¬ G b) : PL w' pb gb ob n s v :=
  ⟨h.hd.fr f h1, h.pg.fr f h2, h.on.fr f h3, h.sl.fr f h4, h.d1, h.d2, h.d3, h.dv, h.pn, h.nd, h.lt, h.hn⟩
theorem PL.c0 (h : PL w pb gb ob n s v) : w.cell? ⟨pb, 0, none⟩ = some (.int .i64 n) := h.hd.cell (by omega)
theorem PL.c1 (h : PL w pb gb ob n s v) : w.cell? ⟨pb, 1, none⟩ = some (.slice (some ⟨gb, 0, none⟩) n n) := h.hd.cell (by omega)
theorem PL.c2 (h : PL w pb gb ob n s v) : w.cell? ⟨pb, 2, none⟩ = some (.slice (some ⟨ob, 0, none⟩) n n) := h.hd.cell (by omega)
theorem PL.c3 (h : PL w pb gb ob n s v) : w.cell? ⟨pb, 3, none⟩ = some v := h.hd.cell (by omega)
theorem PL.cp (h : PL w pb gb ob n s v) {a : Nat} (ha : a < n) : w.cell? ⟨gb, a, none⟩ = some (.int .u32 (s.page.getD a 0 : Nat)) := h.pg.cell ha
theorem PL.co (h : PL w pb gb ob n s v) {a : Nat} (ha : a < n) : w.cell? ⟨ob, a, none⟩ = some (.bool (s.on a)) := h.on.cell ha
theorem PRL_fr : PFr (PRL pb n) where
  fr := by
    rintro w w' s F D G ⟨gb, ob, v, h, hF, hD⟩ f hd
    exact ⟨gb, ob, v, h.fr f (hd _ ((hD _).2 (.inl (.inl rfl)))) (hd _ ((hD _).2 (.inl (.inr (.inl rfl))))) (hd _ ((hD _).2 (.inl (.inr (.inr rfl))))) (fun b hb => hd _ ((hD _).2 (.inr hb))), hF, hD⟩
  sub := by
    rintro w s F D ⟨gb, ob, v, h, hF, hD⟩ i hi
    exact (hD i).2 (.inl ((hF i).1 hi))
  lt := by
    rintro w s F D ⟨gb, ob, v, h, hF, hD⟩ i hi
    rcases (hD i).1 hi with (rfl | rfl | rfl) | q
    · exact h.hd.lt
    · exact h.pg.lt
    · exact h.on.lt
    · exact h.sl.lt i q

theorem ls_miss (a : Option Addr) (p : Int) : Calls Try.prog 19 #[.pointer a, .int .u32 p] w fun e w' => e = .returned (.tuple #[]) ∧ w = w' := by
  go_enter Try.func19, Try.ntmps19
  go_wp2
  go_returns
  exact ⟨rfl, rfl⟩
theorem ls_ghosts (a : Option Addr) : Calls Try.prog 32 #[.pointer a] w fun e w' => e = .returned (.slice none 0 0) ∧ w = w' := by
  go_enter Try.func32, Try.ntmps32
  go_wp2
  go_returns
  exact ⟨rfl, rfl⟩

/-- What a change of the page, or of a flag, leaves. -/
theorem PL.setOn (h : PL w pb gb ob n s v) (a : Nat) (x : Bool) : PL (w.setCell ⟨ob, a, none⟩ (.bool x)) pb gb ob n ⟨s.page, upd s.on a x, s.l⟩ v := by
  have f : Fr (fun i => i = ob) w (w.setCell ⟨ob, a, none⟩ (.bool x)) := (Fr.refl (fun i => i = ob) w).setCell (p := ⟨ob, a, none⟩) (.inl rfl) _
  exact ⟨h.hd.fr f h.d2, h.pg.fr f h.d3, by rw [← bF_set]; exact h.on.set _ _, h.sl.fr f (fun b hb => (h.dv b hb).2.2), h.d1, h.d2, h.d3, h.dv, h.pn, h.nd, h.lt, h.hn⟩
theorem PL.setPage (h : PL w pb gb ob n s v) {a : Nat} (ha : a < n) (id : Nat) : PL (w.setCell ⟨gb, a, none⟩ (.int .u32 id)) pb gb ob n ⟨s.page.set a id, s.on, s.l⟩ v := by
  have f : Fr (fun i => i = gb) w (w.setCell ⟨gb, a, none⟩ (.int .u32 id)) := (Fr.refl (fun i => i = gb) w).setCell (p := ⟨gb, a, none⟩) (.inl rfl) _
  exact ⟨h.hd.fr f h.d1, by rw [← uF_set (by rw [h.pn]; exact ha)]; exact h.pg.set _ _, h.on.fr f (fun e => h.d3 e.symm), h.sl.fr f (fun b hb => (h.dv b hb).2.1), h.d1, h.d2, h.d3, h.dv, by simp [h.pn], h.nd, h.lt, h.hn⟩
theorem PL.setL (h : PL w pb gb ob n s v) {v' : Value} {l' : List Nat} (hs : SlK .i64 w v' l') (hv : ∀ b, v'.ownBlock = some b → ¬ b = pb ∧ ¬ b = gb ∧ ¬ b = ob) (hnd : l'.Nodup) (hlt : ∀ x ∈ l', x < n) : PL (w.setCell ⟨pb, 3, none⟩ v') pb gb ob n ⟨s.page, s.on, l'⟩ v' := by
  have f : Fr (fun i => i = pb) w (w.setCell ⟨pb, 3, none⟩ v') := (Fr.refl (fun i => i = pb) w).setCell (p := ⟨pb, 3, none⟩) (.inl rfl) _
  exact ⟨by rw [← pH_set n gb ob v]; exact h.hd.set _ _, h.pg.fr f (fun e => h.d1 e.symm), h.on.fr f (fun e => h.d2 e.symm), hs.fr f (fun b hb => (hv b hb).1), h.d1, h.d2, h.d3, hv, h.pn, hnd, hlt, h.hn⟩

theorem ls_set (h : PL w pb gb ob n s v) {a : Nat} (ha : a < n) (x : Bool) : Calls Try.prog 23 #[.pointer (some ⟨pb, 0, none⟩), .int .i64 a, .bool x] w fun e w' => e = .returned (.tuple #[]) ∧ w' = w.setCell ⟨ob, a, none⟩ (.bool x) := by
  have c2 := h.c2
  have co := h.co ha
  have fo := h.on.frozen a
  have hn := h.hn
  go_enter Try.func23, Try.ntmps23
  go_wp2
  go_returns
  exact ⟨rfl, rfl⟩

set_option maxHeartbeats 1000000 in
theorem ls_access (h : PL w pb gb ob n s v) {a : Nat} (ha : a < n) (id : Nat) : Calls Try.prog 22 #[.pointer (some ⟨pb, 0, none⟩), .int .i64 a, .int .u32 id] w fun e w' => e = .returned (.tuple #[]) ∧
    ∃ v', PL w' pb gb ob n (lsPol.access s a id) v' ∧ Fr (fun i => i = pb ∨ i = gb ∨ i = ob) w w' ∧ ∀ b, v'.ownBlock = some b → w.heap.size ≤ b := by
  have c1 := h.c1
  have cp := h.cp ha
  have fp := h.pg.frozen a
  have c3 := h.c3
  have hn := h.hn
  have lg := h.pg.lt
  have lp := h.hd.lt
  have dn : ¬ gb = pb := fun e => h.d1 e.symm
  have fpb := h.hd.frozen 3
  generalize s.page.getD a 0 = y at cp
  have H1 := Lib.hid (h.setPage ha id)
  have HW := Lib.hid (Without_calls H1.out.sl (by have := len_lt h.nd h.lt; simp only; omega) a)
  have hlen := len_lt h.nd h.lt
  have hle := awayN_le a s.l
  have hf1 : Fr (fun i => i = pb ∨ i = gb ∨ i = ob) w (w.setCell ⟨gb, a, none⟩ (.int .u32 id)) := (Fr.refl (fun i => i = pb ∨ i = gb ∨ i = ob) w).setCell (p := ⟨gb, a, none⟩) (.inl (.inr (.inl rfl))) _
  have HF1 := Lib.hid hf1
  have HH := Lib.hid h
  obtain ⟨va, vc, rfl, _, _⟩ := h.sl.shape
  clear h hf1
  go_enter Try.func22, Try.ntmps22
  go_wp2_with fail
  refine HW.out.mono ?_
  clear HW
  rintro e w1 ⟨v1, rfl, ho, hf⟩
  obtain ⟨a1, cc1, rfl, _, _⟩ := ho.sl.shape
  have HO := Lib.hid ho
  have HF := Lib.hid hf
  have hs1 := hf.size
  simp only [World.size_setCell] at hs1
  clear ho hf
  have K : Hid (∀ v' w2, w2.ownsRow (w.setCell ⟨gb, a, none⟩ (.int .u32 id)).heap.size 3 1 v' ((awayN s.l a).length + 1) (((awayN s.l a).map fun (x : Nat) => Value.int .i64 (x : Int)) ++ [Value.int .i64 (a : Int)]) → Fr (fun b => (Value.slice a1 (awayN s.l a).length cc1).ownBlock = some b) (w1.alloc (.cells #[.int .i64 a] 3)) w2 →
      (w2.cell? ⟨pb, 3, none⟩ = some (.slice va s.l.length vc) ∧ w2.frozen? ⟨pb, 3, none⟩ = false ∧ pb < w2.heap.size) ∧ ∃ va' na vc', v' = .slice va' na vc' ∧ PL (w2.setCell ⟨pb, 3, none⟩ v') pb gb ob n (lsPol.access s a id) v' ∧ Fr (fun i => i = pb ∨ i = gb ∨ i = ob) w (w2.setCell ⟨pb, 3, none⟩ v') ∧ ∀ b, v'.ownBlock = some b → w.heap.size ≤ b) := by
    intro v' w2 hown hfr
    have hb1 := HO.out.base
    have fA : Fr NoF (w.setCell ⟨gb, a, none⟩ (.int .u32 id)) w2 := (HF.out.alloc _).trans hfr (fun i hi => .inr (hb1 i hi))
    have hP2 : PL w2 pb gb ob n ⟨s.page.set a id, s.on, s.l⟩ (.slice va s.l.length vc) := H1.out.fr fA (fun q => q) (fun q => q) (fun q => q) (fun _ _ q => q)
    have hown' : OwK .i64 (w.setCell ⟨gb, a, none⟩ (.int .u32 id)).heap.size 3 w2 v' (backN s.l a) := OwK.snoc hown
    have hbn : ∀ b, v'.ownBlock = some b → w.heap.size ≤ b := fun b hb => by have := hown'.base b hb; simpa using this
    have hlg := HH.out.pg.lt
    have hlo := HH.out.on.lt
    have hlp := HH.out.hd.lt
    refine ⟨⟨hP2.c3, hP2.hd.frozen 3, hP2.hd.lt⟩, ?_⟩
    obtain ⟨va', vc', rfl, _, _⟩ := hown'.sl.shape
    refine ⟨va', _, vc', rfl, hP2.setL hown'.sl (fun b hb => ?_) (nodup_back HH.out.nd a) (fun x hx => ?_), ?_, hbn⟩
    · have := hbn b hb
      exact ⟨by omega, by omega, by omega⟩
    · rcases mem_backN.1 hx with q | q
      · exact HH.out.lt x q
      · omega
    · exact (HF1.out.trans fA (fun _ q => q.elim)).setCell (p := ⟨pb, 3, none⟩) (.inl (.inl rfl)) _
  go_wp2_with (at_builtin; go_must (refine appLB (base := (w.setCell ⟨gb, a, none⟩ (.int .u32 id)).heap.size) EIi rfl _ _ rfl (by rfl) (by rfl) (by simp; omega) (own_keep HO.out ((Fr.refl NoF _).alloc _) (fun _ _ q => q)) (SlC.ofOwn (own_new (w0 := w1) (Nat.le_refl _) #[.int .i64 a] 3 1 1 _ rfl rfl (by unfold maxLen; omega)) (by simp [Value.oneCell'])) (by unfold maxLen; omega) (by omega) ?_); intro v' w2 hown' hf' _; obtain ⟨⟨k1, k2, k3⟩, va', na, vc', rfl, k4⟩ := K.out v' w2 hown' hf'; have K4 := Lib.hid k4; clear hown' hf' k4)
  go_returns
  exact ⟨rfl, _, K4.out⟩

set_option maxHeartbeats 1000000 in
theorem ls_remove (h : PL w pb gb ob n s v) {a : Nat} (ha : a < n) : Calls Try.prog 24 #[.pointer (some ⟨pb, 0, none⟩), .int .i64 a] w fun e w' => e = .returned (.tuple #[]) ∧
    ∃ v', PL w' pb gb ob n (s.remove a) v' ∧ Fr (fun i => i = pb ∨ i = gb ∨ i = ob) w w' ∧ ∀ b, v'.ownBlock = some b → w.heap.size ≤ b := by
  have c1 := h.c1
  have c2 := h.c2
  have cp := h.cp ha
  have co := h.co ha
  have fp := h.pg.frozen a
  have fo := h.on.frozen a
  have c3 := h.c3
  have hn := h.hn
  have lg := h.pg.lt
  have lo := h.on.lt
  have lp := h.hd.lt
  have d1 := h.d1
  have d2 := h.d2
  have d3 := h.d3
  have d1' : ¬ gb = pb := fun e => h.d1 e.symm
  have d2' : ¬ ob = pb := fun e => h.d2 e.symm
  have d3' : ¬ ob = gb := fun e => h.d3 e.symm
  have fpb := h.hd.frozen 3
  generalize s.page.getD a 0 = y at cp
  generalize s.on a = z at co
  have hP : PL (((w.setCell ⟨gb, a, none⟩ (.int .u32 0)).setCell ⟨ob, a, none⟩ (.bool false)).drew) pb gb ob n ⟨s.page.set a 0, upd s.on a false, s.l⟩ v := ((h.setPage ha 0).setOn a false).fr ((Fr.refl NoF _).drew) (fun q => q) (fun q => q) (fun q => q) (fun _ _ q => q)
  have hf1 : Fr (fun i => i = pb ∨ i = gb ∨ i = ob) w (((w.setCell ⟨gb, a, none⟩ (.int .u32 0)).setCell ⟨ob, a, none⟩ (.bool false)).drew) := (((Fr.refl (fun i => i = pb ∨ i = gb ∨ i = ob) w).setCell (p := ⟨gb, a, none⟩) (.inl (.inr (.inl rfl))) _).setCell (p := ⟨ob, a, none⟩) (.inl (.inr (.inr rfl))) _).drew
  have hlen := len_lt h.nd h.lt
  have HW := Lib.hid (Without_calls hP.sl (by simp only; omega) a)
  have H1 := Lib.hid hP
  have HF1 := Lib.hid hf1
  have HH := Lib.hid h
  obtain ⟨va, vc, rfl, _, _⟩ := h.sl.shape
  clear h hf1 hP
  go_enter Try.func24, Try.ntmps24
  go_wp2
  go_region
  all_goals
    go_wp2_with fail
    refine HW.out.mono ?_
    clear HW
    rintro e w1 ⟨v1, rfl, ho, hf⟩
    obtain ⟨a1, cc1, rfl, _, _⟩ := ho.sl.shape
    have hs1 := hf.size
    have hs0 : w.heap.size ≤ w1.heap.size := by simpa using hs1
    have hP2 := H1.out.fr hf (fun q => q) (fun q => q) (fun q => q) (fun _ _ q => q)
    have e3 := hP2.c3
    have e3f := hP2.hd.frozen 3
    have lpb := hP2.hd.lt
    have hbn : ∀ b, (Value.slice a1 (awayN s.l a).length cc1).ownBlock = some b → w.heap.size ≤ b := fun b hb => by have := ho.base b hb; simpa using this
    have key : PL (w1.setCell ⟨pb, 3, none⟩ (.slice a1 (awayN s.l a).length cc1)) pb gb ob n (s.remove a) (.slice a1 (awayN s.l a).length cc1) := by
      refine hP2.setL ho.sl (fun b hb => ?_) (HH.out.nd.filter _) (fun x hx => HH.out.lt x (mem_awayN.1 hx).1)
      have := hbn b hb
      exact ⟨by omega, by omega, by omega⟩
    have hfr : Fr (fun i => i = pb ∨ i = gb ∨ i = ob) w (w1.setCell ⟨pb, 3, none⟩ (.slice a1 (awayN s.l a).length cc1)) := (HF1.out.trans hf (fun _ q => q.elim)).setCell (p := ⟨pb, 3, none⟩) (.inl (.inl rfl)) _
    have KEY := Lib.hid (And.intro key (And.intro hfr hbn))
    clear ho hf hP2 key hfr hbn
    go_wp2
    go_returns
    exact ⟨rfl, _, KEY.out⟩

theorem ls_first (h : PL w pb gb ob n s v) (hon : ∀ x ∈ s.l, x < n) (d : Nat) : Calls Try.prog 33 #[v, .slice (some ⟨ob, 0, none⟩) n n] (w.drewN d) fun e w' => e = .returned (.int .i64 (fstI (s.l.find? s.on))) ∧ w.drewN d = w' := by
  have hP := h.fr ((Fr.refl NoF w).drewN d) (fun q => q) (fun q => q) (fun q => q) (fun _ _ q => q)
  have hlen := len_lt h.nd h.lt
  have hn := h.hn
  exact First_calls hP.sl (fun x hx => ⟨h.lt x hx, hP.co (h.lt x hx)⟩) (by omega) (by omega)

theorem ls_victim_no (h : PL w pb gb ob n s v) (p : Int) (hv : s.l.find? s.on = none) : Calls Try.prog 21 #[.pointer (some ⟨pb, 0, none⟩), .int .u32 p] w fun e w' => e = .returned (.int .i64 (-1)) ∧ ∃ d, w.drewN d = w' := by
  have c2 := h.c2
  have c3 := h.c3
  have HF := Lib.hid (fun d => ls_first h h.lt d)
  rw [hv] at HF
  simp only [fstI] at HF
  obtain ⟨va, vc, rfl, _, _⟩ := h.sl.shape
  clear h hv
  go_enter Try.func21, Try.ntmps21
  go_wp2
  go_quiet ((go_at_call 33; exact qs (HF.out _)))
  go_wp2
  go_returns
  exact ⟨rfl, _, rfl⟩

theorem ls_victim_yes (h : PL w pb gb ob n s v) (p : Int) {a : Nat} (hv : s.l.find? s.on = some a) : Calls Try.prog 21 #[.pointer (some ⟨pb, 0, none⟩), .int .u32 p] w fun e w' => e = .returned (.int .i64 a) ∧
    ∃ v', PL w' pb gb ob n (s.remove a) v' ∧ Fr (fun i => i = pb ∨ i = gb ∨ i = ob) w w' ∧ ∀ b, v'.ownBlock = some b → w.heap.size ≤ b := by
  have c2 := h.c2
  have c3 := h.c3
  have HF := Lib.hid (fun d => ls_first h h.lt d)
  rw [hv] at HF
  simp only [fstI] at HF
  have ha : a < n := h.lt a (List.mem_of_find?_eq_some hv)
  have HR : Hid (∀ d, Calls Try.prog 24 #[.pointer (some ⟨pb, 0, none⟩), .int .i64 a] (w.drewN d) fun e w' => e = .returned (.tuple #[]) ∧
      ∃ v', PL w' pb gb ob n (s.remove a) v' ∧ Fr (fun i => i = pb ∨ i = gb ∨ i = ob) w w' ∧ ∀ b, v'.ownBlock = some b → w.heap.size ≤ b) := by
    intro d
    refine (ls_remove (h.fr ((Fr.refl NoF w).drewN d) (fun q => q) (fun q => q) (fun q => q) (fun _ _ q => q)) ha).mono ?_
    rintro e w' ⟨he, v', h1, h2, h3⟩
    exact ⟨he, v', h1, ((Fr.refl _ w).drewN d).trans h2 (fun i q => .inl q), h3⟩
  obtain ⟨va, vc, rfl, _, _⟩ := h.sl.shape
  clear h hv ha
  go_enter Try.func21, Try.ntmps21
  go_wp2
  go_quiet ((go_at_call 33; exact qs (HF.out _)))
  go_wp2_with fail
  refine (HR.out _).mono ?_
  clear HR
  rintro e w' ⟨rfl, v', h1⟩
  have H1 := Lib.hid h1
  clear h1
  go_wp2
  go_returns
  exact ⟨rfl, _, H1.out⟩
end
end Go.Proofs.Ytefkalamodpjmaa
