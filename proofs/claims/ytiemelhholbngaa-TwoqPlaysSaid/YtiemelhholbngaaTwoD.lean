/-
  2Q: Access, eldest, goes, Victim.
-/
import Derived.Test.YtiemelhholbngaaTwoC
import Derived.Deep.QuietTactic
import Derived.BigQuiet
import Derived.Deep.RegionWith
namespace Go.Proofs.Ytiemelhholbngaa
open Go.RowKit Go.Maps
set_option linter.unusedVariables false

def T6.come (t : T6) (f id : Nat) : T6 := if id ∈ t.gh then ⟨t.nw, t.mn ++ [f], upd t.page f id, t.ev, awayN t.gh id⟩ else ⟨t.nw ++ [f], t.mn, upd t.page f id, t.ev, t.gh⟩
def T6.acc (t : T6) (f id : Nat) : T6 := if f ∈ t.nw then t else if f ∈ t.mn then ⟨t.nw, awayN t.mn f ++ [f], t.page, t.ev, t.gh⟩ else t.come f id
def T6.goes (inn : Nat) (t : T6) : Option Nat := if inn < t.nw.length then (t.nw.find? t.ev).or (t.mn.find? t.ev) else (t.mn.find? t.ev).or (t.nw.find? t.ev)
def T6.gone (out : Nat) (t : T6) (f : Nat) : T6 := (if f ∈ t.nw then (⟨t.nw, t.mn, t.page, t.ev, cutOld out (t.gh ++ [t.page f])⟩ : T6) else t).rem f
/-- Pages are numbers; no page is in two frames; none that is in a frame is remembered. -/
structure TI (t : T6) : Prop where
  u : ∀ f, f ∈ t.nw ∨ f ∈ t.mn → isU32 (t.page f) ∧ ¬ t.page f ∈ t.gh
  ij : ∀ f g, (f ∈ t.nw ∨ f ∈ t.mn) → (g ∈ t.nw ∨ g ∈ t.mn) → t.page f = t.page g → f = g
theorem cnt_snoc (l : List Nat) (ev : Nat → Bool) (f : Nat) (h : ev f = false) : cntL (l ++ [f]) ev = cntL l ev := by simp [cntL, h]

section
variable {w w' : World} {b n inn out : Nat} {A : TA} {t : T6} {tk sp : List Nat} {gp : Nat → Nat}
/-- A page in a frame, and the frame in a row. -/
theorem TC.laid (h : TC w b n inn out A t tk sp gp) {f id : Nat} (hf : f < n) (hm : ¬ (f ∈ t.nw ∨ f ∈ t.mn)) {gh' : List Nat} {tk' sp' : List Nat} {gp' : Nat → Nat} {w1 w2 : World} (hg : GR w1 A.gr A.gpb A.mb out tk' sp' gp' gh' A.FG) (f1 : Fr (FGm A.FG A.gpb A.mb) w w1) {nw' mn' : List Nat}
    (hR : RR w2 A.rb n 2 [nw', mn'] A.FR) (f2 : Fr A.FR (w1.setCell ⟨A.pb, f, none⟩ (.int .u32 id)) w2) (hc : cntL (nw' ++ mn') t.ev = cntL (t.nw ++ t.mn) t.ev) (hou : ∀ x, x ∈ t.nw ∨ x ∈ t.mn → x ∈ nw' ∨ x ∈ mn') :
    TC w2 b n inn out A ⟨nw', mn', upd t.page f id, t.ev, gh'⟩ tk' sp' gp' ∧ Fr (FT A b) w w2 := by
  obtain ⟨n1, n2, n3, n4, n5, n6, n7, n8, n9, n10⟩ := h.lb.ne
  have fs : Fr (fun i => i = A.pb) w1 (w1.setCell ⟨A.pb, f, none⟩ (.int .u32 id)) := (Fr.refl (fun i => i = A.pb) w1).setCell (p := ⟨A.pb, f, none⟩) (.inl rfl) _
  refine ⟨⟨?_, hR, ?_, ((h.be.fr f1 n9).fr fs (fun e => n3 e.symm)).fr f2 n6, (hg.fr fs (fun i hi e => n8 (e ▸ .inl hi)) (fun e => n8 (.inr (.inl e.symm))) (fun e => n8 (.inr (.inr e.symm)))).fr f2 (fun i hi q => n10 i q (.inl hi)) (fun q => n10 _ q (.inr (.inl rfl))) (fun q => n10 _ q (.inr (.inr rfl))), h.lb, fun x hx => hou x (h.ou x hx), h.hn, h.hi⟩, ?_⟩
  · show Blk w2 b 8 (twH A n inn out (cntL (nw' ++ mn') t.ev))
    rw [hc]
    exact ((h.hd.fr f1 n7).fr fs n1).fr f2 n4
  · rw [← uN_set]
    exact ((h.pg.fr f1 n8).set _ _).fr f2 n5
  · refine ((f1.mono (fun i q => ?_)).trans fs (fun i q => .inl (.inr (.inl q)))).trans f2 (fun i q => .inl (.inr (.inr (.inr (.inl q)))))
    exact .inr (.inr (.inr (.inr q)))

set_option maxHeartbeats 1000000 in
theorem come_yes (h : TC w b n inn out A t tk sp gp) {f id : Nat} (hf : f < n) (hm : ¬ (f ∈ t.nw ∨ f ∈ t.mn)) (hid : id ∈ t.gh) :
    Calls Try.prog 30 #[.pointer (some ⟨b, 0, none⟩), .int .i64 f, .int .u32 id] w fun e w' => e = .returned (.tuple #[]) ∧ (∃ tk' sp' gp', TC w' b n inn out A (t.come f id) tk' sp' gp') ∧ Fr (FT A b) w w' := by
  obtain ⟨p, hp, rfl⟩ : ∃ p ∈ tk, gp p = id := by
    rw [h.gg.hg] at hid
    obtain ⟨p, hp, e⟩ := List.mem_map.1 hid
    exact ⟨p, hp, e⟩
  have HE : Hid (t.come f (gp p) = ⟨t.nw, t.mn ++ [f], upd t.page f (gp p), t.ev, awayN t.gh (gp p)⟩) := if_pos hid
  have HFG := Lib.hid (forget_yes h.gg h.gH hp)
  have hn := h.hn
  have HH := Lib.hid h
  have HM := Lib.hid hm
  clear h hm hid
  generalize gp p = x at *
  go_enter Try.func30, Try.ntmps30
  go_wp2_with fail
  refine HFG.out.mono ?_
  clear HFG
  rintro e w1 ⟨rfl, hg, f1⟩
  obtain ⟨n1, n2, n3, n4, n5, n6, n7, n8, n9, n10⟩ := HH.out.lb.ne
  have hh1 := HH.out.hd.fr f1 n7
  have c1 : w1.cell? ⟨b, 1, none⟩ = some (.pointer (some ⟨A.rb, 0, none⟩)) := hh1.cell (by omega)
  have c2 : w1.cell? ⟨b, 2, none⟩ = some (.slice (some ⟨A.pb, 0, none⟩) n n) := hh1.cell (by omega)
  have hpg := HH.out.pg.fr f1 n8
  have cp : w1.cell? ⟨A.pb, f, none⟩ = some (.int .u32 (t.page f : Nat)) := hpg.cell hf
  have fp := hpg.frozen f
  have lb := hh1.lt
  have lp := hpg.lt
  have fs : Fr (fun i => i = A.pb) w1 (w1.setCell ⟨A.pb, f, none⟩ (.int .u32 x)) := (Fr.refl (fun i => i = A.pb) w1).setCell (p := ⟨A.pb, f, none⟩) (.inl rfl) _
  have HB := Lib.hid (back_yes ((HH.out.rr.fr f1 (fun i q e => n10 i q e)).fr fs (fun i hi e => n5 (e ▸ hi))) 1 f (by omega) hf)
  have HG := Lib.hid hg
  have HF1 := Lib.hid f1
  generalize t.page f = z at cp
  clear hg f1 hh1 hpg fs n2 n3 n4 n5 n6 n7 n8 n9 n10
  go_wp2_with fail
  refine HB.out.mono ?_
  clear HB
  rintro e w2 ⟨rfl, hR, f2⟩
  have key : TC w2 b n inn out A ⟨t.nw, t.mn ++ [f], upd t.page f x, t.ev, awayN t.gh x⟩ (awayN tk p) (sp ++ [p]) gp ∧ Fr (FT A b) w w2 := by
    have hl := HH.out.lists
    rw [putL2_1 hl.2.2.2.1, awayN_not (fun q => HM.out (.inl q)), awayN_not (fun q => HM.out (.inr q))] at hR
    refine HH.out.laid hf HM.out HG.out HF1.out hR f2 ?_ (fun y hy => hy.imp (fun q => q) (fun q => List.mem_append.2 (.inl q)))
    rw [← List.append_assoc]
    exact cnt_snoc _ _ _ (by cases e : t.ev f with | false => rfl | true => exact (HM.out (HH.out.ou f e)).elim)
  have KEY := Lib.hid key
  clear hR f2 key
  go_wp2
  go_returns
  exact ⟨rfl, ⟨_, _, _, by rw [HE.out]; exact KEY.out.1⟩, KEY.out.2⟩

set_option maxHeartbeats 1000000 in
theorem come_no (h : TC w b n inn out A t tk sp gp) {f id : Nat} (hf : f < n) (hm : ¬ (f ∈ t.nw ∨ f ∈ t.mn)) (hu : isU32 id) (hid : ¬ id ∈ t.gh) :
    Calls Try.prog 30 #[.pointer (some ⟨b, 0, none⟩), .int .i64 f, .int .u32 id] w fun e w' => e = .returned (.tuple #[]) ∧ (∃ tk' sp' gp', TC w' b n inn out A (t.come f id) tk' sp' gp') ∧ Fr (FT A b) w w' := by
  have HE : Hid (t.come f id = ⟨t.nw ++ [f], t.mn, upd t.page f id, t.ev, t.gh⟩) := if_neg hid
  have HFG := Lib.hid (forget_no h.gg h.gH hu hid)
  have hn := h.hn
  have HH := Lib.hid h
  have HM := Lib.hid hm
  obtain ⟨n1, n2, n3, n4, n5, n6, n7, n8, n9, n10⟩ := HH.out.lb.ne
  have c1 : w.cell? ⟨b, 1, none⟩ = some (.pointer (some ⟨A.rb, 0, none⟩)) := h.c 1 (by omega)
  have c2 : w.cell? ⟨b, 2, none⟩ = some (.slice (some ⟨A.pb, 0, none⟩) n n) := h.c 2 (by omega)
  have cp := h.cp hf
  have fp := h.pg.frozen f
  have lb := h.hd.lt
  have lp := h.pg.lt
  have fs : Fr (fun i => i = A.pb) w (w.setCell ⟨A.pb, f, none⟩ (.int .u32 id)) := (Fr.refl (fun i => i = A.pb) w).setCell (p := ⟨A.pb, f, none⟩) (.inl rfl) _
  have HB := Lib.hid (back_yes (h.rr.fr fs (fun i hi e => n5 (e ▸ hi))) 0 f (by omega) hf)
  generalize t.page f = z at cp
  clear h hm hid hu fs n2 n3 n4 n5 n6 n7 n8 n9 n10
  go_enter Try.func30, Try.ntmps30
  go_wp2_with (go_at_call 45; refine HFG.out.mono ?_; rintro e w' ⟨rfl, rfl⟩)
  refine HB.out.mono ?_
  clear HB HFG
  rintro e w2 ⟨rfl, hR, f2⟩
  have key : TC w2 b n inn out A ⟨t.nw ++ [f], t.mn, upd t.page f id, t.ev, t.gh⟩ tk sp gp ∧ Fr (FT A b) w w2 := by
    have hl := HH.out.lists
    rw [putL2_0 hl.2.2.2.1, awayN_not (fun q => HM.out (.inl q)), awayN_not (fun q => HM.out (.inr q))] at hR
    refine HH.out.laid hf HM.out HH.out.gg (Fr.refl _ _) hR f2 ?_ (fun y hy => hy.imp (fun q => List.mem_append.2 (.inl q)) (fun q => q))
    have e0 : t.ev f = false := by cases e : t.ev f with | false => rfl | true => exact (HM.out (HH.out.ou f e)).elim
    rw [cnt_append (t.nw ++ [f]), cnt_snoc _ _ _ e0, ← cnt_append]
  have KEY := Lib.hid key
  clear hR f2 key
  go_wp2
  go_returns
  exact ⟨rfl, ⟨_, _, _, by rw [HE.out]; exact KEY.out.1⟩, KEY.out.2⟩

set_option maxHeartbeats 1000000 in
theorem tq_access (h : TC w b n inn out A t tk sp gp) {f id : Nat} (hf : f < n) (hu : isU32 id) :
    Calls Try.prog 15 #[.pointer (some ⟨b, 0, none⟩), .int .i64 f, .int .u32 id] w fun e w' => e = .returned (.tuple #[]) ∧ (∃ tk' sp' gp', TC w' b n inn out A (t.acc f id) tk' sp' gp') ∧ Fr (FT A b) w w' := by
  have c1 : w.cell? ⟨b, 1, none⟩ = some (.pointer (some ⟨A.rb, 0, none⟩)) := h.c 1 (by omega)
  have c2 : w.cell? ⟨b, 2, none⟩ = some (.slice (some ⟨A.pb, 0, none⟩) n n) := h.c 2 (by omega)
  have hn := h.hn
  have HI := In_all h.rr f
  rw [ix2] at HI
  by_cases hm : f ∈ t.nw
  · rw [if_pos hm] at HI
    have H := Lib.hid HI
    have HE : Hid (t.acc f id = t) := if_pos hm
    have HH := Lib.hid h
    clear HI hm h hu
    go_enter Try.func15, Try.ntmps15
    go_wp2_with (go_at_call 29; refine H.out.mono ?_; rintro e w' ⟨rfl, rfl⟩)
    go_returns
    exact ⟨rfl, ⟨_, _, _, by rw [HE.out]; exact HH.out⟩, Fr.refl _ _⟩
  · rw [if_neg hm] at HI
    by_cases hm2 : f ∈ t.mn
    · rw [if_pos hm2] at HI
      have H := Lib.hid HI
      have HE : Hid (t.acc f id = ⟨t.nw, awayN t.mn f ++ [f], t.page, t.ev, t.gh⟩) := by unfold Hid T6.acc; rw [if_neg hm, if_pos hm2]
      have HB := Lib.hid (back_yes h.rr 1 f (by omega) hf)
      have HH := Lib.hid h
      have HM := Lib.hid (And.intro hm hm2)
      clear HI hm hm2 h hu
      go_enter Try.func15, Try.ntmps15
      go_wp2_with (go_at_call 29; refine H.out.mono ?_; rintro e w' ⟨rfl, rfl⟩)
      refine HB.out.mono ?_
      clear HB H
      rintro e w2 ⟨rfl, hR, f2⟩
      have key : TC w2 b n inn out A ⟨t.nw, awayN t.mn f ++ [f], t.page, t.ev, t.gh⟩ tk sp gp ∧ Fr (FT A b) w w2 := by
        have h := HH.out
        obtain ⟨n1, n2, n3, n4, n5, n6, n7, n8, n9, n10⟩ := h.lb.ne
        have hl := h.lists
        rw [putL2_1 hl.2.2.2.1, awayN_not HM.out.1] at hR
        refine ⟨⟨?_, hR, h.pg.fr f2 n5, h.be.fr f2 n6, h.gg.fr f2 (fun i hi q => n10 i q (.inl hi)) (fun q => n10 _ q (.inr (.inl rfl))) (fun q => n10 _ q (.inr (.inr rfl))), h.lb, fun x hx => (h.ou x hx).imp (fun q => q) (fun q => ?_), h.hn, h.hi⟩, f2.mono (fun i q => .inr (.inr (.inr (.inl q))))⟩
        · show Blk w2 b 8 (twH A n inn out (cntL (t.nw ++ (awayN t.mn f ++ [f])) t.ev))
          have e1 := cnt_back h.rr.row2.2.1 t.ev f (fun _ => HM.out.2)
          have e2 : cntL (t.nw ++ (awayN t.mn f ++ [f])) t.ev = cntL (t.nw ++ t.mn) t.ev := by
            rw [cnt_append t.nw, cnt_append t.nw]; exact congrArg (fun z => cntL t.nw t.ev + z) e1
          rw [e2]
          exact h.hd.fr f2 n4
        · by_cases e : x = f
          · simp [e]
          · exact List.mem_append.2 (.inl (by simpa [awayN] using ⟨q, e⟩))
      have KEY := Lib.hid key
      clear hR f2 key
      go_wp2
      go_returns
      exact ⟨rfl, ⟨_, _, _, by rw [HE.out]; exact KEY.out.1⟩, KEY.out.2⟩
    · rw [if_neg hm2] at HI
      have H := Lib.hid HI
      have HE : Hid (t.acc f id = t.come f id) := by unfold Hid T6.acc; rw [if_neg hm, if_neg hm2]
      have HC : Hid (Calls Try.prog 30 #[.pointer (some ⟨b, 0, none⟩), .int .i64 f, .int .u32 id] w fun e w' => e = .returned (.tuple #[]) ∧ (∃ tk' sp' gp', TC w' b n inn out A (t.come f id) tk' sp' gp') ∧ Fr (FT A b) w w') := by
        have hmm : ¬ (f ∈ t.nw ∨ f ∈ t.mn) := fun q => q.elim hm hm2
        by_cases hid : id ∈ t.gh
        · exact come_yes h hf hmm hid
        · exact come_no h hf hmm hu hid
      clear HI hm hm2 h hu
      go_enter Try.func15, Try.ntmps15
      go_wp2_with (go_at_call 29; refine H.out.mono ?_; rintro e w' ⟨rfl, rfl⟩)
      refine HC.out.mono ?_
      clear HC H
      rintro e w2 ⟨rfl, h2⟩
      have KEY := Lib.hid h2
      clear h2
      go_wp2
      go_returns
      refine ⟨rfl, ?_⟩
      rw [HE.out]
      exact KEY.out

theorem find_ix (l : List Nat) (ev : Nat → Bool) : ∃ j, j ≤ l.length ∧ l.find? ev = l[j]? ∧ (∀ (i x : Nat), i < j → l[i]? = some x → ev x = false) ∧ ∀ x, l[j]? = some x → ev x = true := by
  induction l with
  | nil => exact ⟨0, by simp, by simp, fun i x hi => by omega, fun x hx => by simp at hx⟩
  | cons a l ih =>
    by_cases h : ev a = true
    · exact ⟨0, by simp, by simp [h], fun i x hi => by omega, fun x hx => by simp at hx; rw [← hx]; exact h⟩
    · obtain ⟨j, h1, h2, h3, h4⟩ := ih
      refine ⟨j + 1, by simp; omega, by simp [h, h2], fun i x hi hx => ?_, fun x hx => h4 x (by simpa using hx)⟩
      cases i with
      | zero => simp at hx; rw [← hx]; simpa using h
      | succ i => exact h3 i x (by omega) (by simpa using hx)

set_option maxHeartbeats 1000000 in
theorem eldest_any (h : TC w b n inn out A t tk sp gp) (k : Int) {l : List Nat} (hl : rowZ [t.nw, t.mn] k = l) :
    Calls Try.prog 47 #[.pointer (some ⟨b, 0, none⟩), .int .i64 k] w fun e w' => e = .returned (.int .i64 (ixI (l.find? t.ev))) ∧ ∃ d, w.drewN d = w' := by
  obtain ⟨j, hj, hfj, hbj, hej⟩ := find_ix l t.ev
  have hln := (rowZ_facts h.rr k).1
  rw [hl] at hln
  have hn := h.hn
  have hln2 : ∀ x ∈ l, x < n := by
    intro x hx
    have hL := h.lists
    rw [← hl] at hx
    unfold rowZ at hx
    split at hx
    · rename_i hk
      obtain ⟨kk, rfl⟩ := Int.eq_ofNat_of_zero_le hk
      rw [show ((kk : Nat) : Int).toNat = kk from by omega] at hx
      match kk, hx with
      | 0, hx => exact hL.2.1 x hx
      | 1, hx => exact hL.2.2.1 x hx
      | kk + 2, hx => simp at hx
    · cases hx
  have HFI := First_all h.rr k
  rw [hl, List.head?_eq_getElem?] at HFI
  have HF1 := Lib.hid HFI
  have HNX : Hid (∀ (i x : Nat) (d : Nat), l[i]? = some x → Calls Try.prog 51 #[.pointer (some ⟨A.rb, 0, none⟩), .int .i64 x] (w.drewN d) fun e w' => e = .returned (.int .i64 (ixI l[i + 1]?)) ∧ w.drewN d = w') := by
    intro i x d hi
    have hR := h.rr.fr ((Fr.refl NoF w).drewN d) (fun _ _ q => q)
    have := (rowZ_facts hR k).2 i x (by rw [hl]; exact hi)
    rw [hl] at this
    rw [← this]
    exact Next_all hR x
  have c1 : w.cell? ⟨b, 1, none⟩ = some (.pointer (some ⟨A.rb, 0, none⟩)) := h.c 1 (by omega)
  have c3 : w.cell? ⟨b, 3, none⟩ = some (.slice (some ⟨A.eb, 0, none⟩) n n) := h.c 3 (by omega)
  have HCE : Hid (∀ (i x : Nat), l[i]? = some x → x < n ∧ w.cell? ⟨A.eb, x, none⟩ = some (.bool (t.ev x))) := fun i x hx => by
    have hxn := hln2 x (List.mem_of_getElem? hx)
    exact ⟨hxn, h.ce hxn⟩
  have HB := Lib.hid hbj
  have HE := Lib.hid hej
  have HFJ := Lib.hid hfj
  clear h HFI hbj hej hfj hl hln2
  go_enter Try.func47, Try.ntmps47
  go_wp2_with (go_at_call 48; refine HF1.out.mono ?_; rintro e w' ⟨rfl, d, rfl⟩)
  clear HF1
  go_loopg [5] j (fun g i wr => ∃ k : Nat, k ≤ j ∧ g = j - k ∧ i = .int .i64 (ixI l[k]?) ∧ ∃ d, w.drewN d = wr)
  case atStart => exact ⟨0, Nat.zero_le _, by omega, rfl, d, rfl⟩
  case round =>
    obtain ⟨k, hk, rfl, rfl, d, rfl⟩ := hrel
    by_cases hkj : k < j
    · have hkl : k < l.length := by omega
      obtain ⟨hxn, hce⟩ := HCE.out k l[k] (List.getElem?_eq_getElem hkl)
      rw [HB.out k l[k] hkj (List.getElem?_eq_getElem hkl)] at hce
      have HN := Lib.hid (HNX.out k l[k] d (List.getElem?_eq_getElem hkl))
      rw [show ixI l[k]? = (l[k] : Nat) from by simp [ixI, hkl]]
      generalize l[k] = x at *
      go_wp2_with (go_at_call 51; refine HN.out.mono ?_; rintro e w' ⟨rfl, rfl⟩)
      go_roundg (j - (k + 1))
      case measure => omega
      case rel => exact ⟨k + 1, by omega, rfl, rfl, d, rfl⟩
    · obtain rfl : k = j := by omega
      cases e : l[k]? with
      | none =>
        have HR : Hid (l.find? t.ev = none) := HFJ.out.trans e
        rw [show ixI (none : Option Nat) = -1 from rfl]
        clear e
        go_wp2
        go_returns
        exact ⟨by rw [HR.out]; rfl, _, rfl⟩
      | some x =>
        obtain ⟨hxn, hce⟩ := HCE.out k x e
        rw [HE.out x e] at hce
        have HR : Hid (l.find? t.ev = some x) := HFJ.out.trans e
        rw [show ixI (some x) = (x : Int) from rfl]
        clear e
        go_wp2
        go_returns
        exact ⟨by rw [HR.out]; rfl, _, rfl⟩
end
end Go.Proofs.Ytiemelhholbngaa
