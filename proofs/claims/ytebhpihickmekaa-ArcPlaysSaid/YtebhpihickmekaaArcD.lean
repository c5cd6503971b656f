/-
  arc: Ghosts, eldest, Access.
-/
import Derived.Test.YtebhpihickmekaaArcC
import Derived.Deep.QuietTactic
import Derived.BigQuiet
import Derived.Deep.RegionWith
import Derived.Deep.RegionLaw
namespace Go.Proofs.Ytebhpihickmekaa
open Go.RowKit Go.Maps
set_option linter.unusedVariables false

def T7.acc (t : T7) (f id : Nat) : T7 := if f ∈ t.nw ∨ f ∈ t.mn then ⟨awayN t.nw f, awayN t.mn f ++ [f], t.page, t.ev, t.b1, t.b2, t.goal⟩ else if id ∈ t.b1 ++ t.b2 then ⟨t.nw, t.mn ++ [f], upd t.page f id, t.ev, awayN t.b1 id, awayN t.b2 id, t.goal⟩ else ⟨t.nw ++ [f], t.mn, upd t.page f id, t.ev, t.b1, t.b2, t.goal⟩

section
variable {w w' : World} {b n : Nat} {A : TA} {t : T7} {k1 k2 sp : List Nat} {gp : Nat → Nat}
set_option maxHeartbeats 2000000 in
theorem ar_ghosts (h : AC w b n A t k1 k2 sp gp) : Calls Try.prog 19 #[.pointer (some ⟨b, 0, none⟩)] w fun e w' => ∃ v, e = .returned v ∧ SlK .u32 w' v (t.b1 ++ t.b2) ∧ Fr NoF w w' := by
  have hn := h.hn
  have hb := h.hb
  have HA : Hid (∀ w', Fr NoF w w' → Calls Try.prog 41 #[.pointer (some ⟨b, 5, none⟩), .int .i64 0] w' fun e w'' => ∃ v, e = .returned v ∧ OwK .u32 w'.heap.size 34 w'' v t.b1 ∧ Fr NoF w' w'') := fun w' f => (ga_all01 (h.fr0 f).gg (h.fr0 f).gH).1
  have HB : Hid (∀ w', Fr NoF w w' → Calls Try.prog 41 #[.pointer (some ⟨b, 5, none⟩), .int .i64 1] w' fun e w'' => ∃ v, e = .returned v ∧ OwK .u32 w'.heap.size 34 w'' v t.b2 ∧ Fr NoF w' w'') := fun w' f => (ga_all01 (h.fr0 f).gg (h.fr0 f).gH).2
  clear h
  generalize t.b1 = x1 at *
  generalize t.b2 = x2 at *
  go_enter Try.func19, Try.ntmps19
  go_wp2
  go_region_law (first
    | (go_simp; go_at_call 41; (first | (with_reducible refine (HA.out _ ((Fr.refl NoF _).drew)).mono ?_) | (with_reducible refine (HA.out _ (Fr.refl NoF _)).mono ?_)); rintro e w1 ⟨v1, rfl, h1, f1⟩; obtain ⟨va1, vc1, rfl, q1, q2⟩ := h1.sl.shape; have H1 : Hid (OwK .u32 w.heap.size 34 w1 (.slice va1 x1.length vc1) x1) := h1; have F1 := Lib.hid (Fr.trans (F := NoF) (a := w) (by first | exact (Fr.refl NoF _).drew | exact Fr.refl NoF _) f1 (fun _ q => q.elim)); clear h1 f1)
    | (go_simp; go_at_call 41; (first | (with_reducible refine (HB.out _ F1.out).mono ?_) | (with_reducible refine (HB.out _ F1.out.drew).mono ?_)); rintro e w2 ⟨v2, rfl, h2, f2⟩; obtain ⟨va2, vc2, rfl, q3, q4⟩ := h2.sl.shape; have H2 := Lib.hid h2; have F2 := Lib.hid f2; have s2 := f2.size; have s1 := F1.out.size; clear h2 f2)
    | (refine appSB (base := w.heap.size) EIu rfl _ _ rfl (by rfl) (by rfl) (by first | omega | (simp; omega)) (own_keep H1.out F2.out (fun _ _ q => q)) H2.out.sl (by unfold maxLen; omega) (by omega) ?_; intro v5 w5 hown5 hf5 hob5; have HO5 := Lib.hid hown5; have HF5 := Lib.hid hf5; clear hown5 hf5 hob5))
  all_goals
    obtain ⟨va5, vc5, e5, _, _⟩ := (SlC.ofOwn HO5.out (fun u hu => by rcases List.mem_append.1 hu with q | q <;> (obtain ⟨z, _, rfl⟩ := List.mem_map.1 q; rfl))).shape
    subst e5
    have HS5 : Hid (SlK .u32 w5 (.slice va5 (x1.length + x2.length) vc5) (x1 ++ x2)) := by
      have := SlC.ofOwn HO5.out (fun u hu => by rcases List.mem_append.1 hu with q | q <;> (obtain ⟨z, _, rfl⟩ := List.mem_map.1 q; rfl))
      unfold Hid SlK
      rw [List.length_append, List.map_append]
      exact this
    have HF : Hid (Fr NoF w w5) := (F1.out.trans F2.out (fun _ q => q.elim)).trans HF5.out (fun i q => .inr (ownBlock_own H1.out i q))
    clear HO5
    go_wp2
    go_returns
    exact ⟨_, rfl, HS5.out, HF.out⟩

theorem cnt_again {l m : List Nat} (hn : (l ++ m).Nodup) (ev : Nat → Bool) {f : Nat} (hm : f ∈ l ∨ f ∈ m) : cntL (awayN l f ++ (awayN m f ++ [f])) ev = cntL (l ++ m) ev := by
  have := cnt_back hn ev f (fun _ => List.mem_append.2 hm)
  rw [← this, ← List.append_assoc]
  have e : backL (l ++ m) f = awayN l f ++ awayN m f ++ [f] := by unfold backL awayL awayN; rw [List.filter_append]
  rw [e]
/-- A page in a frame, and the frame in a row. -/
theorem AC.laid (h : AC w b n A t k1 k2 sp gp) {f id : Nat} (hf : f < n) {b1 b2 : List Nat} {k1' k2' sp' : List Nat} {gp' : Nat → Nat} {w1 w2 : World} (hg : GA w1 A.gr A.gpb A.mb (n + 1) k1' k2' sp' gp' b1 b2 A.FG) (f1 : Fr (FGm A.FG A.gpb A.mb) w w1) (hb : b1.length + b2.length ≤ n) {nw' mn' : List Nat}
    (hR : RR w2 A.rb n 2 [nw', mn'] A.FR) (f2 : Fr A.FR (w1.setCell ⟨A.pb, f, none⟩ (.int .u32 id)) w2) (hc : cntL (nw' ++ mn') t.ev = cntL (t.nw ++ t.mn) t.ev) (hou : ∀ x, x ∈ t.nw ∨ x ∈ t.mn → x ∈ nw' ∨ x ∈ mn') :
    AC w2 b n A ⟨nw', mn', upd t.page f id, t.ev, b1, b2, t.goal⟩ k1' k2' sp' gp' ∧ Fr (FT A b) w w2 := by
  obtain ⟨n1, n2, n3, n4, n5, n6, n7, n8, n9, n10⟩ := h.lb.ne
  have fs : Fr (fun i => i = A.pb) w1 (w1.setCell ⟨A.pb, f, none⟩ (.int .u32 id)) := (Fr.refl (fun i => i = A.pb) w1).setCell (p := ⟨A.pb, f, none⟩) (.inl rfl) _
  refine ⟨⟨?_, hR, ?_, ((h.be.fr f1 n9).fr fs (fun e => n3 e.symm)).fr f2 n6, (hg.fr fs (fun i hi e => n8 (e ▸ .inl hi)) (fun e => n8 (.inr (.inl e.symm))) (fun e => n8 (.inr (.inr e.symm)))).fr f2 (fun i hi q => n10 i q (.inl hi)) (fun q => n10 _ q (.inr (.inl rfl))) (fun q => n10 _ q (.inr (.inr rfl))), h.lb, fun x hx => hou x (h.ou x hx), h.hn, h.hi, hb⟩, ?_⟩
  · show Blk w2 b 8 (twH A n t.goal (n + 1) (cntL (nw' ++ mn') t.ev))
    rw [hc]
    exact ((h.hd.fr f1 n7).fr fs n1).fr f2 n4
  · rw [← uN_set]
    exact ((h.pg.fr f1 n8).set _ _).fr f2 n5
  · refine ((f1.mono (fun i q => ?_)).trans fs (fun i q => .inl (.inr (.inl q)))).trans f2 (fun i q => .inl (.inr (.inr (.inr (.inl q)))))
    exact .inr (.inr (.inr (.inr q)))
theorem away_le2 (b1 b2 : List Nat) (x : Nat) : (awayN b1 x).length + (awayN b2 x).length ≤ b1.length + b2.length := by
  have h1 := List.length_filter_le (fun y => !decide (y = x)) b1
  have h2 := List.length_filter_le (fun y => !decide (y = x)) b2
  unfold awayN
  omega

set_option maxHeartbeats 1000000 in
theorem ar_access_in (h : AC w b n A t k1 k2 sp gp) {f id : Nat} (hf : f < n) (hm : f ∈ t.nw ∨ f ∈ t.mn) :
    Calls Try.prog 16 #[.pointer (some ⟨b, 0, none⟩), .int .i64 f, .int .u32 id] w fun e w' => e = .returned (.tuple #[]) ∧ (∃ k1' k2' sp' gp', AC w' b n A (t.acc f id) k1' k2' sp' gp') ∧ Fr (FT A b) w w' := by
  have c1 : w.cell? ⟨b, 1, none⟩ = some (.pointer (some ⟨A.rb, 0, none⟩)) := h.c 1 (by omega)
  have c2 : w.cell? ⟨b, 2, none⟩ = some (.slice (some ⟨A.pb, 0, none⟩) n n) := h.c 2 (by omega)
  have hn := h.hn
  have HH := ar_has h f
  rw [show decide (f ∈ t.nw ∨ f ∈ t.mn) = true from by simp [hm]] at HH
  have H := Lib.hid HH
  have HB := Lib.hid (back_yes h.rr 1 f (by omega) hf)
  have KEY : Hid (∀ w2, RR w2 A.rb n 2 (putL [t.nw, t.mn] 1 f false) A.FR → Fr A.FR w w2 → (∃ k1' k2' sp' gp', AC w2 b n A (t.acc f id) k1' k2' sp' gp') ∧ Fr (FT A b) w w2) := by
    intro w2 hR f2
    obtain ⟨n1, n2, n3, n4, n5, n6, n7, n8, n9, n10⟩ := h.lb.ne
    have hl := h.lists
    rw [putL2_1 hl.2.2.2.1] at hR
    rw [show t.acc f id = ⟨awayN t.nw f, awayN t.mn f ++ [f], t.page, t.ev, t.b1, t.b2, t.goal⟩ from if_pos hm]
    refine ⟨⟨k1, k2, sp, gp, ⟨?_, hR, h.pg.fr f2 n5, h.be.fr f2 n6, h.gg.fr f2 (fun i hi q => n10 i q (.inl hi)) (fun q => n10 _ q (.inr (.inl rfl))) (fun q => n10 _ q (.inr (.inr rfl))), h.lb, fun x hx => ?_, h.hn, h.hi, h.hb⟩⟩, f2.mono (fun i q => .inr (.inr (.inr (.inl q))))⟩
    · show Blk w2 b 8 (twH A n t.goal (n + 1) (cntL (awayN t.nw f ++ (awayN t.mn f ++ [f])) t.ev))
      rw [cnt_again hl.1 t.ev hm]
      exact h.hd.fr f2 n4
    · show x ∈ awayN t.nw f ∨ x ∈ awayN t.mn f ++ [f]
      by_cases e : x = f
      · right; simp [e]
      · rcases h.ou x hx with q | q
        · exact .inl (List.mem_filter.2 ⟨q, by simpa using e⟩)
        · exact .inr (List.mem_append.2 (.inl (List.mem_filter.2 ⟨q, by simpa using e⟩)))
  clear h HH hm
  go_enter Try.func16, Try.ntmps16
  go_wp2_with (go_at_call 33; refine H.out.mono ?_; rintro e w' ⟨rfl, rfl⟩)
  refine HB.out.mono ?_
  clear HB H
  rintro e w2 ⟨rfl, hR, f2⟩
  have K := Lib.hid (KEY.out w2 hR f2)
  clear hR f2
  go_wp2
  go_returns
  exact ⟨rfl, K.out⟩

set_option maxHeartbeats 1000000 in
theorem ar_access_old (h : AC w b n A t k1 k2 sp gp) {f id : Nat} (hf : f < n) (hm : ¬ (f ∈ t.nw ∨ f ∈ t.mn)) (hid : id ∈ t.b1 ++ t.b2) :
    Calls Try.prog 16 #[.pointer (some ⟨b, 0, none⟩), .int .i64 f, .int .u32 id] w fun e w' => e = .returned (.tuple #[]) ∧ (∃ k1' k2' sp' gp', AC w' b n A (t.acc f id) k1' k2' sp' gp') ∧ Fr (FT A b) w w' := by
  obtain ⟨p, hp, rfl⟩ := h.gg.mem hid
  have c2 : w.cell? ⟨b, 2, none⟩ = some (.slice (some ⟨A.pb, 0, none⟩) n n) := h.c 2 (by omega)
  have hn := h.hn
  have HHA := ar_has h f
  rw [show decide (f ∈ t.nw ∨ f ∈ t.mn) = false from by simpa using hm] at HHA
  have H := Lib.hid HHA
  have HE : Hid (t.acc f (gp p) = ⟨t.nw, t.mn ++ [f], upd t.page f (gp p), t.ev, awayN t.b1 (gp p), awayN t.b2 (gp p), t.goal⟩) := by unfold Hid T7.acc; rw [if_neg hm, if_pos hid]
  have HFG := Lib.hid (ga_forget_yes h.gg h.gH hp)
  have HH := Lib.hid h
  have HM := Lib.hid hm
  clear h hm hid HHA hp
  generalize gp p = x at *
  go_enter Try.func16, Try.ntmps16
  go_wp2_with (go_at_call 33; refine H.out.mono ?_; rintro e w' ⟨rfl, rfl⟩)
  refine HFG.out.mono ?_
  clear HFG H
  rintro e w1 ⟨rfl, hg, f1⟩
  obtain ⟨n1, n2, n3, n4, n5, n6, n7, n8, n9, n10⟩ := HH.out.lb.ne
  have hh1 := HH.out.hd.fr f1 n7
  have d1 : w1.cell? ⟨b, 1, none⟩ = some (.pointer (some ⟨A.rb, 0, none⟩)) := hh1.cell (by omega)
  have d2 : w1.cell? ⟨b, 2, none⟩ = some (.slice (some ⟨A.pb, 0, none⟩) n n) := hh1.cell (by omega)
  have hpg := HH.out.pg.fr f1 n8
  have cp : w1.cell? ⟨A.pb, f, none⟩ = some (.int .u32 (t.page f : Nat)) := hpg.cell hf
  have fp := hpg.frozen f
  have lb := hh1.lt
  have lp := hpg.lt
  have fs : Fr (fun i => i = A.pb) w1 (w1.setCell ⟨A.pb, f, none⟩ (.int .u32 x)) := (Fr.refl (fun i => i = A.pb) w1).setCell (p := ⟨A.pb, f, none⟩) (.inl rfl) _
  have HB := Lib.hid (back_yes ((HH.out.rr.fr f1 (fun i q e => n10 i q e)).fr fs (fun i hi e => n5 (e ▸ hi))) 1 f (by omega) hf)
  have HG := Lib.hid hg
  have HF1 := Lib.hid f1
  generalize t.page f = z at cp
  clear hg f1 hh1 hpg fs n2 n3 n4 n5 n6 n7 n8 n9 n10
  go_wp2_with fail
  refine HB.out.mono ?_
  clear HB
  rintro e w2 ⟨rfl, hR, f2⟩
  have key : AC w2 b n A ⟨t.nw, t.mn ++ [f], upd t.page f x, t.ev, awayN t.b1 x, awayN t.b2 x, t.goal⟩ (awayN k1 p) (awayN k2 p) (sp ++ [p]) gp ∧ Fr (FT A b) w w2 := by
    have hl := HH.out.lists
    rw [putL2_1 hl.2.2.2.1, awayN_not (fun q => HM.out (.inl q)), awayN_not (fun q => HM.out (.inr q))] at hR
    refine HH.out.laid hf HG.out HF1.out (Nat.le_trans (away_le2 _ _ _) HH.out.hb) hR f2 ?_ (fun y hy => hy.imp (fun q => q) (fun q => List.mem_append.2 (.inl q)))
    rw [← List.append_assoc]
    exact cnt_snoc _ _ _ (by cases e : t.ev f with | false => rfl | true => exact (HM.out (HH.out.ou f e)).elim)
  have KEY := Lib.hid key
  clear hR f2 key
  go_wp2
  go_returns
  exact ⟨rfl, ⟨_, _, _, _, by rw [HE.out]; exact KEY.out.1⟩, KEY.out.2⟩

set_option maxHeartbeats 1000000 in
theorem ar_access_new (h : AC w b n A t k1 k2 sp gp) {f id : Nat} (hf : f < n) (hm : ¬ (f ∈ t.nw ∨ f ∈ t.mn)) (hu : isU32 id) (hid : ¬ id ∈ t.b1 ++ t.b2) :
    Calls Try.prog 16 #[.pointer (some ⟨b, 0, none⟩), .int .i64 f, .int .u32 id] w fun e w' => e = .returned (.tuple #[]) ∧ (∃ k1' k2' sp' gp', AC w' b n A (t.acc f id) k1' k2' sp' gp') ∧ Fr (FT A b) w w' := by
  have HHA := ar_has h f
  rw [show decide (f ∈ t.nw ∨ f ∈ t.mn) = false from by simpa using hm] at HHA
  have H := Lib.hid HHA
  have HE : Hid (t.acc f id = ⟨t.nw ++ [f], t.mn, upd t.page f id, t.ev, t.b1, t.b2, t.goal⟩) := by unfold Hid T7.acc; rw [if_neg hm, if_neg hid]
  have HFG := Lib.hid (ga_forget_no h.gg h.gH hu hid)
  have hn := h.hn
  have HH := Lib.hid h
  have HM := Lib.hid hm
  obtain ⟨n1, n2, n3, n4, n5, n6, n7, n8, n9, n10⟩ := HH.out.lb.ne
  have c1 : w.cell? ⟨b, 1, none⟩ = some (.pointer (some ⟨A.rb, 0, none⟩)) := h.c 1 (by omega)
  have c2 : w.cell? ⟨b, 2, none⟩ = some (.slice (some ⟨A.pb, 0, none⟩) n n) := h.c 2 (by omega)
  have cp := h.cp hf
  have fp := h.pg.frozen f
  have lb := h.hd.lt
  have lp := h.pg.lt
  have fs : Fr (fun i => i = A.pb) w (w.setCell ⟨A.pb, f, none⟩ (.int .u32 id)) := (Fr.refl (fun i => i = A.pb) w).setCell (p := ⟨A.pb, f, none⟩) (.inl rfl) _
  have HB := Lib.hid (back_yes (h.rr.fr fs (fun i hi e => n5 (e ▸ hi))) 0 f (by omega) hf)
  generalize t.page f = z at cp
  clear h hm hid hu fs n2 n3 n4 n5 n6 n7 n8 n9 n10 HHA
  go_enter Try.func16, Try.ntmps16
  go_wp2_with (first
    | (go_at_call 33; refine H.out.mono ?_; rintro e w' ⟨rfl, rfl⟩)
    | (go_at_call 34; refine HFG.out.mono ?_; rintro e w' ⟨rfl, rfl⟩))
  refine HB.out.mono ?_
  clear HB HFG H
  rintro e w2 ⟨rfl, hR, f2⟩
  have key : AC w2 b n A ⟨t.nw ++ [f], t.mn, upd t.page f id, t.ev, t.b1, t.b2, t.goal⟩ k1 k2 sp gp ∧ Fr (FT A b) w w2 := by
    have hl := HH.out.lists
    rw [putL2_0 hl.2.2.2.1, awayN_not (fun q => HM.out (.inl q)), awayN_not (fun q => HM.out (.inr q))] at hR
    refine HH.out.laid hf HH.out.gg (Fr.refl _ _) HH.out.hb hR f2 ?_ (fun y hy => hy.imp (fun q => List.mem_append.2 (.inl q)) (fun q => q))
    have e0 : t.ev f = false := by cases e : t.ev f with | false => rfl | true => exact (HM.out (HH.out.ou f e)).elim
    rw [cnt_append (t.nw ++ [f]), cnt_snoc _ _ _ e0, ← cnt_append]
  have KEY := Lib.hid key
  clear hR f2 key
  go_wp2
  go_returns
  exact ⟨rfl, ⟨_, _, _, _, by rw [HE.out]; exact KEY.out.1⟩, KEY.out.2⟩
theorem ar_access (h : AC w b n A t k1 k2 sp gp) {f id : Nat} (hf : f < n) (hu : isU32 id) :
    Calls Try.prog 16 #[.pointer (some ⟨b, 0, none⟩), .int .i64 f, .int .u32 id] w fun e w' => e = .returned (.tuple #[]) ∧ (∃ k1' k2' sp' gp', AC w' b n A (t.acc f id) k1' k2' sp' gp') ∧ Fr (FT A b) w w' := by
  by_cases hm : f ∈ t.nw ∨ f ∈ t.mn
  · exact ar_access_in h hf hm
  · by_cases hid : id ∈ t.b1 ++ t.b2
    · exact ar_access_old h hf hm hid
    · exact ar_access_new h hf hm hu hid

set_option maxHeartbeats 1000000 in
theorem ar_eldest (h : AC w b n A t k1 k2 sp gp) (k : Int) {l : List Nat} (hl : rowZ [t.nw, t.mn] k = l) :
    Calls Try.prog 54 #[.pointer (some ⟨b, 0, none⟩), .int .i64 k] w fun e w' => e = .returned (.int .i64 (ixI (l.find? t.ev))) ∧ ∃ d, w.drewN d = w' := by
  obtain ⟨j, hj, hfj, hbj, hej⟩ := find_ix l t.ev
  have hln := (rowZ_facts h.rr k).1
  rw [hl] at hln
  have hn := h.hn
  have hln2 : ∀ x ∈ l, x < n := by
    intro x hx
    have hL := h.lists
    rw [← hl] at hx
    unfold rowZ at hx
    split at hx
    · rename_i hk
      obtain ⟨kk, rfl⟩ := Int.eq_ofNat_of_zero_le hk
      rw [show ((kk : Nat) : Int).toNat = kk from by omega] at hx
      match kk, hx with
      | 0, hx => exact hL.2.1 x hx
      | 1, hx => exact hL.2.2.1 x hx
      | kk + 2, hx => simp at hx
    · cases hx
  have HFI := First_all h.rr k
  rw [hl, List.head?_eq_getElem?] at HFI
  have HF1 := Lib.hid HFI
  have HNX : Hid (∀ (i x : Nat) (d : Nat), l[i]? = some x → Calls Try.prog 57 #[.pointer (some ⟨A.rb, 0, none⟩), .int .i64 x] (w.drewN d) fun e w' => e = .returned (.int .i64 (ixI l[i + 1]?)) ∧ w.drewN d = w') := by
    intro i x d hi
    have hR := h.rr.fr ((Fr.refl NoF w).drewN d) (fun _ _ q => q)
    have := (rowZ_facts hR k).2 i x (by rw [hl]; exact hi)
    rw [hl] at this
    rw [← this]
    exact Next_all hR x
  have c1 : w.cell? ⟨b, 1, none⟩ = some (.pointer (some ⟨A.rb, 0, none⟩)) := h.c 1 (by omega)
  have c3 : w.cell? ⟨b, 3, none⟩ = some (.slice (some ⟨A.eb, 0, none⟩) n n) := h.c 3 (by omega)
  have HCE : Hid (∀ (i x : Nat), l[i]? = some x → x < n ∧ w.cell? ⟨A.eb, x, none⟩ = some (.bool (t.ev x))) := fun i x hx => by
    have hxn := hln2 x (List.mem_of_getElem? hx)
    exact ⟨hxn, h.ce hxn⟩
  have HB := Lib.hid hbj
  have HE := Lib.hid hej
  have HFJ := Lib.hid hfj
  clear h HFI hbj hej hfj hl hln2
  go_enter Try.func54, Try.ntmps54
  go_wp2_with (go_at_call 55; refine HF1.out.mono ?_; rintro e w' ⟨rfl, d, rfl⟩)
  clear HF1
  go_loopg [5] j (fun g i wr => ∃ k : Nat, k ≤ j ∧ g = j - k ∧ i = .int .i64 (ixI l[k]?) ∧ ∃ d, w.drewN d = wr)
  case atStart => exact ⟨0, Nat.zero_le _, by omega, rfl, d, rfl⟩
  case round =>
    obtain ⟨k, hk, rfl, rfl, d, rfl⟩ := hrel
    by_cases hkj : k < j
    · have hkl : k < l.length := by omega
      obtain ⟨hxn, hce⟩ := HCE.out k l[k] (List.getElem?_eq_getElem hkl)
      rw [HB.out k l[k] hkj (List.getElem?_eq_getElem hkl)] at hce
      have HN := Lib.hid (HNX.out k l[k] d (List.getElem?_eq_getElem hkl))
      rw [show ixI l[k]? = (l[k] : Nat) from by simp [ixI, hkl]]
      generalize l[k] = x at *
      go_wp2_with (go_at_call 57; refine HN.out.mono ?_; rintro e w' ⟨rfl, rfl⟩)
      go_roundg (j - (k + 1))
      case measure => omega
      case rel => exact ⟨k + 1, by omega, rfl, rfl, d, rfl⟩
    · obtain rfl : k = j := by omega
      cases e : l[k]? with
      | none =>
        have HR : Hid (l.find? t.ev = none) := HFJ.out.trans e
        rw [show ixI (none : Option Nat) = -1 from rfl]
        clear e
        go_wp2
        go_returns
        exact ⟨by rw [HR.out]; rfl, _, rfl⟩
      | some x =>
        obtain ⟨hxn, hce⟩ := HCE.out k x e
        rw [HE.out x e] at hce
        have HR : Hid (l.find? t.ev = some x) := HFJ.out.trans e
        rw [show ixI (some x) = (x : Int) from rfl]
        clear e
        go_wp2
        go_returns
        exact ⟨by rw [HR.out]; rfl, _, rfl⟩
end
end Go.Proofs.Ytebhpihickmekaa
