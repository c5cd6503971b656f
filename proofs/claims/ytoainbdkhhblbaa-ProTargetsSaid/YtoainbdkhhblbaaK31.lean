/-
  Pro: what lies in memory stands for the ring of entries: an entry is laid at the end, one comes. Plain facts, with no program in sight.
-/
import Derived.Test.YtoainbdkhhblbaaK30
namespace Go.Proofs.Ytoainbdkhhblbaa
open Go.RowKit
set_option linter.unusedVariables false
set_option linter.unusedSimpArgs false

section
variable {n m : Nat} {r : Raw} {s : PrS} {i x f : Nat} {y : En}
theorem lay_len_ids : (r.lay x).ids.length = r.ids.length + 1 := by
  unfold Raw.lay
  split
  · rename_i c; rw [c]; rfl
  · show (insL r.ids x (r.h 0)).length = _
    unfold insL
    have e : r.ids.length = (r.ids.takeWhile (fun y => !decide (y = r.h 0))).length + (r.ids.dropWhile (fun y => !decide (y = r.h 0))).length := by
      rw [← List.length_append, List.takeWhile_append_dropWhile]
    rw [List.length_append, List.length_cons]; omega
theorem lay_countP (p : En → Bool) : (s.lay y).L.countP p = s.L.countP p + (if p y = true then 1 else 0) := by
  unfold PrS.lay
  split
  · rename_i c; rw [c]; simp [List.countP_cons]
  · exact countP_ins s.L (s.hd 0) y
/-- An entry is laid at the end. -/
theorem Rf.again (h : Rf n r s) (hx : r.ids[i]? = some x) (hns : ¬ x ∈ r.sp) : Rf n ((r.leave x).lay x) ((s.drop i).lay (r.e x)) := by
  have hL := h.get hx
  have hxm := List.mem_of_getElem? hx
  have hrl := h.rl.leave hx
  have hni : ¬ x ∈ (r.leave x).ids := by show ¬ x ∈ awayN r.ids x; rw [away_mem]; exact fun q => q.2 rfl
  have hrl2 : RL ((r.leave x).lay x).ids ((r.leave x).lay x).h ((r.leave x).lay x).e ((s.drop i).lay ((r.leave x).e x)).L ((s.drop i).lay ((r.leave x).e x)).hd := RL.lay hrl hni
  obtain ⟨e1, e2, e3, e4, e5, e6, e7, e8, e9⟩ := lay_ids_e (r := r.leave x) x
  have mem : ∀ a, a ∈ ((r.leave x).lay x).ids ↔ a ∈ r.ids := fun a => by
    rw [lay_mem]
    show a = x ∨ a ∈ awayN r.ids x ↔ _
    rw [away_mem]
    constructor
    · rintro (q | q)
      · rw [q]; exact hxm
      · exact q.1
    · intro q
      by_cases c : a = x
      · exact .inl c
      · exact .inr ⟨q, c⟩
  obtain ⟨l1, l2, l3⟩ := lay_pg (s := s.drop i) (x := r.e x)
  have hmg : ((s.drop i).lay (r.e x)).mayGo = s.mayGo := by funext e; unfold PrS.mayGo; rw [l2]; rfl
  refine ⟨hrl2, ?_, ?_, fun a ha => ?_, ?_, fun g hg a ha => ?_, fun g hg a ha hfr => ?_, fun g hg => ?_, fun p a => ?_, ?_, ?_⟩
  · rw [e3, l3]; exact h.goal
  · rw [e4]
    have h1 := drop_hot hL
    have h2 := lay_hot (s := s.drop i) (x := r.e x)
    have h3 := h.hot
    show r.hot = _
    omega
  · rw [e2, e1, hmg]; exact h.v a ((mem a).1 ha)
  · rw [e5, hmg, lay_countP]
    have h1 := countP_erase (p := s.mayGo) hL
    have h2 := h.size
    show r.size = (s.L.eraseIdx i).countP s.mayGo + _
    omega
  · rw [e6] at ha
    obtain ⟨q1, q2⟩ := h.fm1 g hg a ha
    exact ⟨(mem a).2 q1, by rw [e1]; exact q2⟩
  · rw [e6]; rw [e1] at hfr; exact h.fm2 g hg a ((mem a).1 ha) hfr
  · rw [e6]; exact h.fm0 g hg
  · rw [e7, e1, mem]; exact h.mp p a
  · rw [e8]
    have h1 := drop_gone hL
    have h2 := lay_gone (s := s.drop i) (x := r.e x)
    have h3 := h.mc
    show r.mc = _
    omega
  · rw [lay_len_ids, e9]
    have := leave_len h.rl.nd hx
    have := h.tot
    have h3 : awayN (r.leave x).sp x = r.sp := awayN_not hns
    rw [h3]
    show (awayN r.ids x).length + 1 + r.sp.length = 2 * n
    omega
/-- A cold one that was touched. -/
theorem Rf.turn (h : Rf n r s) (hx : r.ids[i]? = some x) (hns : ¬ x ∈ r.sp) {z : Nat} (hz : z + (if (r.e x).hot = true then 1 else 0) = r.hot + (if (r.e x).test = true then 1 else 0)) :
    Rf n (({ r with e := upd r.e x (r.e x).turn, hot := z } : Raw).leave x |>.lay x) ((s.drop i).lay (r.e x).turn) := by
  have h1 := h.put hx (y := (r.e x).turn) rfl rfl hz
  have h2 := h1.again (i := i) (x := x) hx hns
  rw [put_drop] at h2
  have e0 : ({ r with e := upd r.e x (r.e x).turn, hot := z } : Raw).e x = (r.e x).turn := upd_same ..
  rw [e0] at h2
  exact h2
/-- An entry comes. -/
theorem Rf.come (h : Rf n r s) (hk : PK n m s) {sp' : List Nat} (hs : r.sp = x :: sp') (hni : ¬ x ∈ r.ids) (hns : ¬ x ∈ sp') (hf : y.fr = (f : Int)) (hfn : f < n) (hfm : r.fm f = -1) (hon : s.on f = false) :
    Rf n { r.come y with fm := upd r.fm f (x : Int), hot := r.hot + (if y.hot = true then 1 else 0) } (s.lay y) := by
  have hco : r.come y = Raw.lay { r with e := upd r.e x y, v := upd r.v x false } x := by unfold Raw.come; rw [hs]; rfl
  have hE : ∀ a ∈ r.ids, upd r.e x y a = r.e a := fun a ha => upd_other _ _ (fun c => hni (c ▸ ha))
  have hrl0 : RL r.ids r.h (upd r.e x y) s.L s.hd := ⟨by rw [h.rl.L]; exact (List.map_congr_left (fun a ha => (hE a ha).symm)), h.rl.nd, h.rl.hd⟩
  have hrl : RL (Raw.lay { r with e := upd r.e x y, v := upd r.v x false } x).ids (Raw.lay { r with e := upd r.e x y, v := upd r.v x false } x).h (Raw.lay { r with e := upd r.e x y, v := upd r.v x false } x).e (s.lay (upd r.e x y x)).L (s.lay (upd r.e x y x)).hd :=
    RL.lay (r := { r with e := upd r.e x y, v := upd r.v x false }) hrl0 hni
  rw [upd_same] at hrl
  obtain ⟨e1, e2, e3, e4, e5, e6, e7, e8, e9⟩ := lay_ids_e (r := { r with e := upd r.e x y, v := upd r.v x false }) x
  rw [← hco] at hrl e1 e2 e3 e4 e5 e6 e7 e8 e9
  have mem : ∀ a, a ∈ (r.come y).ids ↔ a = x ∨ a ∈ r.ids := fun a => by rw [hco, lay_mem]
  have len : (r.come y).ids.length = r.ids.length + 1 := by rw [hco, lay_len_ids]
  obtain ⟨l1, l2, l3⟩ := lay_pg (s := s) (x := y)
  have hmg : (s.lay y).mayGo = s.mayGo := by funext e; unfold PrS.mayGo; rw [l2]
  have mgy : s.mayGo y = false := by unfold PrS.mayGo; rw [hf, Int.toNat_natCast, hon]; simp
  refine ⟨hrl, ?_, ?_, fun a ha => ?_, ?_, fun g hg a ha => ?_, fun g hg a ha hfr => ?_, fun g hg => ?_, fun p a => ?_, ?_, ?_⟩
  · show (r.come y).goal = _
    rw [e3, l3]; exact h.goal
  · show r.hot + _ = _
    have := lay_hot (s := s) (x := y)
    have := h.hot
    omega
  · show (r.come y).v a = (s.lay y).mayGo ((r.come y).e a)
    rw [e2, e1, hmg]
    show upd r.v x false a = s.mayGo (upd r.e x y a)
    by_cases c : a = x
    · rw [c, upd_same, upd_same, mgy]
    · rw [upd_other _ _ c, upd_other _ _ c]; exact h.v a (((mem a).1 ha).resolve_left c)
  · show (r.come y).size = _
    rw [e5, hmg, lay_countP, mgy]
    have := h.size
    simpa using this
  · have ha : upd r.fm f (x : Int) g = (a : Int) := ha
    show a ∈ (r.come y).ids ∧ ((r.come y).e a).fr = g
    rw [mem, e1]
    show _ ∧ (upd r.e x y a).fr = g
    by_cases c : g = f
    · subst c
      rw [upd_same] at ha
      have : a = x := by omega
      subst this
      rw [upd_same]; exact ⟨.inl rfl, hf⟩
    · rw [upd_other _ _ c] at ha
      obtain ⟨q1, q2⟩ := h.fm1 g hg a ha
      rw [hE a q1]; exact ⟨.inr q1, q2⟩
  · have ha := (mem a).1 ha
    have hfr : ((r.come y).e a).fr = (g : Int) := hfr
    rw [e1] at hfr
    have hfr : (upd r.e x y a).fr = (g : Int) := hfr
    show upd r.fm f (x : Int) g = (a : Int)
    by_cases c : a = x
    · subst c
      rw [upd_same, hf] at hfr
      have : g = f := by omega
      subst this
      rw [upd_same]
    · have ha := ha.resolve_left c
      rw [upd_other _ _ c] at hfr
      have h1 := h.fm2 g hg a ha hfr
      have : ¬ g = f := fun e => by subst e; omega
      rw [upd_other _ _ this]; exact h1
  · show upd r.fm f (x : Int) g = -1 ∨ ∃ a : Nat, upd r.fm f (x : Int) g = a
    by_cases c : g = f
    · subst c; rw [upd_same]; exact .inr ⟨x, rfl⟩
    · rw [upd_other _ _ c]; exact h.fm0 g hg
  · show (r.come y).mp p = some a ↔ a ∈ (r.come y).ids ∧ ((r.come y).e a).fr < 0 ∧ (((r.come y).e a).pg : Int) = p
    rw [e7, mem, e1]
    show r.mp p = some a ↔ (a = x ∨ a ∈ r.ids) ∧ (upd r.e x y a).fr < 0 ∧ ((upd r.e x y a).pg : Int) = p
    by_cases c : a = x
    · subst c
      rw [upd_same, hf]
      constructor
      · intro q; exact (hni ((h.mp p a).1 q).1).elim
      · rintro ⟨_, q, _⟩; omega
    · rw [upd_other _ _ c, h.mp p a]
      constructor
      · rintro ⟨q1, q2⟩; exact ⟨.inr q1, q2⟩
      · rintro ⟨q1, q2⟩; exact ⟨q1.resolve_left c, q2⟩
  · show (r.come y).mc = _
    rw [e8, lay_gone, if_neg (by omega)]; exact h.mc
  · show (r.come y).ids.length + (r.come y).sp.length = 2 * n
    rw [len, e9]
    have e10 : awayN r.sp x = sp' := by
      rw [hs]; unfold awayN
      have := awayN_not hns
      unfold awayN at this
      rw [List.filter_cons, this]; simp
    show _ + (awayN r.sp x).length = _
    rw [e10]
    have := h.tot
    rw [hs] at this
    simp at this; omega
/-- How many may go. -/
theorem size_eq (hk : PK n m s) (hm : PM n s) : s.sizeN n = s.L.countP s.mayGo := by
  have hp : s.L.Pairwise (fun x y => 0 ≤ x.fr → ¬ x.fr = y.fr) := by
    rw [List.pairwise_iff_getElem]
    intro i j hi hj hij hf e
    have := hk.uq i j _ _ (List.getElem?_eq_getElem hi) (List.getElem?_eq_getElem hj) (.inr ⟨e, hf⟩)
    omega
  have hnd : ((s.L.filter s.mayGo).map (fun e => e.fr.toNat)).Nodup := by
    refine List.pairwise_map.2 ((hp.sublist List.filter_sublist).imp_of_mem (fun {a b} ha hb hab e => ?_))
    have h1 := (List.mem_filter.1 ha).2
    have h2 := (List.mem_filter.1 hb).2
    unfold PrS.mayGo at h1 h2
    simp only [Bool.and_eq_true, decide_eq_true_eq] at h1 h2
    exact hab h1.1 (by omega)
  have hnd2 : ((List.range n).filter (fun f => decide (¬ s.pg f = 0) && s.on f)).Nodup := List.nodup_range.filter _
  have hperm : ((List.range n).filter (fun f => decide (¬ s.pg f = 0) && s.on f)).Perm ((s.L.filter s.mayGo).map (fun e => e.fr.toNat)) := by
    rw [List.perm_ext_iff_of_nodup hnd2 hnd]
    intro a
    constructor
    · intro ha
      obtain ⟨h1, h2⟩ := List.mem_filter.1 ha
      simp only [Bool.and_eq_true, decide_eq_true_eq] at h2
      obtain ⟨x, hx, q1, q2⟩ := K_of hm (List.mem_range.1 h1) h2.1
      refine List.mem_map.2 ⟨x, List.mem_filter.2 ⟨hx, ?_⟩, by omega⟩
      unfold PrS.mayGo
      rw [q1, Int.toNat_natCast, h2.2]; simp
    · intro ha
      obtain ⟨x, hx, rfl⟩ := List.mem_map.1 ha
      obtain ⟨h1, h2⟩ := List.mem_filter.1 hx
      unfold PrS.mayGo at h2
      simp only [Bool.and_eq_true, decide_eq_true_eq] at h2
      obtain ⟨k, hk'⟩ := List.getElem?_of_mem h1
      obtain ⟨p1, p2, p3⟩ := pg_of hk hm hk' h2.1
      refine List.mem_filter.2 ⟨List.mem_range.2 p1, ?_⟩
      simp only [Bool.and_eq_true, decide_eq_true_eq]
      exact ⟨by omega, h2.2⟩
  have := hperm.length_eq
  unfold PrS.sizeN
  rw [List.countP_eq_length_filter, this, List.length_map, List.countP_eq_length_filter]
end
end Go.Proofs.Ytoainbdkhhblbaa
