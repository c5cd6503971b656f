/-
  Package hatcheckref07's P: victim, where a page goes.
-/
import Derived.Test.YtebhpihickmekaaRef07E
import Derived.Deep.DeepCutAuto
namespace Go.Proofs.Ytebhpihickmekaa
open Go.RowKit
set_option linter.unusedVariables false

section
variable {w w' w'' : World} {pb gb ob n : Nat} {hc : Nat → Value} {s s' : S7}

set_option maxRecDepth 100000 in
set_option maxHeartbeats 8000000 in
theorem s7_victim_yesA (h : PG w pb 8 gb ob n hc (rows7 s) s.page s.on) (hh : H7 n s gb ob hc) {id f : Nat} (hv : s.vic id = some f) (hA : ¬ (f ∈ s.t1 ∧ s.t1.length = n)) : Calls Try.prog 23 #[.pointer (some ⟨pb, 0, none⟩), .int .u32 id] w fun e w' => e = .returned (.int .i64 f) ∧ Res7 w pb gb ob n hc s (s.gone n id f) w' := by
  have hf : f < n := by
    rcases vic7_some hv with q | q
    · exact hh.l1 f q
    · exact hh.l2 f q
  obtain ⟨a3, k3, e3, q5, q6, _, _⟩ := h.row (i := 3) (k := .i64) (l := s.t1) rfl
  obtain ⟨a4, k4, e4, q7, q8, _, _⟩ := h.row (i := 4) (k := .i64) (l := s.t2) rfl
  obtain ⟨a5, L5, k5, e5, l5, q1, q2, hs5, hx5⟩ := h.rowAt (i := 5) (l := s.b1) rfl
  obtain ⟨a6, L6, k6, e6, l6, q3, q4, hs6, hx6⟩ := h.rowAt (i := 6) (l := s.b2) rfl
  have hn := h.hn
  have hbl := hh.bl
  have hl3 := len_lt hh.n1 hh.l1
  have HI5 : Hid (∀ w', Fr NoF w w' → Calls Try.prog 42 #[.slice a5 L5 k5, .int .u32 id] w' fun e w'' => e = .returned (.bool (decide (id ∈ s.b1))) ∧ Fr NoF w' w'') := by
    intro w' f
    have := in_calls (hs5.keep f) (by omega) id
    rw [← l5] at this
    exact this
  have HI6 : Hid (∀ w', Fr NoF w w' → Calls Try.prog 42 #[.slice a6 L6 k6, .int .u32 id] w' fun e w'' => e = .returned (.bool (decide (id ∈ s.b2))) ∧ Fr NoF w' w'') := by
    intro w' f
    have := in_calls (hs6.keep f) (by omega) id
    rw [← l6] at this
    exact this
  have HP : Hid (∀ w', Fr NoF w w' → w'.cell? ⟨pb, 0, none⟩ = some (.int .i64 n) ∧ w'.cell? ⟨pb, 1, none⟩ = some (.slice (some ⟨gb, 0, none⟩) n n) ∧ w'.cell? ⟨pb, 2, none⟩ = some (.slice (some ⟨ob, 0, none⟩) n n) ∧ w'.cell? ⟨pb, 3, none⟩ = some (.slice a3 s.t1.length k3) ∧ w'.cell? ⟨pb, 4, none⟩ = some (.slice a4 s.t2.length k4) ∧ w'.cell? ⟨pb, 5, none⟩ = some (.slice a5 L5 k5) ∧ w'.cell? ⟨pb, 6, none⟩ = some (.slice a6 L6 k6) ∧ w'.cell? ⟨pb, 7, none⟩ = some (.int .i64 (s.goal : Nat)) ∧ pb < w'.heap.size) := fun w' f =>
    ⟨(h.fr0 f).c 0 (by omega) hh.c0, (h.fr0 f).c 1 (by omega) hh.c1, (h.fr0 f).c 2 (by omega) hh.c2, (h.fr0 f).c 3 (by omega) e3, (h.fr0 f).c 4 (by omega) e4, (h.fr0 f).c 5 (by omega) e5, (h.fr0 f).c 6 (by omega) e6, (h.fr0 f).c 7 (by omega) hh.c7, (h.fr0 f).hd.lt⟩
  have HA : Hid (∀ w', Fr NoF w w' → ∀ d, Calls Try.prog 44 #[.slice a3 s.t1.length k3, .slice (some ⟨ob, 0, none⟩) n n] (w'.drewN d) fun e w'' => e = .returned (.int .i64 (fstI (s.t1.find? s.on))) ∧ w'.drewN d = w'') := by
    intro w' f d
    have := s7_first1 (h.fr0 f) hh d
    rw [e3] at this
    exact this
  have HB : Hid (∀ w', Fr NoF w w' → ∀ d, Calls Try.prog 44 #[.slice a4 s.t2.length k4, .slice (some ⟨ob, 0, none⟩) n n] (w'.drewN d) fun e w'' => e = .returned (.int .i64 (fstI (s.t2.find? s.on))) ∧ w'.drewN d = w'') := by
    intro w' f d
    have := s7_first2 (h.fr0 f) hh d
    rw [e4] at this
    exact this
  have HFS : Hid (s.fst id = (decide (0 < s.t1.length) && (decide (s.goal < s.t1.length) || (decide (s.t1.length = s.goal) && decide (id ∈ s.b2))))) := rfl
  have HHas : Hid (∀ w', Fr NoF w w' → Calls Try.prog 45 #[.slice a3 s.t1.length k3, .int .i64 f] w' fun e w'' => e = .returned (.bool (decide (f ∈ s.t1))) ∧ Fr NoF w' w'') := by
    intro w' q
    exact has_calls (by have := ((h.fr0 q).sl 3 .i64 s.t1 rfl).1; rw [e3] at this; exact this) (by omega) f
  have HCP : Hid (∀ w', Fr NoF w w' → w'.cell? ⟨gb, f, none⟩ = some (.int .u32 (s.page.getD f 0 : Nat))) := fun w' q => (h.fr0 q).cp hf
  have HRem : Hid (∀ w', Fr NoF w w' → Calls Try.prog 26 #[.pointer (some ⟨pb, 0, none⟩), .int .i64 f] w' fun e w'' => e = .returned (.tuple #[]) ∧ Res7 w pb gb ob n hc s (s.remove f) w'') := by
    intro w' q
    exact (s7_remove (h.fr0 q) hh hf).mono fun e w'' ⟨he, hr⟩ => ⟨he, hr.trans0 q⟩
  have HPL : Hid (s.plain n id f = (decide (f ∈ s.t1) && (decide (s.t1.length = n) && (!decide (id ∈ s.b1) && !decide (id ∈ s.b2))))) := rfl
  have HPU : Hid ((s.put n id f).1 = (if s.plain n id f = true then s.b1 else if decide (f ∈ s.t1) = true then s.b1 ++ [s.page.getD f 0] else s.b1) ∧ (s.put n id f).2 = (if s.plain n id f = true then s.b2 else if decide (f ∈ s.t1) = true then s.b2 else s.b2 ++ [s.page.getD f 0])) := by
    unfold Hid S7.put
    simp only [decide_eq_true_eq]
    exact ⟨trivial, trivial⟩
  have HPN : Hid ((s.put n id f).1.length + (s.put n id f).2.length ≤ n + 1) := by
    unfold Hid S7.put
    by_cases q : s.plain n id f = true
    · simp only [if_pos q]; omega
    · simp only [if_neg q]
      by_cases p : f ∈ s.t1
      · simp only [if_pos p, List.length_append, List.length_singleton]; omega
      · simp only [if_neg p, List.length_append, List.length_singleton]; omega
  have HGN : Hid (s.gone n id f = ⟨(s.remove f).page, (s.remove f).on, (s.remove f).t1, (s.remove f).t2, (bnd n (s.put n id f).1 (s.put n id f).2).1, (bnd n (s.put n id f).1 (s.put n id f).2).2, (s.remove f).goal⟩) := rfl
  have HCS : Hid (∃ tb : Bool, ((s.fst id = true ∧ fstI (s.t1.find? s.on) = (f : Int) ∧ tb = true) ∨ (s.fst id = false ∧ fstI (s.t1.find? s.on) = (f : Int) ∧ fstI (s.t2.find? s.on) = -1 ∧ tb = true) ∨ (s.fst id = true ∧ fstI (s.t2.find? s.on) = (f : Int) ∧ fstI (s.t1.find? s.on) = -1 ∧ tb = false) ∨ (s.fst id = false ∧ fstI (s.t2.find? s.on) = (f : Int) ∧ tb = false))) := by
    unfold S7.vic at hv
    cases hfs : s.fst id with
    | true =>
      rw [hfs] at hv
      cases e1 : s.t1.find? s.on with
      | none =>
        rw [e1] at hv
        cases e2 : s.t2.find? s.on with
        | none => rw [e2] at hv; simp at hv
        | some y => rw [e2] at hv; simp at hv; rw [hv]; exact ⟨false, .inr (.inr (.inl ⟨rfl, rfl, rfl, rfl⟩))⟩
      | some x => rw [e1] at hv; simp at hv; rw [hv]; exact ⟨true, .inl ⟨rfl, rfl, rfl⟩⟩
    | false =>
      rw [hfs] at hv
      cases e2 : s.t2.find? s.on with
      | none => rw [e2] at hv; simp at hv; rw [hv]; exact ⟨true, .inr (.inl ⟨rfl, rfl, rfl, rfl⟩)⟩
      | some y => rw [e2] at hv; simp at hv; rw [hv]; exact ⟨false, .inr (.inr (.inr ⟨rfl, rfl, rfl⟩))⟩
  have HOC : Hid (decide (f ∈ s.t1) = true → ¬ s.t1.length = n) := fun q e => hA ⟨by simpa using q, e⟩
  clear hA
  rw [HGN.out]
  clear h hh hv hs5 hs6 e3 e4 e5 e6 hx5 hx6 l5 l6 HGN
  generalize decide (f ∈ s.t1) = oc at *
  generalize s.page.getD f 0 = x at *
  generalize fstI (s.t1.find? s.on) = AA at *
  generalize fstI (s.t2.find? s.on) = BB at *
  generalize s.plain n id f = pl at *
  generalize s.t1.length = L3 at *
  generalize s.t2.length = L4 at *
  generalize s.goal = gg at *
  generalize hm5 : decide (id ∈ s.b1) = m5 at *
  generalize hm6 : decide (id ∈ s.b2) = m6 at *
  generalize s.fst id = fb at *
  have M5 := Lib.hid hm5
  have M6 := Lib.hid hm6
  clear hm5 hm6
  go_enter Try.func23, Try.ntmps23
  go_upto_region 1 with fail
  go_cut [5] (fun s5 wx => s5 = .bool fb ∧ Fr NoF w wx)
  case first =>
    as_aux_lemma =>
      obtain ⟨g0, g1, g2, g3, g4, g5, g6, g7, gl⟩ := HP.out w (Fr.refl _ _)
      by_cases hA1 : 0 < L3
      · have z1 : 0 < (L3 : Int) := by omega
        have y1 : decide (0 < L3) = true := by simp [hA1]
        by_cases hA2 : gg < L3
        · have hfb : fb = true := by rw [HFS.out]; simp [hA1, hA2]
          subst hfb
          have z2 : (gg : Int) < (L3 : Int) := by omega
          have y2 : decide (gg < L3) = true := by simp [hA2]
          clear hA1 hA2
          go_quiet (fail)
          all_goals (go_wp2_with fail; go_meet; exact ⟨rfl, by repeat (first | exact Fr.refl NoF _ | apply Fr.drew | apply Fr.drewN)⟩)
        · have z2 : decide ((gg : Int) < (L3 : Int)) = false := by simp; omega
          have y2 : decide (gg < L3) = false := by simp; omega
          by_cases hA3 : L3 = gg
          · have hfb : fb = m6 := by
              rw [HFS.out, show decide (0 < L3) = true from by simp [hA1], show decide (gg < L3) = false from by simp; omega, show decide (L3 = gg) = true from by simp [hA3]]
              simp
            subst hfb
            have z3 : ((L3 : Int) == (gg : Int)) = true := by simp; omega
            have y3 : (L3 == gg) = true := by simp [hA3]
            have x3 : decide (L3 = gg) = true := by simp [hA3]
            clear hA1 hA2 hA3
            go_region_held3 (fun w' => w'.cell? ⟨pb, 3, none⟩ = some (.slice a3 L3 k3) ∧ w'.cell? ⟨pb, 6, none⟩ = some (.slice a6 L6 k6) ∧ w'.cell? ⟨pb, 7, none⟩ = some (.int .i64 (gg : Nat)))
              (first | exact ⟨g3, g6, g7⟩ | exact ⟨i3, i6, i7⟩)
              (first
                | (go_at_call 42; refine (HI6.out _ (by repeat (first | exact Fr.refl NoF _ | apply Fr.drew | apply Fr.drewN))).mono ?_; rintro e wi ⟨rfl, fi⟩; have fi' : Fr NoF w wi := Fr.trans (F := NoF) (by repeat (first | exact Fr.refl NoF _ | apply Fr.drew | apply Fr.drewN)) fi (fun _ q => q.elim); obtain ⟨i0, i1, i2, i3, i4, i5, i6, i7, il⟩ := HP.out wi fi'; have FI := Lib.hid fi'; clear fi fi'))
            all_goals (go_wp2_with fail; go_meet; exact ⟨rfl, FI.out⟩)
          · have hfb : fb = false := by rw [HFS.out]; simp [hA1, hA2, hA3]
            subst hfb
            have z3 : ((L3 : Int) == (gg : Int)) = false := by simp; omega
            have y3 : (L3 == gg) = false := by simp [hA3]
            have x3 : decide (L3 = gg) = false := by simp [hA3]
            clear hA1 hA2 hA3
            go_quiet (fail)
            all_goals (go_wp2_with fail; go_meet; exact ⟨rfl, by repeat (first | exact Fr.refl NoF _ | apply Fr.drew | apply Fr.drewN)⟩)
      · have hfb : fb = false := by rw [HFS.out]; simp [hA1]
        subst hfb
        have z1 : decide (0 < (L3 : Int)) = false := by simp; omega
        have y1 : decide (0 < L3) = false := by simp; omega
        clear hA1
        go_quiet (fail)
        all_goals (go_wp2_with fail; go_meet; exact ⟨rfl, by repeat (first | exact Fr.refl NoF _ | apply Fr.drew | apply Fr.drewN)⟩)
  case rest =>
    obtain ⟨rfl, f1⟩ := hcut
    obtain ⟨g0, g1, g2, g3, g4, g5, g6, g7, gl⟩ := HP.out wc f1
    have HA1 := Lib.hid (HA.out wc f1)
    have HB1 := Lib.hid (HB.out wc f1)
    have F1 := Lib.hid f1
    clear f1 HA HB
    go_wp2_with fail
    go_quiet ((first | (go_at_call 44; with_reducible exact qs (HA1.out _)) | (go_at_call 44; with_reducible exact qs (HB1.out _))))
    go_upto_region 4 with fail
    obtain ⟨tb, hcs⟩ := HCS.out
    have HTB : Hid ((tb = true ∧ AA = (f : Int)) ∨ (tb = false ∧ BB = (f : Int))) := by
      rcases hcs with ⟨_, r1, r2⟩ | ⟨_, r1, _, r2⟩ | ⟨_, r1, _, r2⟩ | ⟨_, r1, r2⟩
      · exact .inl ⟨r2, r1⟩
      · exact .inl ⟨r2, r1⟩
      · exact .inr ⟨r2, r1⟩
      · exact .inr ⟨r2, r1⟩
    have HCS2 := Lib.hid hcs
    clear hcs
    go_cut [5, 6, 7, 8, 77] (fun s5 s6 s7 s8 s77 wx => s6 = .int .i64 AA ∧ s8 = .int .i64 BB ∧ s77 = .bool tb ∧ Fr NoF w wx)
    case first =>
      as_aux_lemma =>
        rcases HCS2.out with ⟨rfl, rfl, rfl⟩ | ⟨rfl, rfl, rfl, rfl⟩ | ⟨rfl, rfl, rfl, rfl⟩ | ⟨rfl, rfl, rfl⟩
        all_goals
          go_wp2_with fail
          all_goals (go_meet; exact ⟨rfl, rfl, rfl, (by repeat (first | exact F1.out | apply Fr.drew | apply Fr.drewN))⟩)
    case rest =>
      obtain ⟨rfl, rfl, rfl, f2⟩ := hcut
      clear g0 g1 g2 g3 g4 g5 g6 g7 gl HA1 HB1 HCS HCS2
      have F2 := Lib.hid f2
      clear f2 F1
      go_upto_if 77 with fail
      go_cut [6, 8] (fun s6 s8 wx => s8 = .int .i64 f ∧ Fr NoF w wx)
      case first =>
        as_aux_lemma =>
          rcases HTB.out with ⟨rfl, rfl⟩ | ⟨rfl, rfl⟩
          all_goals
            go_wp2_with fail
            all_goals (go_meet; exact ⟨rfl, (by repeat (first | exact F2.out | apply Fr.drew | apply Fr.drewN))⟩)
      case rest =>
        obtain ⟨rfl, f3⟩ := hcut
        clear HTB F2
        obtain ⟨g0, g1, g2, g3, g4, g5, g6, g7, gl⟩ := HP.out wc f3
        have gp := HCP.out wc f3
        have F3 := Lib.hid f3
        clear f3
        go_upto_region 8 with fail
        go_cut [8, 9, 10] (fun s8 s9 s10 wx => s8 = .int .i64 f ∧ s9 = .int .u32 x ∧ s10 = .bool oc ∧ Fr NoF w wx)
        case first =>
          as_aux_lemma =>
            go_region_held3 (fun w' => w'.cell? ⟨pb, 1, none⟩ = some (.slice (some ⟨gb, 0, none⟩) n n) ∧ w'.cell? ⟨pb, 3, none⟩ = some (.slice a3 L3 k3) ∧ w'.cell? ⟨gb, f, none⟩ = some (.int .u32 x))
              (first | exact ⟨g1, g3, gp⟩ | exact ⟨p1, p3, pp⟩)
              (first
                | (go_at_call 45; refine (HHas.out _ (by repeat (first | exact F3.out | apply Fr.drew | apply Fr.drewN))).mono ?_; rintro e wh ⟨rfl, fh⟩; have fh' : Fr NoF w wh := Fr.trans (F := NoF) (by repeat (first | exact F3.out | apply Fr.drew | apply Fr.drewN)) fh (fun _ q => q.elim); obtain ⟨p0, p1, p2, p3, p4, p5, p6, p7, pl'⟩ := HP.out wh fh'; have pp := HCP.out wh fh'; have FH := Lib.hid fh'; clear fh fh'))
            all_goals (go_wp2_with fail; go_meet; exact ⟨rfl, rfl, rfl, FH.out⟩)
        case rest =>
          obtain ⟨rfl, rfl, rfl, f4⟩ := hcut
          clear g0 g1 g2 g3 g4 g5 g6 g7 gl gp F3
          obtain ⟨g0, g1, g2, g3, g4, g5, g6, g7, gl⟩ := HP.out wc f4
          have F4 := Lib.hid f4
          clear f4
          go_upto_region 9 with fail
          go_cut [10, 11] (fun s10 s11 wx => s10 = .bool oc ∧ s11 = .bool pl ∧ Fr NoF w wx)
          case first =>
            as_aux_lemma =>
              cases oc with
              | false =>
                have hpl : pl = false := by rw [HPL.out]; rfl
                subst hpl
                go_quiet (fail)
                all_goals (go_wp2_with fail; go_meet; exact ⟨rfl, rfl, (by repeat (first | exact F4.out | apply Fr.drew | apply Fr.drewN))⟩)
              | true =>
                have hLn := HOC.out rfl
                have y1 : (L3 == n) = false := by simp [hLn]
                have y2 : ((L3 : Int) == (n : Int)) = false := by simp; omega
                have y3 : decide (L3 = n) = false := by simp [hLn]
                have hpl : pl = false := by rw [HPL.out, y3]; rfl
                subst hpl
                clear hLn
                go_quiet (fail)
                all_goals (go_wp2_with fail; go_meet; exact ⟨rfl, rfl, (by repeat (first | exact F4.out | apply Fr.drew | apply Fr.drewN))⟩)
          case rest =>
            obtain ⟨rfl, rfl, f5⟩ := hcut
            clear g0 g1 g2 g3 g4 g5 g6 g7 gl F4
            have HR := Lib.hid (HRem.out _ f5)
            clear f5
            go_wp2_with fail
            refine HR.out.mono ?_
            clear HR
            rintro e w5 ⟨rfl, h5⟩
            have HL : Hid (LpS w pb gb ob n hc s (s.remove f) s.b1 s.b2 w5) := LpS.of h5
            clear h5
            have HLX : Hid ((s.put n id f).1 = (s.put n id f).1) := rfl
            go_upto_if 129 with fail
            go_cut [9, 10, 11] (fun s9 s10 s11 wx => LpS w pb gb ob n hc s (s.remove f) (s.put n id f).1 (s.put n id f).2 wx)
            case first =>
              as_aux_lemma =>
                cases pl with
                | true =>
                  go_wp2_with fail
                  go_meet
                  rw [HPU.out.1, HPU.out.2]
                  exact HL.out
                | false =>
                  cases oc with
                  | true =>
                    obtain ⟨hc5, hp5, hh5⟩ := HL.out
                    obtain ⟨ay, Ly, ky, ey, ly, y1, y2, hsy, _⟩ := PG.rowAt (s := ⟨(s.remove f).page, (s.remove f).on, (s.remove f).t1, (s.remove f).t2, s.b1, s.b2, (s.remove f).goal⟩) hp5.g (i := 5) (l := s.b1) rfl
                    rw [ly] at ey y1
                    have dy := hp5.g.c 5 (by omega) ey
                    have lpb := hp5.g.hd.lt
                    have HSY2 := Lib.hid hsy
                    have EY := Lib.hid ey
                    have HP5 := Lib.hid hp5
                    have HH5 := Lib.hid hh5
                    have LY := Lib.hid ly
                    have ly2 : (s.b1).length ≤ 65536 := by omega
                    clear hsy ey hp5 hh5 ly
                    go_wp2_with (first
                      | (at_builtin; (refine appLB (base := w5.heap.size) EIu rfl _ _ rfl (by rfl) (by rfl) (by simp) (own_new (w0 := w5) (Nat.le_refl _) #[] 34 1 0 _ rfl rfl (by unfold maxLen; omega)) (HSY2.out.keep ((Fr.refl NoF _).alloc _)) (by unfold maxLen; omega) (by omega) ?_); intro v6 w6 hown hf6 hob6; obtain ⟨⟨a6', c6', rfl⟩, ho6, f6⟩ := own_copy rfl hown hf6; have HO6 := Lib.hid ho6; have HF6 := Lib.hid f6; have hs6 := f6.size; clear hown hf6 hob6 ho6 f6)
                      | (at_builtin; go_must (refine appLB (base := w5.heap.size) EIu rfl _ _ rfl (by rfl) (by rfl) (by simp; omega) (own_keep HO6.out ((Fr.refl NoF _).alloc _) (fun _ _ q => q)) (SlC.ofOwn (own_new (w0 := w6) (Nat.le_refl _) #[.int .u32 x] 34 1 1 _ rfl rfl (by unfold maxLen; omega)) (by simp [Value.oneCell'])) (by unfold maxLen; omega) (by omega) ?_); intro v' w7 hown hf7 hob7; obtain ⟨⟨a7', c7', rfl⟩, hg7, hp7⟩ := HP5.out.push HF6.out HO6.out _ hown hf7 5; have dy' := hg7.c 5 (by omega) EY.out; have gf' := hg7.hd.frozen 5; have gl' := hg7.hd.lt; have HP7 := Lib.hid hp7; clear hown hf7 hob7 hg7 hp7))
                    go_meet
                    have hp := HP7.out
                    rw [rows7_5 _ _ (s.remove f).page (s.remove f).on (s.remove f).goal] at hp
                    rw [HPU.out.1, HPU.out.2]
                    exact ⟨_, hp, HH5.out.upd 5 (by omega) _ rfl HH5.out.n1 HH5.out.n2 HH5.out.l1 HH5.out.l2 (Nat.zero_le _)⟩
                  | false =>
                    obtain ⟨hc5, hp5, hh5⟩ := HL.out
                    obtain ⟨ay, Ly, ky, ey, ly, y1, y2, hsy, _⟩ := PG.rowAt (s := ⟨(s.remove f).page, (s.remove f).on, (s.remove f).t1, (s.remove f).t2, s.b1, s.b2, (s.remove f).goal⟩) hp5.g (i := 6) (l := s.b2) rfl
                    rw [ly] at ey y1
                    have dy := hp5.g.c 6 (by omega) ey
                    have lpb := hp5.g.hd.lt
                    have HSY2 := Lib.hid hsy
                    have EY := Lib.hid ey
                    have HP5 := Lib.hid hp5
                    have HH5 := Lib.hid hh5
                    have LY := Lib.hid ly
                    have ly2 : (s.b2).length ≤ 65536 := by omega
                    clear hsy ey hp5 hh5 ly
                    go_wp2_with (first
                      | (at_builtin; (refine appLB (base := w5.heap.size) EIu rfl _ _ rfl (by rfl) (by rfl) (by simp) (own_new (w0 := w5) (Nat.le_refl _) #[] 34 1 0 _ rfl rfl (by unfold maxLen; omega)) (HSY2.out.keep ((Fr.refl NoF _).alloc _)) (by unfold maxLen; omega) (by omega) ?_); intro v6 w6 hown hf6 hob6; obtain ⟨⟨a6', c6', rfl⟩, ho6, f6⟩ := own_copy rfl hown hf6; have HO6 := Lib.hid ho6; have HF6 := Lib.hid f6; have hs6 := f6.size; clear hown hf6 hob6 ho6 f6)
                      | (at_builtin; go_must (refine appLB (base := w5.heap.size) EIu rfl _ _ rfl (by rfl) (by rfl) (by simp; omega) (own_keep HO6.out ((Fr.refl NoF _).alloc _) (fun _ _ q => q)) (SlC.ofOwn (own_new (w0 := w6) (Nat.le_refl _) #[.int .u32 x] 34 1 1 _ rfl rfl (by unfold maxLen; omega)) (by simp [Value.oneCell'])) (by unfold maxLen; omega) (by omega) ?_); intro v' w7 hown hf7 hob7; obtain ⟨⟨a7', c7', rfl⟩, hg7, hp7⟩ := HP5.out.push HF6.out HO6.out _ hown hf7 6; have dy' := hg7.c 6 (by omega) EY.out; have gf' := hg7.hd.frozen 6; have gl' := hg7.hd.lt; have HP7 := Lib.hid hp7; clear hown hf7 hob7 hg7 hp7))
                    go_meet
                    have hp := HP7.out
                    rw [rows7_6 _ _ (s.remove f).page (s.remove f).on (s.remove f).goal] at hp
                    rw [HPU.out.1, HPU.out.2]
                    exact ⟨_, hp, HH5.out.upd 6 (by omega) _ rfl HH5.out.n1 HH5.out.n2 HH5.out.l1 HH5.out.l2 (Nat.zero_le _)⟩
            case rest =>
              have HLP := Lib.hid hcut
              clear hcut HL HPU HPL HI5 HI6 HP HHas HCP HRem
              go_wp2
              go_loopg [] ((s.put n id f).1.length + (s.put n id f).2.length) (fun g wr => ∃ c1 c2, g = c1.length + c2.length ∧ c1.length + c2.length ≤ n + 1 ∧ bnd n c1 c2 = bnd n (s.put n id f).1 (s.put n id f).2 ∧ LpS w pb gb ob n hc s (s.remove f) c1 c2 wr)
              case atStart => exact ⟨(s.put n id f).1, (s.put n id f).2, rfl, HPN.out, rfl, HLP.out⟩
              case round =>
                as_aux_lemma =>
                  clear HLP
                  obtain ⟨c1, c2, rfl, hcl, hb, hlp⟩ := hrel
                  obtain ⟨az5, X5, z5, az6, X6, z6, lx5, lx6, u1, u2, u3, u4, hcells, hd5, hd6⟩ := hlp.use
                  obtain ⟨g0, g5, g6, gf5, gf6, gl⟩ := hcells wr (Fr.refl _ _)
                  have HD5 := Lib.hid hd5
                  have HD6 := Lib.hid hd6
                  have HB := Lib.hid hb
                  have HLP := Lib.hid hlp
                  have HX := Lib.hid (And.intro lx5 lx6)
                  rw [← lx5, ← lx6] at hcl
                  have gw : IntKind.i64.wrap ((X5 : Int) + (X6 : Int)) = (X5 : Int) + X6 := IntWalk.i64_in _ (by omega)
                  clear hcells hd5 hd6 hb hlp lx5 lx6
                  by_cases hgt : n < X5 + X6
                  · have hgt' : (n : Int) < (X5 : Int) + X6 := by omega
                    by_cases h2 : X6 < X5
                    · have h2' : (X6 : Int) < (X5 : Int) := by omega
                      have D1 : Hid (bnd n (c1.drop 1) c2 = bnd n (s.put n id f).1 (s.put n id f).2 ∧ (c1.drop 1).length + c2.length < c1.length + c2.length ∧ (c1.drop 1).length + c2.length ≤ n + 1) := by
                        have l1 := HX.out.1
                        have l2 := HX.out.2
                        refine ⟨?_, by rw [List.length_drop]; omega, by rw [List.length_drop]; omega⟩
                        rw [bnd_stop (by rw [List.length_drop]; omega), ← HB.out]
                        unfold bnd
                        rw [if_pos (by omega), if_pos (by omega)]
                      by_cases hk : z5 = 1
                      · obtain rfl : z5 = 1 := hk
                        omega
                      · clear hgt h2
                        go_wp2_with fail
                        go_quiet (fail)
                        go_wp2
                        go_quiet (fail)
                        go_wp2
                        go_roundg ((c1.drop 1).length + c2.length)
                        case measure => exact D1.out.2.1
                        case rel => exact ⟨_, _, rfl, D1.out.2.2, D1.out.1, (HD5.out _ (by repeat (first | exact Fr.refl NoF _ | apply Fr.drewN)) (by omega)).2 hk⟩
                    · have h2' : (X5 : Int) ≤ (X6 : Int) := by omega
                      have D1 : Hid (bnd n c1 (c2.drop 1) = bnd n (s.put n id f).1 (s.put n id f).2 ∧ c1.length + (c2.drop 1).length < c1.length + c2.length ∧ c1.length + (c2.drop 1).length ≤ n + 1) := by
                        have l1 := HX.out.1
                        have l2 := HX.out.2
                        refine ⟨?_, by rw [List.length_drop]; omega, by rw [List.length_drop]; omega⟩
                        rw [bnd_stop (by rw [List.length_drop]; omega), ← HB.out]
                        unfold bnd
                        rw [if_pos (by omega), if_neg (by omega)]
                      by_cases hk : z6 = 1
                      · obtain rfl : z6 = 1 := hk
                        obtain rfl : X6 = 1 := by omega
                        clear gw hgt' h2'
                        have gw : IntKind.i64.wrap ((X5 : Int) + 1) = (X5 : Int) + 1 := IntWalk.i64_in _ (by omega)
                        have hgt' : (n : Int) < (X5 : Int) + 1 := by omega
                        have h2' : (X5 : Int) ≤ 1 := by omega
                        clear hgt h2
                        go_wp2_with fail
                        go_quiet (fail)
                        go_wp2
                        go_quiet (fail)
                        go_wp2
                        go_roundg (c1.length + (c2.drop 1).length)
                        case measure => exact D1.out.2.1
                        case rel => exact ⟨_, _, rfl, D1.out.2.2, D1.out.1, (HD6.out _ (by repeat (first | exact Fr.refl NoF _ | apply Fr.drewN)) (by omega)).1 (by first | rfl | trivial)⟩
                      · have h6' : 1 ≤ X6 := by omega
                        clear hgt h2
                        go_wp2_with fail
                        go_quiet (fail)
                        go_wp2
                        go_quiet (fail)
                        go_wp2
                        go_roundg (c1.length + (c2.drop 1).length)
                        case measure => exact D1.out.2.1
                        case rel => exact ⟨_, _, rfl, D1.out.2.2, D1.out.1, (HD6.out _ (by repeat (first | exact Fr.refl NoF _ | apply Fr.drewN)) h6').2 hk⟩
                  · have hgt' : (X5 : Int) + X6 ≤ (n : Int) := by omega
                    have FIN : Hid (∀ d, Res7 w pb gb ob n hc s ⟨(s.remove f).page, (s.remove f).on, (s.remove f).t1, (s.remove f).t2, (bnd n (s.put n id f).1 (s.put n id f).2).1, (bnd n (s.put n id f).1 (s.put n id f).2).2, (s.remove f).goal⟩ (wr.drewN d)) := by
                      intro d
                      have l1 := HX.out.1
                      have l2 := HX.out.2
                      rw [← HB.out, bnd_stop (by omega)]
                      exact (HLP.out.fr0 ((Fr.refl NoF wr).drewN d)).fin (by omega)
                    clear hgt
                    go_wp2_with fail
                    go_quiet (fail)
                    go_wp2
                    go_returns
                    exact ⟨rfl, FIN.out _⟩
end
end Go.Proofs.Ytebhpihickmekaa
