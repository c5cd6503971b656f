/-
  lruk as a policy: functions, and the code's methods (CodSys).
  Two policies that go alike: what was told of the one is answered by the other. Plain facts, with no program in sight.
  Two policies that go alike, as in XSim, where what they have in common is told by how many things were done (a bound on counters). Plain facts.
-/
import Derived.Test.YtbnckhkamebibaaK30
import Derived.Test.YtbnckhkamebibaaK31
namespace Go.Proofs.Ytbnckhkamebibaa
open Go.RowKit Go.Maps
set_option linter.unusedVariables false

/-- Which frames are far: none of the state's own. -/
def farOf (S : LK) : Nat → Bool := fun x => match S.R x with | some p => decide (p.2 ≤ (S.T : Int) - S.near) | none => false
def Goes (S : LK) (x : Nat) : Prop := LeastC S.R (farOf S) x
theorem LeastK.one {K : Nat → Option (Int × Int)} {x y : Nat} (hx : LeastK K x) (hy : LeastK K y) : x = y := by
  obtain ⟨a, b, h1, h2⟩ := hx
  obtain ⟨c, d, h3, h4⟩ := hy
  have := h2 y c d h3
  have := h4 x a b h1
  omega
theorem LeastC.one {R : Nat → Option (Int × Int)} {Fb : Nat → Bool} {x y : Nat} (hx : LeastC R Fb x) (hy : LeastC R Fb y) : x = y := by
  rcases hx with hx | ⟨hx, hx2⟩
  · rcases hy with hy | ⟨hy, _⟩
    · exact hx.one hy
    · obtain ⟨a, b, h, _⟩ := hx
      rw [hy x] at h; cases h
  · rcases hy with hy | ⟨_, hy⟩
    · obtain ⟨a, b, h, _⟩ := hy
      rw [hx y] at h; cases h
    · exact hx2.one hy
theorem far_same {R : Nat → Option (Int × Int)} {Fa Fb : Nat → Bool} (h : ∀ x, (R x).isSome = true → Fa x = Fb x) : farK R Fa = farK R Fb := by
  funext x
  unfold farK
  cases e : R x with
  | none => simp
  | some p => rw [h x (by rw [e]; rfl)]
theorem fresh_same {R : Nat → Option (Int × Int)} {Fa Fb : Nat → Bool} (h : ∀ x, (R x).isSome = true → Fa x = Fb x) : freshK R Fa = freshK R Fb := by
  funext x
  unfold freshK
  cases e : R x with
  | none => simp
  | some p => rw [h x (by rw [e]; rfl)]
theorem LeastC.same {R : Nat → Option (Int × Int)} {Fa Fb : Nat → Bool} (h : ∀ x, (R x).isSome = true → Fa x = Fb x) {x : Nat} (hx : LeastC R Fa x) : LeastC R Fb x := by
  unfold LeastC at *
  rw [← far_same h, ← fresh_same h]
  exact hx
/-- What the code holds far was touched long enough ago. -/
def FaOk (S : LK) (Fa : Nat → Bool) : Prop := ∀ x a b, S.R x = some (a, b) → Fa x = true → b ≤ (S.T : Int) - S.near
theorem aged_far {S : LK} {Fa Fb : Nat → Bool} (h : FaOk S Fa) (ha : Aged S.R Fa Fb ((S.T : Int) - S.near)) : ∀ x, (S.R x).isSome = true → Fb x = farOf S x := by
  intro x hx
  unfold farOf
  cases e : S.R x with
  | none => rw [e] at hx; cases hx
  | some p =>
    obtain ⟨a, b⟩ := p
    have h1 := ha x a b e
    have h2 := h x a b e
    simp only
    by_cases hb : b ≤ (S.T : Int) - S.near
    · rw [h1.2 (.inr hb)]; simp [hb]
    · have : Fb x ≠ true := fun q => (h1.1 q).elim (fun q => hb (h2 q)) hb
      rw [Bool.eq_false_iff.2 this]; simp [hb]
open Classical in
noncomputable def polL : Pol LK where
  miss s _ := s
  access s f id := { accS s f id with Fa := fun _ => false }
  set s f on := { setS s f on with Fa := fun _ => false }
  victim s _ := if s.t = 0 then none else if h : ∃ x, Goes s x then some h.choose else none
  gone s _ := if h : ∃ x, Goes s x then { vicS s h.choose s.Fa with Fa := fun _ => false } else s
  remove s f := { remvS s f with Fa := fun _ => false }
  size s := s.t
  ghosts s := s.Old.map (·.1)
open Classical in
theorem goes_some {s : LK} {x page : Nat} (h0 : 0 < s.t) (hx : Goes s x) : polL.victim s page = some x ∧ polL.gone s page = { vicS s x s.Fa with Fa := fun _ => false } := by
  have he : ∃ x, Goes s x := ⟨x, hx⟩
  have e1 : he.choose = x := he.choose_spec.one hx
  constructor
  · show (if s.t = 0 then none else if h : ∃ x, Goes s x then some h.choose else none) = some x
    rw [if_neg (by omega), dif_pos he, e1]
  · show (if h : ∃ x, Goes s x then ({ vicS s h.choose s.Fa with Fa := fun _ => false } : LK) else s) = _
    rw [dif_pos he, e1]
/-- The state in memory. -/
def CR5 (lb : Nat) (w : World) (s : LK) (F : Nat → Prop) : Prop := s.gone < 800000 ∧ ∃ Fa, FaOk s Fa ∧ CRL w lb { s with Fa := Fa } F
def pre5 (s : LK) (c : Cl) : Prop :=
  (c.kind = 1 → c.frame < s.n ∧ okN c.page ∧ s.T < 900000) ∧ (c.kind = 2 → c.frame < s.n ∧ (s.fr c.frame).1 = true ∧ s.T < 1000000) ∧
  (c.kind = 3 → s.T < 1000000 ∧ s.gone + 1 < 800000 ∧ ∀ x, (s.R x).isSome = true → x < s.n ∧ oldK s.Old (s.fr x).2 = none) ∧ (c.kind = 4 → c.frame < s.n ∧ (s.fr c.frame).1 = true)
theorem acc_Fa (s : LK) (Fa : Nat → Bool) (f p : Nat) : accS { s with Fa := Fa } f p = { accS s f p with Fa := (accS { s with Fa := Fa } f p).Fa } := by
  unfold accS rerS touS comS
  split <;> split <;> rfl
theorem set_Fa (s : LK) (Fa : Nat → Bool) (f : Nat) (on : Bool) : setS { s with Fa := Fa } f on = { setS s f on with Fa := (setS { s with Fa := Fa } f on).Fa } := by
  unfold setS
  split
  · rfl
  · split <;> rfl
theorem rer_ok {S : LK} {Fa : Nat → Bool} (h : FaOk S Fa) (f : Nat) : FaOk (rerS S f) (rerS { S with Fa := Fa } f).Fa := by
  unfold rerS
  by_cases hR : (S.R f).isSome = true
  case neg => rw [if_neg hR, if_neg (show ¬ (S.R f).isSome = true from hR)]; exact h
  case pos =>
    rw [if_pos hR, if_pos (show (S.R f).isSome = true from hR)]
    intro x a b hx hf
    by_cases e : x = f
    · subst e
      have : updB1 Fa x false x = true := hf
      rw [updB1_same] at this
      cases this
    · have h1 : S.R x = some (a, b) := by rw [← updK_other S.R _ e]; exact hx
      have h2 : Fa x = true := by rw [← updB1_other Fa false e]; exact hf
      exact h x a b h1 h2
theorem acc_ok {s : LK} {Fa : Nat → Bool} (h : FaOk s Fa) (f p : Nat) : FaOk (accS s f p) (accS { s with Fa := Fa } f p).Fa := by
  have h1 : FaOk (comS s f p) Fa := by unfold comS; split <;> exact h
  have h2 : FaOk (touS (comS s f p) ((comS s f p).fr f).2) Fa := fun x a b hx hf => by
    have := h1 x a b hx hf
    show b ≤ (((comS s f p).T + 1 : Nat) : Int) - (comS s f p).near
    omega
  have e : accS { s with Fa := Fa } f p = rerS { touS (comS s f p) ((comS s f p).fr f).2 with Fa := Fa } f := by
    unfold accS comS
    split <;> rfl
  rw [e]
  exact rer_ok h2 f
theorem set_ok {s : LK} {Fa : Nat → Bool} (h : FaOk s Fa) (f : Nat) (on : Bool) : FaOk (setS s f on) (setS { s with Fa := Fa } f on).Fa := by
  unfold setS
  by_cases hR : (s.R f).isSome = on
  · rw [if_pos hR, if_pos (show (s.R f).isSome = on from hR)]; exact h
  · rw [if_neg hR, if_neg (show ¬ (s.R f).isSome = on from hR)]
    cases on with
    | true =>
      intro x a b hx hf
      by_cases e : x = f
      · subst e
        have : updB1 Fa x false x = true := hf
        rw [updB1_same] at this
        cases this
      · have h1 : s.R x = some (a, b) := by rw [← updK_other s.R _ e]; exact hx
        have h2 : Fa x = true := by rw [← updB1_other Fa false e]; exact hf
        exact h x a b h1 h2
    | false =>
      intro x a b hx hf
      by_cases e : x = f
      · subst e
        have : updK s.R x none x = some (a, b) := hx
        rw [updK_same] at this
        cases this
      · have h1 : s.R x = some (a, b) := by rw [← updK_other s.R none e]; exact hx
        exact h x a b h1 hf
theorem drop_ok {s : LK} {Fa : Nat → Bool} (h : FaOk s Fa) (f : Nat) {S' : LK} (hR : S'.R = updK s.R f none) (hT : S'.T = s.T) (hn : S'.near = s.near) : FaOk S' Fa := by
  intro x a b hx hf
  rw [hR] at hx
  rw [hT, hn]
  by_cases e : x = f
  · subst e; rw [updK_same] at hx; cases hx
  · rw [updK_other _ _ e] at hx; exact h x a b hx hf
theorem gone_acc (s : LK) (f p : Nat) : (accS s f p).gone = s.gone := by unfold accS rerS touS comS; split <;> split <;> rfl
theorem gone_set (s : LK) (f : Nat) (on : Bool) : (setS s f on).gone = s.gone := by
  unfold setS
  split
  · rfl
  · split <;> rfl
theorem vic_facts (s : LK) (x : Nat) (Fb : Nat → Bool) : (vicS s x Fb).R = updK s.R x none ∧ (vicS s x Fb).T = s.T ∧ (vicS s x Fb).near = s.near ∧ (vicS s x Fb).gone = s.gone + 1 ∧ (vicS s x Fb).Fa = Fb ∧ ∀ Fc, vicS { s with Fa := Fc } x Fb = vicS s x Fb := by
  unfold vicS remS
  refine ⟨?_, ?_, ?_, ?_, ?_, fun Fc => ?_⟩
  · split <;> rfl
  · split <;> rfl
  · split <;> rfl
  · split <;> rfl
  · split <;> rfl
  · rfl
theorem v6' (s : LK) (x : Nat) (Fa Fb : Nat → Bool) : vicS { s with Fa := Fa } x Fb = vicS s x Fb := rfl
/-- The least of some. -/
theorem leastK_upto (K : Nat → Option (Int × Int)) : ∀ m : Nat, (∀ x, x < m → K x = none) ∨ ∃ x a b, x < m ∧ K x = some (a, b) ∧ ∀ y c d, y < m → K y = some (c, d) → a < c ∨ (a = c ∧ (b < d ∨ (b = d ∧ x ≤ y)))
  | 0 => .inl (fun x h => by omega)
  | m + 1 => by
    cases e : K m with
    | none =>
      rcases leastK_upto K m with h | ⟨x, a, b, hx, h1, h2⟩
      · exact .inl (fun x hx => by
          by_cases q : x = m
          · rw [q]; exact e
          · exact h x (by omega))
      · exact .inr ⟨x, a, b, by omega, h1, fun y c d hy hk => by
          by_cases q : y = m
          · rw [q, e] at hk; cases hk
          · exact h2 y c d (by omega) hk⟩
    | some p =>
      obtain ⟨u, v⟩ := p
      rcases leastK_upto K m with h | ⟨x, a, b, hx, h1, h2⟩
      · exact .inr ⟨m, u, v, by omega, e, fun y c d hy hk => by
          by_cases q : y = m
          · subst q; rw [e] at hk; injection hk with hk; injection hk with h3 h4; omega
          · rw [h y (by omega)] at hk; cases hk⟩
      · by_cases hlt : u < a ∨ (u = a ∧ v < b)
        · exact .inr ⟨m, u, v, by omega, e, fun y c d hy hk => by
            by_cases q : y = m
            · subst q; rw [e] at hk; injection hk with hk; injection hk with h3 h4; omega
            · have := h2 y c d (by omega) hk
              omega⟩
        · exact .inr ⟨x, a, b, by omega, h1, fun y c d hy hk => by
            by_cases q : y = m
            · subst q; rw [e] at hk; injection hk with hk; injection hk with h3 h4; omega
            · exact h2 y c d (by omega) hk⟩
theorem leastK_ex (K : Nat → Option (Int × Int)) (n : Nat) (hn : ∀ x, (K x).isSome = true → x < n) {z : Nat} (hz : (K z).isSome = true) : ∃ x, LeastK K x := by
  rcases leastK_upto K n with h | ⟨x, a, b, hx, h1, h2⟩
  · rw [h z (hn z hz)] at hz; cases hz
  · exact ⟨x, a, b, h1, fun y c d hk => h2 y c d (hn y (by rw [hk]; rfl)) hk⟩
theorem cntR_ex (R : Nat → Option (Int × Int)) : ∀ {n : Nat}, 0 < cntR R n → ∃ x, x < n ∧ (R x).isSome = true
  | n + 1, h => by
    unfold cntR at h
    by_cases e : (R n).isSome = true
    · exact ⟨n, by omega, e⟩
    · rw [if_neg e] at h
      obtain ⟨x, h1, h2⟩ := cntR_ex R (n := n) (by omega)
      exact ⟨x, by omega, h2⟩
theorem goes_ex {w : World} {lb : Nat} {s : LK} {Fa : Nat → Bool} {F : Nat → Prop} (h : CRL w lb { s with Fa := Fa } F) (h0 : 0 < s.t) (hn : ∀ x, (s.R x).isSome = true → x < s.n) : ∃ x, Goes s x := by
  obtain ⟨fb, mb, q1, q2, q3, q4, ne, FC, F4, h, hF⟩ := h
  have ht : s.t = cntR s.R s.n := h.ok.tn
  rw [ht] at h0
  obtain ⟨z, hz, hzs⟩ := cntR_ex s.R h0
  by_cases hf : ∃ y, (farK s.R (farOf s) y).isSome = true
  · obtain ⟨y, hy⟩ := hf
    obtain ⟨x, hx⟩ := leastK_ex (farK s.R (farOf s)) s.n (fun x q => hn x (by unfold farK at q; split at q; exact q; cases q)) hy
    exact ⟨x, .inl hx⟩
  · have hall : ∀ y, farK s.R (farOf s) y = none := fun y => by
      cases e : farK s.R (farOf s) y with
      | none => rfl
      | some p => exact (hf ⟨y, by rw [e]; rfl⟩).elim
    have hfz : (freshK s.R (farOf s) z).isSome = true := by
      have h1 := hall z
      unfold farK at h1
      unfold freshK
      cases e : farOf s z with
      | true => rw [e, if_pos rfl] at h1; rw [h1] at hzs; cases hzs
      | false => exact hzs
    obtain ⟨x, hx⟩ := leastK_ex (freshK s.R (farOf s)) s.n (fun x q => hn x (by
      unfold freshK at q
      split at q
      · cases q
      · exact q)) hfz
    exact ⟨x, .inr ⟨hall, hx⟩⟩
theorem vic_irr (s : LK) (x : Nat) (Fb : Nat → Bool) : vicS s x Fb = { vicS s x s.Fa with Fa := Fb } := by
  unfold vicS remS
  split <;> rfl
theorem cod5 (lb : Nat) : CodSys polL (CR5 lb) lb pre5 where
  fr := by
    rintro w w' s F G ⟨hg, Fa, ho, h⟩ f hd
    exact ⟨hg, Fa, ho, h.fr f hd⟩
  lt := by
    rintro w s F ⟨hg, Fa, ho, h⟩ i q
    exact h.lt i q
  miss := by
    intro w s F c h hp hk
    exact (lmiss_calls _ _ _).mono fun e w' ⟨he, hw⟩ => ⟨he, F, hw ▸ h, hw ▸ Fr.refl _ _, fun i hi => .inl hi⟩
  access := by
    rintro w s F c ⟨hg, Fa, ho, h⟩ hp hk
    obtain ⟨h1, h2, h3⟩ := hp.1 hk
    refine (crl_access h (at' := c.frame) (page := c.page) h1 h2 h3).mono ?_
    rintro e w' ⟨he, F', hc, hf, hF⟩
    rw [acc_Fa] at hc
    exact ⟨he, F', ⟨by show (accS s c.frame c.page).gone < 800000; rw [gone_acc]; exact hg, _, acc_ok ho _ _, hc⟩, hf, hF⟩
  set := by
    rintro w s F c ⟨hg, Fa, ho, h⟩ hp hk
    obtain ⟨h1, h2, h3⟩ := hp.2.1 hk
    refine (crl_set h (at' := c.frame) h1 h2 h3 c.on).mono ?_
    rintro e w' ⟨he, F', hc, hf, hF⟩
    rw [set_Fa] at hc
    exact ⟨he, F', ⟨by show (setS s c.frame c.on).gone < 800000; rw [gone_set]; exact hg, _, set_ok ho _ _, hc⟩, hf, hF⟩
  victimNo := by
    rintro w s F c ⟨hg, Fa, ho, h⟩ hp hk hv
    obtain ⟨h1, h2, h3⟩ := hp.2.2.1 hk
    by_cases h0 : s.t = 0
    · exact (crl_victim_no h h0 _).mono fun e w' ⟨he, hf⟩ => ⟨he, F, ⟨hg, Fa, ho, h.fr hf (fun _ _ q => q)⟩, hf.none, fun i q => .inl q⟩
    · obtain ⟨x, hx⟩ := goes_ex h (by omega) (fun x q => (h3 x q).1)
      rw [(goes_some (by omega) hx).1] at hv
      cases hv
  victimYes := by
    rintro w s F c a ⟨hg, Fa, ho, h⟩ hp hk hv
    obtain ⟨h1, h2, h3⟩ := hp.2.2.1 hk
    have h0 : 0 < s.t := by
      by_cases h0 : s.t = 0
      · have : polL.victim s c.page = none := if_pos h0
        rw [this] at hv; cases hv
      · omega
    refine (crl_victim h h0 c.page h1 hg h3).mono ?_
    rintro e w' ⟨x, he, Fb, F', ha, hl, hc, hf, hF⟩
    have hx : Goes s x := hl.same (aged_far ho ha)
    obtain ⟨e1, e2⟩ := goes_some (page := c.page) h0 hx
    rw [e1] at hv
    injection hv with hv
    subst hv
    rw [e2]
    obtain ⟨v1, v2, v3, v4, v5, v6⟩ := vic_facts s x s.Fa
    rw [v6' s x Fa Fb, vic_irr] at hc
    refine ⟨he, F', ⟨by show (vicS s x s.Fa).gone < 800000; rw [v4]; exact h2, Fb, ?_, hc⟩, hf, hF⟩
    have hfb : FaOk s Fb := fun z p q hz hq => by
      have := (ha z p q hz).1 hq
      rcases this with q' | q'
      · exact ho z p q hz q'
      · exact q'
    exact drop_ok hfb x v1 v2 v3
  remove := by
    rintro w s F c ⟨hg, Fa, ho, h⟩ hp hk
    obtain ⟨h1, h2⟩ := hp.2.2.2 hk
    refine (crl_remove h (at' := c.frame) h1 h2).mono ?_
    rintro e w' ⟨he, F', hc, hf, hF⟩
    exact ⟨he, F', ⟨hg, Fa, drop_ok ho c.frame rfl rfl rfl, hc⟩, hf, hF⟩
  size := by
    rintro w s F ⟨hg, Fa, ho, h⟩
    have := crl_size h
    exact this
  ghosts := by
    rintro w s F ⟨hg, Fa, ho, h⟩
    exact (crl_ghosts h hg).mono fun e w' ⟨v, he, hs, _, hf⟩ => ⟨v, he, hs, hf⟩
end Go.Proofs.Ytbnckhkamebibaa
namespace Go.Proofs.Ytbnckhkamebibaa
open Go.RowKit
set_option linter.unusedVariables false

/-- Of calls in a row: nothing went just where nothing might go. -/
def NoneL : List Cl → Prop
  | c :: d :: r => (d.kind = 3 → (d.want < 0 ↔ c.size = 0)) ∧ NoneL (d :: r)
  | _ => True
theorem NoneL.at : ∀ {cs : List Cl}, NoneL cs → ∀ (i : Nat) (c d : Cl), cs[i + 1]? = some c → cs[i]? = some d → c.kind = 3 → (c.want < 0 ↔ d.size = 0)
  | [], _, i, c, d, h, _, _ => by simp at h
  | [a], _, i, c, d, h, _, _ => by simp at h
  | a :: b :: r, hN, 0, c, d, h1, h2, h3 => by
    simp at h1 h2; subst h1 h2; exact hN.1 h3
  | a :: b :: r, hN, i + 1, c, d, h1, h2, h3 => NoneL.at (cs := b :: r) hN.2 i c d (by simpa using h1) (by simpa using h2) h3
theorem NoneL.append : ∀ {a b : List Cl}, NoneL a → NoneL b → (∀ c r, b = c :: r → ¬ c.kind = 3) → NoneL (a ++ b)
  | [], b, _, hb, _ => hb
  | [x], [], _, _, _ => trivial
  | [x], y :: r, _, hb, h => ⟨fun q => (h y r rfl q).elim, hb⟩
  | x :: y :: r, b, ha, hb, h => ⟨ha.1, NoneL.append (a := y :: r) ha.2 hb h⟩

section
variable {σ τ : Type} {P : Pol σ} {Q : Pol τ} {pre : τ → Cl → Prop} {n : Nat} {R : σ → τ → List Nat → Prop}
theorem Good.append : ∀ {a b : List Cl} {t : τ}, Good Q pre t a → Good Q pre (Q.nexts t a) b → Good Q pre t (a ++ b)
  | [], b, t, _, hb => hb
  | c :: a, b, t, ⟨h1, h2, h3, h4, h5, h6, h7, h8, h9⟩, hb => ⟨h1, h2, h3, h4, h5, h6, h7, h8, Good.append h9 hb⟩
theorem Pol.nexts_append (t : τ) (a b : List Cl) : Q.nexts t (a ++ b) = Q.nexts (Q.nexts t a) b := by simp [Pol.nexts]

structure SimSys (P : Pol σ) (Q : Pol τ) (pre : τ → Cl → Prop) (n : Nat) (R : σ → τ → List Nat → Prop) : Prop where
  len : ∀ {s t fr}, R s t fr → fr.length = n
  size : ∀ {s t fr}, R s t fr → Q.size t = P.size s ∧ P.size s < 1000000
  ghosts : ∀ {s t fr}, R s t fr → (Q.ghosts t).Perm (P.ghosts s) ∧ (P.ghosts s).Nodup ∧ (P.ghosts s).length < 1000000
  miss : ∀ {s t fr id}, R s t fr → ¬ id ∈ fr → 1 ≤ id → id < 4294967296 → pre t (P.see (P.miss s id) (clMiss id)) ∧ R (P.miss s id) (Q.miss t id) fr
  access : ∀ {s t fr a id}, R s t fr → a < n → (fr[a]? = some id ∨ fr[a]? = some 0 ∧ ¬ id ∈ fr) → 1 ≤ id → id < 4294967296 → pre t (P.see (P.access s a id) (clAcc a id)) ∧ R (P.access s a id) (Q.access t a id) (fr.set a id)
  set : ∀ {s t fr a x} (v : Bool), R s t fr → a < n → fr[a]? = some x → 1 ≤ x → pre t (P.see (P.set s a v) (clSet a v)) ∧ R (P.set s a v) (Q.set t a v) fr
  victim : ∀ {s t fr id}, R s t fr → ¬ id ∈ fr → 1 ≤ id → id < 4294967296 → Q.victim t id = P.victim s id
  none : ∀ {s t fr id}, R s t fr → ¬ id ∈ fr → 1 ≤ id → id < 4294967296 → (P.victim s id = none ↔ P.size s = 0) ∧ pre t (P.see s (clVic id (-1)))
  gone : ∀ {s t fr a id}, R s t fr → ¬ id ∈ fr → 1 ≤ id → id < 4294967296 → P.victim s id = some a → a < n ∧ pre t (P.see (P.gone s id) (clVic id a)) ∧ R (P.gone s id) (Q.gone t id) (fr.set a 0)
  remove : ∀ {s t fr a x}, R s t fr → a < n → fr[a]? = some x → 1 ≤ x → pre t (P.see (P.remove s a) (clRem a)) ∧ R (P.remove s a) (Q.remove t a) (fr.set a 0)

variable (S : SimSys P Q pre n R)
include S
theorem SimSys.one {s' : σ} {t : τ} {fr : List Nat} {c : Cl} (hk : c.kind < 5) (hp : pre t (P.see s' c)) (hw : c.kind = 3 → c.want = fstI (Q.victim t c.page)) {t' : τ} (ht : Q.next t (P.see s' c) = t') (hR : R s' t' fr) {cs : List Cl} (hr : Good Q pre t' cs) :
    Good Q pre t (P.see s' c :: cs) := by
  subst ht
  obtain ⟨g1, g2, g3⟩ := S.ghosts hR
  exact ⟨hk, hp, hw, (S.size hR).1, (S.size hR).2, g1, g2, g3, hr⟩
theorem SimSys.come {s : σ} {t : τ} {fr fm : List Nat} {a id : Nat} (h : R s t fr) (ha : a < n) (hfa : fr[a]? = some 0 ∧ ¬ id ∈ fr) (h1 : 1 ≤ id) (h2 : id < 4294967296) (hm : fm.set a id = fr.set a id) (prel : List Cl) :
    ∃ x y, P.come s fm a id prel = (x, fr.set a id, prel ++ y) ∧ (∃ c d, y = [c, d] ∧ c.kind = 1 ∧ d.kind = 2) ∧ Good Q pre t y ∧ R x (Q.nexts t y) (fr.set a id) := by
  obtain ⟨p1, r1⟩ := S.access h ha (.inr hfa) h1 h2
  have hl := S.len h
  obtain ⟨p2, r2⟩ := S.set true r1 ha (x := id) (by rw [List.getElem?_set, if_pos rfl, if_pos (by omega)]) h1
  refine ⟨P.set (P.access s a id) a true, [P.see (P.access s a id) (clAcc a id), P.see (P.set (P.access s a id) a true) (clSet a true)], ?_, ⟨_, _, rfl, rfl, rfl⟩, ?_, ?_⟩
  · show (_, fm.set a id, _) = _; rw [hm]
  · exact S.one (by show 1 < 5; omega) p1 (fun q => (by cases q)) (by simp [Pol.next, Pol.see, clAcc]) r1 (S.one (by show 2 < 5; omega) p2 (fun q => (by cases q)) (by simp [Pol.next, Pol.see, clSet]) r2 trivial)
  · simpa [Pol.nexts, Pol.next, Pol.see, clAcc, clSet] using r2
/-- One thing that happens. -/
theorem SimSys.step {s : σ} {t : τ} {fr : List Nat} {k id : Nat} (h : R s t fr) (hk : k < 4) (h1 : 1 ≤ id) (h2 : id < 4294967296) :
    Good Q pre t (P.step s fr k id).2.2 ∧ NoneL (P.step s fr k id).2.2 ∧ (∀ c r, (P.step s fr k id).2.2 = c :: r → ¬ c.kind = 3) ∧ R (P.step s fr k id).1 (Q.nexts t (P.step s fr k id).2.2) (P.step s fr k id).2.1 := by
  have hl := S.len h
  by_cases h0 : k = 0
  · subst h0
    cases e : atL fr id with
    | some a =>
      obtain ⟨ha, hfa⟩ := atL_some e
      obtain ⟨p1, r1⟩ := S.access h (by omega) (.inl hfa) h1 h2
      rw [set_same' hfa] at r1
      have hs : P.step s fr 0 id = (P.access s a id, fr, [P.see (P.access s a id) (clAcc a id)]) := by simp [Pol.step, e]
      rw [hs]
      refine ⟨S.one (by show 1 < 5; omega) p1 (fun q => (by cases q)) (by simp [Pol.next, Pol.see, clAcc]) r1 trivial, trivial, fun c r q => ?_, ?_⟩
      · simp at q; rw [← q.1]; simp [Pol.see, clAcc]
      · simpa [Pol.nexts, Pol.next, Pol.see, clAcc] using r1
    | none =>
      have hni := atL_none e
      obtain ⟨pm, rm⟩ := S.miss h hni h1 h2
      have gm := @SimSys.one σ τ P Q pre n R S (P.miss s id) t fr (clMiss id) (by show 0 < 5; omega) pm (fun q => (by cases q)) (Q.miss t id) (by simp [Pol.next, Pol.see, clMiss]) rm
      have nm : Q.next t (P.see (P.miss s id) (clMiss id)) = Q.miss t id := by simp [Pol.next, Pol.see, clMiss]
      cases e0 : atL fr 0 with
      | some a =>
        obtain ⟨ha, hfa⟩ := atL_some e0
        obtain ⟨x, y, hc, ⟨c1, d1, rfl, k1, k2⟩, hg, hR⟩ := S.come rm (by omega) ⟨hfa, hni⟩ h1 h2 rfl [P.see (P.miss s id) (clMiss id)]
        have hs : P.step s fr 0 id = P.come (P.miss s id) fr a id [P.see (P.miss s id) (clMiss id)] := by simp [Pol.step, e, e0]
        rw [hs, hc]
        refine ⟨gm hg, ?_, fun c r q => ?_, ?_⟩
        · exact ⟨fun q => (by rw [k1] at q; cases q), fun q => (by rw [k2] at q; cases q), trivial⟩
        · simp at q; rw [← q.1]; simp [Pol.see, clMiss]
        · rw [Pol.nexts_append]; simpa [Pol.nexts, nm] using hR
      | none =>
        cases ev : P.victim (P.miss s id) id with
        | none =>
          obtain ⟨pn, pv⟩ := S.none rm hni h1 h2
          have hs : P.step s fr 0 id = (P.miss s id, fr, [P.see (P.miss s id) (clMiss id), P.see (P.miss s id) (clVic id (-1))]) := by simp [Pol.step, e, e0, ev]
          have hv := S.victim rm hni h1 h2
          rw [hs]
          have nv : Q.next (Q.miss t id) (P.see (P.miss s id) (clVic id (-1))) = Q.miss t id := by simp [Pol.next, Pol.see, clVic, hv, ev]
          refine ⟨gm (S.one (by show 3 < 5; omega) pv (fun q => ?_) nv rm trivial), ⟨fun q => ?_, trivial⟩, fun c r q => ?_, ?_⟩
          · show (-1 : Int) = fstI (Q.victim (Q.miss t id) id); rw [hv, ev]; rfl
          · have := pn.1 ev
            show (-1 : Int) < 0 ↔ P.size (P.miss s id) = 0
            simp [this]
          · simp at q; rw [← q.1]; simp [Pol.see, clMiss]
          · simpa [Pol.nexts, nm, nv] using rm
        | some a =>
          obtain ⟨ha, pv, rv⟩ := S.gone rm hni h1 h2 ev
          have hv := S.victim rm hni h1 h2
          have hl2 := S.len rm
          have hfa : (fr.set a 0)[a]? = some 0 ∧ ¬ id ∈ fr.set a 0 := ⟨by rw [List.getElem?_set, if_pos rfl, if_pos (by omega)], fun q => by
            rcases List.mem_or_eq_of_mem_set q with q | q
            · exact hni q
            · omega⟩
          obtain ⟨x, y, hc, ⟨c1, d1, rfl, k1, k2⟩, hg, hR⟩ := S.come (fm := fr) rv ha hfa h1 h2 (by rw [List.set_set]) [P.see (P.miss s id) (clMiss id), P.see (P.gone (P.miss s id) id) (clVic id a)]
          have hs : P.step s fr 0 id = P.come (P.gone (P.miss s id) id) fr a id [P.see (P.miss s id) (clMiss id), P.see (P.gone (P.miss s id) id) (clVic id a)] := by simp [Pol.step, e, e0, ev]
          rw [hs, hc]
          have nv : Q.next (Q.miss t id) (P.see (P.gone (P.miss s id) id) (clVic id a)) = Q.gone (Q.miss t id) id := by simp [Pol.next, Pol.see, clVic, hv, ev]
          refine ⟨gm (S.one (by show 3 < 5; omega) pv (fun q => ?_) nv rv hg), ?_, fun c r q => ?_, ?_⟩
          · show (a : Int) = fstI (Q.victim (Q.miss t id) id); rw [hv, ev]; rfl
          · refine ⟨fun q => ?_, fun q => (by rw [k1] at q; cases q), fun q => (by rw [k2] at q; cases q), trivial⟩
            have hz : ¬ P.size (P.miss s id) = 0 := fun z => by
              have := (S.none rm hni h1 h2).1.2 z
              rw [ev] at this; cases this
            show (a : Int) < 0 ↔ P.size (P.miss s id) = 0
            constructor
            · intro q; omega
            · intro q; exact (hz q).elim
          · simp at q; rw [← q.1]; simp [Pol.see, clMiss]
          · rw [Pol.nexts_append]; simpa [Pol.nexts, nm, nv, List.set_set] using hR
  · cases e : atL fr id with
    | none =>
      have hs : P.step s fr k id = (s, fr, []) := by simp [Pol.step, h0, e]
      rw [hs]
      exact ⟨trivial, trivial, fun c r q => (by cases q), h⟩
    | some a =>
      obtain ⟨ha, hfa⟩ := atL_some e
      by_cases h3 : k = 3
      · obtain ⟨p1, r1⟩ := S.remove h (by omega) hfa h1
        have hs : P.step s fr k id = (P.remove s a, fr.set a 0, [P.see (P.remove s a) (clRem a)]) := by simp [Pol.step, e, h3]
        rw [hs]
        refine ⟨S.one (by show 4 < 5; omega) p1 (fun q => (by cases q)) (by simp [Pol.next, Pol.see, clRem]) r1 trivial, trivial, fun c r q => ?_, ?_⟩
        · simp at q; rw [← q.1]; simp [Pol.see, clRem]
        · simpa [Pol.nexts, Pol.next, Pol.see, clRem] using r1
      · obtain ⟨p1, r1⟩ := S.set (!decide (k = 1)) h (by omega) hfa h1
        have hs : P.step s fr k id = (P.set s a (!decide (k = 1)), fr, [P.see (P.set s a (!decide (k = 1))) (clSet a (!decide (k = 1)))]) := by simp [Pol.step, e, h0, h3]
        rw [hs]
        refine ⟨S.one (by show 2 < 5; omega) p1 (fun q => (by cases q)) (by simp [Pol.next, Pol.see, clSet]) r1 trivial, trivial, fun c r q => ?_, ?_⟩
        · simp at q; rw [← q.1]; simp [Pol.see, clSet]
        · simpa [Pol.nexts, Pol.next, Pol.see, clSet] using r1
/-- All that happens. -/
theorem SimSys.run : ∀ {ops : List (Nat × Nat)} {s : σ} {t : τ} {fr : List Nat}, R s t fr → (∀ o ∈ ops, o.1 < 4 ∧ 1 ≤ o.2 ∧ o.2 < 4294967296) →
    Good Q pre t (P.run s fr ops).2.2 ∧ NoneL (P.run s fr ops).2.2 ∧ (∀ c r, (P.run s fr ops).2.2 = c :: r → ¬ c.kind = 3) ∧ R (P.run s fr ops).1 (Q.nexts t (P.run s fr ops).2.2) (P.run s fr ops).2.1
  | [], s, t, fr, h, _ => ⟨trivial, trivial, fun c r q => (by cases q), h⟩
  | (k, id) :: ops, s, t, fr, h, ho => by
    obtain ⟨a1, a2, a3⟩ := ho (k, id) (List.mem_cons_self ..)
    obtain ⟨g, nn, hh, r⟩ := S.step h a1 a2 a3
    obtain ⟨g', nn', hh', r'⟩ := SimSys.run (ops := ops) r (fun o q => ho o (List.mem_cons_of_mem _ q))
    refine ⟨Good.append g g', NoneL.append nn nn' hh', fun c rr q => ?_, ?_⟩
    · have q : (P.step s fr k id).2.2 ++ (P.run (P.step s fr k id).1 (P.step s fr k id).2.1 ops).2.2 = c :: rr := q
      cases e : (P.step s fr k id).2.2 with
      | nil => rw [e] at q; exact hh' c rr q
      | cons x y => rw [e] at q; simp at q; exact hh c y (by rw [e, q.1])
    · show R (P.run (P.step s fr k id).1 (P.step s fr k id).2.1 ops).1 (Q.nexts t ((P.step s fr k id).2.2 ++ (P.run (P.step s fr k id).1 (P.step s fr k id).2.1 ops).2.2)) _
      rw [Pol.nexts_append]
      exact r'
end
end Go.Proofs.Ytbnckhkamebibaa
namespace Go.Proofs.Ytbnckhkamebibaa
open Go.RowKit
set_option linter.unusedVariables false

section
variable {σ τ : Type} {P : Pol σ} {Q : Pol τ} {pre : τ → Cl → Prop} {n : Nat} {R : Nat → σ → τ → List Nat → Prop}
structure SimSysK (P : Pol σ) (Q : Pol τ) (pre : τ → Cl → Prop) (n : Nat) (R : Nat → σ → τ → List Nat → Prop) : Prop where
  mono : ∀ {k s t fr}, R k s t fr → R (k + 1) s t fr
  len : ∀ {k s t fr}, R k s t fr → fr.length = n
  size : ∀ {k s t fr}, R k s t fr → Q.size t = P.size s ∧ P.size s < 1000000
  ghosts : ∀ {k s t fr}, R k s t fr → (Q.ghosts t).Perm (P.ghosts s) ∧ (P.ghosts s).Nodup ∧ (P.ghosts s).length < 1000000
  miss : ∀ {k s t fr id}, R k s t fr → ¬ id ∈ fr → 1 ≤ id → id < 4294967296 → pre t (P.see (P.miss s id) (clMiss id)) ∧ R k (P.miss s id) (Q.miss t id) fr
  access : ∀ {k s t fr a id}, R k s t fr → k < 10000 → a < n → (fr[a]? = some id ∨ fr[a]? = some 0 ∧ ¬ id ∈ fr) → 1 ≤ id → id < 4294967296 → pre t (P.see (P.access s a id) (clAcc a id)) ∧ R (k + 1) (P.access s a id) (Q.access t a id) (fr.set a id)
  set : ∀ {k s t fr a x} (v : Bool), R k s t fr → k < 10000 → a < n → fr[a]? = some x → 1 ≤ x → pre t (P.see (P.set s a v) (clSet a v)) ∧ R k (P.set s a v) (Q.set t a v) fr
  victim : ∀ {k s t fr id}, R k s t fr → ¬ id ∈ fr → 1 ≤ id → id < 4294967296 → Q.victim t id = P.victim s id
  none : ∀ {k s t fr id}, R k s t fr → k < 10000 → ¬ id ∈ fr → 1 ≤ id → id < 4294967296 → (P.victim s id = none ↔ P.size s = 0) ∧ pre t (P.see s (clVic id (-1)))
  gone : ∀ {k s t fr a id}, R k s t fr → k < 10000 → ¬ id ∈ fr → 1 ≤ id → id < 4294967296 → P.victim s id = some a → a < n ∧ pre t (P.see (P.gone s id) (clVic id a)) ∧ R (k + 1) (P.gone s id) (Q.gone t id) (fr.set a 0)
  remove : ∀ {k s t fr a x}, R k s t fr → a < n → fr[a]? = some x → 1 ≤ x → pre t (P.see (P.remove s a) (clRem a)) ∧ R k (P.remove s a) (Q.remove t a) (fr.set a 0)

variable (S : SimSysK P Q pre n R)
include S
theorem SimSysK.one {kk : Nat} {s' : σ} {t : τ} {fr : List Nat} {c : Cl} (hk : c.kind < 5) (hp : pre t (P.see s' c)) (hw : c.kind = 3 → c.want = fstI (Q.victim t c.page)) {t' : τ} (ht : Q.next t (P.see s' c) = t') (hR : R kk s' t' fr) {cs : List Cl} (hr : Good Q pre t' cs) :
    Good Q pre t (P.see s' c :: cs) := by
  subst ht
  obtain ⟨g1, g2, g3⟩ := S.ghosts hR
  exact ⟨hk, hp, hw, (S.size hR).1, (S.size hR).2, g1, g2, g3, hr⟩
theorem SimSysK.come {kk : Nat} (hkk : kk < 9000) {s : σ} {t : τ} {fr fm : List Nat} {a id : Nat} (h : R kk s t fr) (ha : a < n) (hfa : fr[a]? = some 0 ∧ ¬ id ∈ fr) (h1 : 1 ≤ id) (h2 : id < 4294967296) (hm : fm.set a id = fr.set a id) (prel : List Cl) :
    ∃ x y, P.come s fm a id prel = (x, fr.set a id, prel ++ y) ∧ (∃ c d, y = [c, d] ∧ c.kind = 1 ∧ d.kind = 2) ∧ Good Q pre t y ∧ R (kk + 1) x (Q.nexts t y) (fr.set a id) := by
  obtain ⟨p1, r1⟩ := S.access h (by omega) ha (.inr hfa) h1 h2
  have hl := S.len h
  obtain ⟨p2, r2⟩ := S.set true r1 (by omega) ha (x := id) (by rw [List.getElem?_set, if_pos rfl, if_pos (by omega)]) h1
  refine ⟨P.set (P.access s a id) a true, [P.see (P.access s a id) (clAcc a id), P.see (P.set (P.access s a id) a true) (clSet a true)], ?_, ⟨_, _, rfl, rfl, rfl⟩, ?_, ?_⟩
  · show (_, fm.set a id, _) = _; rw [hm]
  · exact S.one (by show 1 < 5; omega) p1 (fun q => (by cases q)) (by simp [Pol.next, Pol.see, clAcc]) r1 (S.one (by show 2 < 5; omega) p2 (fun q => (by cases q)) (by simp [Pol.next, Pol.see, clSet]) r2 trivial)
  · simpa [Pol.nexts, Pol.next, Pol.see, clAcc, clSet] using r2
/-- One thing that happens. -/
theorem SimSysK.step {kk : Nat} (hkk : kk < 8000) {s : σ} {t : τ} {fr : List Nat} {k id : Nat} (h : R kk s t fr) (hk : k < 4) (h1 : 1 ≤ id) (h2 : id < 4294967296) :
    Good Q pre t (P.step s fr k id).2.2 ∧ NoneL (P.step s fr k id).2.2 ∧ (∀ c r, (P.step s fr k id).2.2 = c :: r → ¬ c.kind = 3) ∧ R (kk + 2) (P.step s fr k id).1 (Q.nexts t (P.step s fr k id).2.2) (P.step s fr k id).2.1 := by
  have hl := S.len h
  by_cases h0 : k = 0
  · subst h0
    cases e : atL fr id with
    | some a =>
      obtain ⟨ha, hfa⟩ := atL_some e
      obtain ⟨p1, r1⟩ := S.access h (by omega) (by omega) (.inl hfa) h1 h2
      rw [set_same' hfa] at r1
      have hs : P.step s fr 0 id = (P.access s a id, fr, [P.see (P.access s a id) (clAcc a id)]) := by simp [Pol.step, e]
      rw [hs]
      refine ⟨S.one (by show 1 < 5; omega) p1 (fun q => (by cases q)) (by simp [Pol.next, Pol.see, clAcc]) r1 trivial, trivial, fun c r q => ?_, ?_⟩
      · simp at q; rw [← q.1]; simp [Pol.see, clAcc]
      · simpa [Pol.nexts, Pol.next, Pol.see, clAcc] using S.mono r1
    | none =>
      have hni := atL_none e
      obtain ⟨pm, rm⟩ := S.miss h hni h1 h2
      have gm := @SimSysK.one σ τ P Q pre n R S kk (P.miss s id) t fr (clMiss id) (by show 0 < 5; omega) pm (fun q => (by cases q)) (Q.miss t id) (by simp [Pol.next, Pol.see, clMiss]) rm
      have nm : Q.next t (P.see (P.miss s id) (clMiss id)) = Q.miss t id := by simp [Pol.next, Pol.see, clMiss]
      cases e0 : atL fr 0 with
      | some a =>
        obtain ⟨ha, hfa⟩ := atL_some e0
        obtain ⟨x, y, hc, ⟨c1, d1, rfl, k1, k2⟩, hg, hR⟩ := S.come (by omega) rm (by omega) ⟨hfa, hni⟩ h1 h2 rfl [P.see (P.miss s id) (clMiss id)]
        have hs : P.step s fr 0 id = P.come (P.miss s id) fr a id [P.see (P.miss s id) (clMiss id)] := by simp [Pol.step, e, e0]
        rw [hs, hc]
        refine ⟨gm hg, ?_, fun c r q => ?_, ?_⟩
        · exact ⟨fun q => (by rw [k1] at q; cases q), fun q => (by rw [k2] at q; cases q), trivial⟩
        · simp at q; rw [← q.1]; simp [Pol.see, clMiss]
        · rw [Pol.nexts_append]; simpa [Pol.nexts, nm] using S.mono hR
      | none =>
        cases ev : P.victim (P.miss s id) id with
        | none =>
          obtain ⟨pn, pv⟩ := S.none rm (by omega) hni h1 h2
          have hs : P.step s fr 0 id = (P.miss s id, fr, [P.see (P.miss s id) (clMiss id), P.see (P.miss s id) (clVic id (-1))]) := by simp [Pol.step, e, e0, ev]
          have hv := S.victim rm hni h1 h2
          rw [hs]
          have nv : Q.next (Q.miss t id) (P.see (P.miss s id) (clVic id (-1))) = Q.miss t id := by simp [Pol.next, Pol.see, clVic, hv, ev]
          refine ⟨gm (S.one (by show 3 < 5; omega) pv (fun q => ?_) nv rm trivial), ⟨fun q => ?_, trivial⟩, fun c r q => ?_, ?_⟩
          · show (-1 : Int) = fstI (Q.victim (Q.miss t id) id); rw [hv, ev]; rfl
          · have := pn.1 ev
            show (-1 : Int) < 0 ↔ P.size (P.miss s id) = 0
            simp [this]
          · simp at q; rw [← q.1]; simp [Pol.see, clMiss]
          · simpa [Pol.nexts, nm, nv] using S.mono (S.mono rm)
        | some a =>
          obtain ⟨ha, pv, rv⟩ := S.gone rm (by omega) hni h1 h2 ev
          have hv := S.victim rm hni h1 h2
          have hl2 := S.len rm
          have hfa : (fr.set a 0)[a]? = some 0 ∧ ¬ id ∈ fr.set a 0 := ⟨by rw [List.getElem?_set, if_pos rfl, if_pos (by omega)], fun q => by
            rcases List.mem_or_eq_of_mem_set q with q | q
            · exact hni q
            · omega⟩
          obtain ⟨x, y, hc, ⟨c1, d1, rfl, k1, k2⟩, hg, hR⟩ := S.come (fm := fr) (by omega) rv ha hfa h1 h2 (by rw [List.set_set]) [P.see (P.miss s id) (clMiss id), P.see (P.gone (P.miss s id) id) (clVic id a)]
          have hs : P.step s fr 0 id = P.come (P.gone (P.miss s id) id) fr a id [P.see (P.miss s id) (clMiss id), P.see (P.gone (P.miss s id) id) (clVic id a)] := by simp [Pol.step, e, e0, ev]
          rw [hs, hc]
          have nv : Q.next (Q.miss t id) (P.see (P.gone (P.miss s id) id) (clVic id a)) = Q.gone (Q.miss t id) id := by simp [Pol.next, Pol.see, clVic, hv, ev]
          refine ⟨gm (S.one (by show 3 < 5; omega) pv (fun q => ?_) nv rv hg), ?_, fun c r q => ?_, ?_⟩
          · show (a : Int) = fstI (Q.victim (Q.miss t id) id); rw [hv, ev]; rfl
          · refine ⟨fun q => ?_, fun q => (by rw [k1] at q; cases q), fun q => (by rw [k2] at q; cases q), trivial⟩
            have hz : ¬ P.size (P.miss s id) = 0 := fun z => by
              have := (S.none rm (by omega) hni h1 h2).1.2 z
              rw [ev] at this; cases this
            show (a : Int) < 0 ↔ P.size (P.miss s id) = 0
            constructor
            · intro q; omega
            · intro q; exact (hz q).elim
          · simp at q; rw [← q.1]; simp [Pol.see, clMiss]
          · rw [Pol.nexts_append]; simpa [Pol.nexts, nm, nv, List.set_set] using hR
  · cases e : atL fr id with
    | none =>
      have hs : P.step s fr k id = (s, fr, []) := by simp [Pol.step, h0, e]
      rw [hs]
      exact ⟨trivial, trivial, fun c r q => (by cases q), S.mono (S.mono h)⟩
    | some a =>
      obtain ⟨ha, hfa⟩ := atL_some e
      by_cases h3 : k = 3
      · obtain ⟨p1, r1⟩ := S.remove h (by omega) hfa h1
        have hs : P.step s fr k id = (P.remove s a, fr.set a 0, [P.see (P.remove s a) (clRem a)]) := by simp [Pol.step, e, h3]
        rw [hs]
        refine ⟨S.one (by show 4 < 5; omega) p1 (fun q => (by cases q)) (by simp [Pol.next, Pol.see, clRem]) r1 trivial, trivial, fun c r q => ?_, ?_⟩
        · simp at q; rw [← q.1]; simp [Pol.see, clRem]
        · simpa [Pol.nexts, Pol.next, Pol.see, clRem] using S.mono (S.mono r1)
      · obtain ⟨p1, r1⟩ := S.set (!decide (k = 1)) h (by omega) (by omega) hfa h1
        have hs : P.step s fr k id = (P.set s a (!decide (k = 1)), fr, [P.see (P.set s a (!decide (k = 1))) (clSet a (!decide (k = 1)))]) := by simp [Pol.step, e, h0, h3]
        rw [hs]
        refine ⟨S.one (by show 2 < 5; omega) p1 (fun q => (by cases q)) (by simp [Pol.next, Pol.see, clSet]) r1 trivial, trivial, fun c r q => ?_, ?_⟩
        · simp at q; rw [← q.1]; simp [Pol.see, clSet]
        · simpa [Pol.nexts, Pol.next, Pol.see, clSet] using S.mono (S.mono r1)
/-- All that happens. -/
theorem SimSysK.run : ∀ {ops : List (Nat × Nat)} {kk : Nat} {s : σ} {t : τ} {fr : List Nat}, R kk s t fr → kk + 2 * ops.length < 8000 → (∀ o ∈ ops, o.1 < 4 ∧ 1 ≤ o.2 ∧ o.2 < 4294967296) →
    Good Q pre t (P.run s fr ops).2.2 ∧ NoneL (P.run s fr ops).2.2 ∧ (∀ c r, (P.run s fr ops).2.2 = c :: r → ¬ c.kind = 3)
  | [], kk, s, t, fr, h, _, _ => ⟨trivial, trivial, fun c r q => (by cases q)⟩
  | (k, id) :: ops, kk, s, t, fr, h, hl, ho => by
    rw [List.length_cons] at hl
    obtain ⟨a1, a2, a3⟩ := ho (k, id) (List.mem_cons_self ..)
    obtain ⟨g, nn, hh, r⟩ := S.step (by omega) h a1 a2 a3
    obtain ⟨g', nn', hh'⟩ := SimSysK.run (ops := ops) r (by omega) (fun o q => ho o (List.mem_cons_of_mem _ q))
    refine ⟨Good.append g g', NoneL.append nn nn' hh', fun c rr q => ?_⟩
    have q : (P.step s fr k id).2.2 ++ (P.run (P.step s fr k id).1 (P.step s fr k id).2.1 ops).2.2 = c :: rr := q
    cases e : (P.step s fr k id).2.2 with
    | nil => rw [e] at q; exact hh' c rr q
    | cons x y => rw [e] at q; simp at q; exact hh c y (by rw [e, q.1])
end
end Go.Proofs.Ytbnckhkamebibaa
