/-
  The document's queue: Put; lists in their order.
-/
import Derived.Test.YtbnckhkamebibaaK27
namespace Go.Proofs.Ytbnckhkamebibaa
open Go.RowKit Go.Maps
set_option linter.unusedVariables false

def Srt (l : List Th) : Prop := l.Pairwise (fun t u => ltT t u = true)
def insT (x : Th) : List Th → List Th
  | [] => [x]
  | t :: r => if ltT x t = true then x :: t :: r else t :: insT x r
def pst (x : Th) (s : Bool × List Th) (t : Th) : Bool × List Th := if s.1 = false ∧ ltT x t = true then (true, s.2 ++ [x, t]) else (s.1, s.2 ++ [t])
theorem pst_in (x : Th) : ∀ (l acc : List Th), l.foldl (pst x) (true, acc) = (true, acc ++ l) := by
  intro l
  induction l with
  | nil => intro acc; simp
  | cons t l ih => intro acc; rw [List.foldl_cons, show pst x (true, acc) t = (true, acc ++ [t]) from rfl, ih]; simp
theorem pst_ins (x : Th) : ∀ (l acc : List Th), (if (l.foldl (pst x) (false, acc)).1 = true then (l.foldl (pst x) (false, acc)).2 else (l.foldl (pst x) (false, acc)).2 ++ [x]) = acc ++ insT x l := by
  intro l
  induction l with
  | nil => intro acc; simp [insT]
  | cons t l ih =>
    intro acc
    rw [List.foldl_cons]
    by_cases h : ltT x t = true
    · rw [show pst x (false, acc) t = (true, acc ++ [x, t]) from by simp [pst, h], pst_in]
      simp [insT, h]
    · rw [show pst x (false, acc) t = (false, acc ++ [t]) from by simp [pst, h], ih]
      simp [insT, h]
theorem pst_len (x : Th) : ∀ (l : List Th), ((l.foldl (pst x) (false, [])).2).length ≤ l.length + 1 := by
  intro l
  have h := pst_ins x l []
  have h2 : ∀ l, (insT x l).length = l.length + 1 := by
    intro l
    induction l with
    | nil => rfl
    | cons t l ih => unfold insT; split <;> simp [ih]
  have h3 := congrArg List.length h
  rw [List.nil_append, h2] at h3
  split at h3
  · omega
  · rw [List.length_append] at h3; omega
theorem insT_mem (x : Th) (l : List Th) (t : Th) : t ∈ insT x l ↔ t = x ∨ t ∈ l := by
  induction l with
  | nil => simp [insT]
  | cons u l ih =>
    unfold insT
    split
    · simp
    · simp only [List.mem_cons, ih]
      constructor
      · rintro (h | h | h)
        · exact .inr (.inl h)
        · exact .inl h
        · exact .inr (.inr h)
      · rintro (h | h | h)
        · exact .inr (.inl h)
        · exact .inl h
        · exact .inr (.inr h)
theorem ltT_trans {t u v : Th} (h1 : ltT t u = true) (h2 : ltT u v = true) : ltT t v = true := by
  rw [ltT_iff] at *; omega
theorem ltT_irr (t : Th) : ltT t t = false := by rw [ltT_not]; omega
theorem insT_srt (x : Th) (l : List Th) (h : Srt l) (hx : ∀ t ∈ l, ¬ t.x = x.x) : Srt (insT x l) := by
  induction l with
  | nil => unfold insT Srt; simp
  | cons u l ih =>
    have h' := List.pairwise_cons.1 h
    unfold insT
    by_cases e : ltT x u = true
    · rw [if_pos e]
      refine List.pairwise_cons.2 ⟨fun t ht => ?_, h⟩
      rcases List.mem_cons.1 ht with rfl | ht
      · exact e
      · exact ltT_trans e (h'.1 t ht)
    · rw [if_neg e]
      refine List.pairwise_cons.2 ⟨fun t ht => ?_, ih h'.2 (fun t ht => hx t (List.mem_cons_of_mem _ ht))⟩
      rcases (insT_mem x l t).1 ht with rfl | ht
      · have e' : ltT t u = false := by simpa using e
        exact ltT_total e' (fun q => hx u (List.mem_cons_self ..) q.symm)
      · exact h'.1 t ht
theorem dropT_srt {l : List Th} (h : Srt l) (x : Int) : Srt (dropT l x) := List.Pairwise.filter _ h
theorem dropT_mem {l : List Th} {x : Int} {t : Th} : t ∈ dropT l x ↔ t ∈ l ∧ ¬ t.x = x := by simp [dropT]
theorem srt_unique : ∀ (l l' : List Th), Srt l → Srt l' → (∀ t, t ∈ l ↔ t ∈ l') → l = l' := by
  intro l
  induction l with
  | nil =>
    intro l' _ _ hm
    cases l' with
    | nil => rfl
    | cons u l' => exact absurd ((hm u).2 (List.mem_cons_self ..)) (by simp)
  | cons t l ih =>
    intro l' h h' hm
    cases l' with
    | nil => exact absurd ((hm t).1 (List.mem_cons_self ..)) (by simp)
    | cons u l' =>
      obtain ⟨a1, a2⟩ := List.pairwise_cons.1 h
      obtain ⟨b1, b2⟩ := List.pairwise_cons.1 h'
      have e : t = u := by
        rcases List.mem_cons.1 ((hm t).1 (List.mem_cons_self ..)) with q | q
        · exact q
        · rcases List.mem_cons.1 ((hm u).2 (List.mem_cons_self ..)) with q' | q'
          · exact q'.symm
          · have c1 := b1 t q
            have c2 := a1 u q'
            have := ltT_trans c1 c2
            rw [ltT_irr] at this
            cases this
      subst e
      congr 1
      refine ih l' a2 b2 (fun v => ⟨fun q => ?_, fun q => ?_⟩)
      · rcases List.mem_cons.1 ((hm v).1 (List.mem_cons_of_mem _ q)) with rfl | q'
        · have := a1 v q
          rw [ltT_irr] at this
          cases this
        · exact q'
      · rcases List.mem_cons.1 ((hm v).2 (List.mem_cons_of_mem _ q)) with rfl | q'
        · have := b1 v q
          rw [ltT_irr] at this
          cases this
        · exact q'
def putT (l : List Th) (x : Th) : List Th := insT x (dropT l x.x)
section
variable {w w' : World} {v : Value} {l : List Th}
end
end Go.Proofs.Ytbnckhkamebibaa
