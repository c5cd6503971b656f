/-
  A call's line as bytes, and back: plain lists, no program.
-/
import Derived.Lib.IndexMore
import Derived.Lib.ItoaNum
import Derived.Lib.ParseIntB
namespace Go.Proofs.YtaebogmgjimkfaaDoor
set_option linter.unusedVariables false
set_option linter.unusedSimpArgs false
open Go.Lib
/-- The names of the kinds. -/
def nmL (k : Nat) : List UInt8 := [[110, 101, 119], [102, 101, 116, 99, 104], [117, 110, 112, 105, 110], [114, 101, 97, 100], [119, 114, 105, 116, 101], [102, 108, 117, 115, 104], [102, 108, 117, 115, 104, 97, 108, 108], [100, 101, 108, 101, 116, 101]].getD k []
def plainK (k : Nat) : Bool := k == 0 || k == 6
/-- A call's line; empty: there is none. -/
def lineL (k : Int) (id v : Nat) : List UInt8 :=
  if k < 0 ∨ 7 < k then [] else
  if plainK k.toNat = true ∧ ¬ id = 0 ∨ ¬ k = 4 ∧ ¬ v = 0 then [] else
  nmL k.toNat ++ (if plainK k.toNat = true then [] else 32 :: decDigits id) ++ (if k = 4 then 32 :: decDigits v else [])
/-- What stands ahead of the first blank, and behind it. -/
def hd32 (l : List UInt8) : List UInt8 := l.takeWhile fun c => c != 32
def tl32 : List UInt8 → List UInt8
  | [] => []
  | c :: l => if c = 32 then l else tl32 l
theorem index_32 (l : List UInt8) : (32 ∈ l → index l [32] = (hd32 l).length) ∧ (¬ 32 ∈ l → index l [32] = -1) := by
  induction l with
  | nil => exact ⟨fun h => (by cases h), fun _ => rfl⟩
  | cons c l ih =>
    by_cases e : c = 32
    · subst e
      exact ⟨fun _ => by simp [index, hd32], fun h => (h (List.mem_cons_self ..)).elim⟩
    · have e1 : ([32] : List UInt8).isPrefixOf (c :: l) = false := by
        simp [List.isPrefixOf, Ne.symm e]
      have e2 : hd32 (c :: l) = c :: hd32 l := by simp [hd32, e]
      constructor
      · intro h
        have h' : 32 ∈ l := by
          rcases List.mem_cons.1 h with q | q
          · exact (e q.symm).elim
          · exact q
        rw [index, e1, ih.1 h', e2]
        have : ((hd32 l).length : Int) ≠ -1 := by omega
        simp [this]
      · intro h
        have h' : ¬ 32 ∈ l := fun q => h (List.mem_cons_of_mem _ q)
        rw [index, e1, ih.2 h']
        rfl
theorem take_hd (l : List UInt8) : l.take (hd32 l).length = hd32 l := by
  induction l with
  | nil => rfl
  | cons c l ih =>
    by_cases e : c = 32
    · subst e; rfl
    · have e2 : hd32 (c :: l) = c :: hd32 l := by simp [hd32, e]
      rw [e2, List.length_cons, List.take_succ_cons, ih]
theorem drop_hd (l : List UInt8) : l.drop ((hd32 l).length + 1) = tl32 l := by
  induction l with
  | nil => rfl
  | cons c l ih =>
    by_cases e : c = 32
    · subst e; simp [hd32, tl32]
    · have e2 : hd32 (c :: l) = c :: hd32 l := by simp [hd32, e]
      rw [e2, List.length_cons, List.drop_succ_cons, ih, tl32, if_neg e]
theorem hd_none {l : List UInt8} (h : ¬ 32 ∈ l) : hd32 l = l ∧ tl32 l = [] := by
  induction l with
  | nil => exact ⟨rfl, rfl⟩
  | cons c l ih =>
    have e : ¬ c = 32 := fun q => h (q ▸ List.mem_cons_self ..)
    have e2 : hd32 (c :: l) = c :: hd32 l := by simp [hd32, e]
    obtain ⟨i1, i2⟩ := ih (fun q => h (List.mem_cons_of_mem _ q))
    rw [e2, i1, tl32, if_neg e]
    exact ⟨rfl, i2⟩
theorem cut_32 (l : List UInt8) : (cut l [32]).1 = hd32 l ∧ (cut l [32]).2.1 = tl32 l := by
  unfold cut
  by_cases h : 32 ∈ l
  · rw [(index_32 l).1 h, if_pos (by omega)]
    exact ⟨take_hd l, drop_hd l⟩
  · rw [(index_32 l).2 h, if_neg (by omega)]
    exact ⟨(hd_none h).1.symm, (hd_none h).2.symm⟩
theorem hd_app {a : List UInt8} (h : ¬ 32 ∈ a) (b : List UInt8) : hd32 (a ++ 32 :: b) = a ∧ tl32 (a ++ 32 :: b) = b := by
  induction a with
  | nil => exact ⟨rfl, by show tl32 (32 :: b) = b; rw [tl32, if_pos rfl]⟩
  | cons c a ih =>
    have e : ¬ c = 32 := fun q => h (q ▸ List.mem_cons_self ..)
    obtain ⟨i1, i2⟩ := ih (fun q => h (List.mem_cons_of_mem _ q))
    show hd32 (c :: (a ++ 32 :: b)) = c :: a ∧ tl32 (c :: (a ++ 32 :: b)) = b
    have e2 : hd32 (c :: (a ++ 32 :: b)) = c :: hd32 (a ++ 32 :: b) := by simp [hd32, e]
    rw [e2, i1, tl32, if_neg e]
    exact ⟨rfl, i2⟩
/-- Digits. -/
def Dig (c : UInt8) : Prop := 48 ≤ c.toNat ∧ c.toNat ≤ 57
theorem dig_of {d : Nat} (h : d < 10) : (UInt8.ofNat (48 + d)).toNat = 48 + d := by
  simp; omega
theorem dd_dig (n : Nat) : ∀ c ∈ decDigits n, Dig c := by
  induction n using Nat.strongRecOn with
  | _ n ih =>
    intro c hc
    unfold decDigits at hc
    by_cases h : n < 10
    · rw [dif_pos h] at hc
      have hc := List.mem_singleton.1 hc
      subst hc
      unfold Dig
      rw [dig_of h]; omega
    · rw [dif_neg h] at hc
      rcases List.mem_append.1 hc with q | q
      · exact ih (n / 10) (by omega) c q
      · have q := List.mem_singleton.1 q
        subst q
        unfold Dig
        rw [dig_of (Nat.mod_lt _ (by decide))]; omega
theorem dd_no32 (n : Nat) : ¬ 32 ∈ decDigits n := fun h => by
  have := (dd_dig n _ h).1
  revert this; decide
theorem dd_ne (n : Nat) : ¬ decDigits n = [] := by
  unfold decDigits
  by_cases h : n < 10
  · rw [dif_pos h]; simp
  · rw [dif_neg h]; simp
/-- What digits spell. -/
def spell (acc : Nat) (l : List UInt8) : Nat := l.foldl (fun a c => 10 * a + (c.toNat - 48)) acc
theorem spell_app (acc : Nat) (a b : List UInt8) : spell acc (a ++ b) = spell (spell acc a) b := List.foldl_append ..
theorem spell_dd (n : Nat) : spell 0 (decDigits n) = n := by
  induction n using Nat.strongRecOn with
  | _ n ih =>
    unfold decDigits
    by_cases h : n < 10
    · rw [dif_pos h]
      show 10 * 0 + ((UInt8.ofNat (48 + n)).toNat - 48) = n
      rw [dig_of h]; omega
    · rw [dif_neg h, spell_app, ih (n / 10) (by omega)]
      show 10 * (n / 10) + ((UInt8.ofNat (48 + n % 10)).toNat - 48) = n
      rw [dig_of (Nat.mod_lt _ (by decide))]; omega
theorem spell_le (acc : Nat) (l : List UInt8) : acc ≤ spell acc l := by
  induction l generalizing acc with
  | nil => exact Nat.le_refl _
  | cons c l ih => exact Nat.le_trans (by omega : acc ≤ 10 * acc + (c.toNat - 48)) (ih _)
theorem parseM_spell {M : Nat} (hM : M < 18446744073709551616) : ∀ (l : List UInt8) (acc : Nat), (∀ c ∈ l, Dig c) → spell acc l ≤ M → parseUintM M acc l = .ok (spell acc l)
  | [], acc, _, _ => rfl
  | c :: l, acc, hd, hs => by
    have hc := hd c (List.mem_cons_self ..)
    have h1 : 10 * acc + (c.toNat - 48) ≤ M := Nat.le_trans (spell_le _ l) hs
    unfold Dig at hc
    rw [parseUintM, if_pos hc, if_neg (by omega), if_neg (by omega)]
    have e : acc * 10 + (c.toNat - 48) = 10 * acc + (c.toNat - 48) := by omega
    rw [e]
    exact parseM_spell hM l _ (fun x hx => hd x (List.mem_cons_of_mem _ hx)) hs
theorem parse_dd {B n : Nat} (hB : 2 ^ B ≤ 18446744073709551616) (h : n < 2 ^ B) : parseUintB B (decDigits n) = .ok n := by
  unfold parseUintB
  rw [if_neg (dd_ne n), parseM_spell (by omega) _ _ (dd_dig n) (by rw [spell_dd]; omega), spell_dd]
/-- The number of a word, as ParseUint tells it. -/
def numP (B : Nat) (l : List UInt8) : Nat := match parseUintB B l with
  | .ok u => u
  | .range => 2 ^ B - 1
  | _ => 0
theorem numP_dd {B n : Nat} (hB : 2 ^ B ≤ 18446744073709551616) (h : n < 2 ^ B) : numP B (decDigits n) = n := by
  unfold numP; rw [parse_dd hB h]
theorem numP_nil (B : Nat) : numP B [] = 0 := rfl
/-- The kind of a name, or -1. -/
def kindL (l : List UInt8) : Int := match (List.range 8).find? (fun k => nmL k == l) with
  | some k => k
  | none => -1
theorem kind_nm : ∀ k, k < 8 → kindL (nmL k) = k := by decide
theorem nm_no32 : ∀ k, k < 8 → ¬ 32 ∈ nmL k := by decide
theorem nm_ne : ∀ k, k < 8 → ¬ nmL k = [] := by decide
/-- The three pieces of a line. -/
def pieceA (s : List UInt8) : List UInt8 := hd32 s
def pieceB (s : List UInt8) : List UInt8 := hd32 (tl32 s)
def pieceC (s : List UInt8) : List UInt8 := tl32 (tl32 s)
theorem line_pieces {k : Int} {id v : Nat} (h : ¬ lineL k id v = []) : 0 ≤ k ∧ k ≤ 7 ∧ pieceA (lineL k id v) = nmL k.toNat ∧
    ((plainK k.toNat = true ∧ id = 0 ∧ pieceB (lineL k id v) = []) ∨ (plainK k.toNat = false ∧ pieceB (lineL k id v) = decDigits id)) ∧
    ((¬ k = 4 ∧ v = 0 ∧ pieceC (lineL k id v) = []) ∨ (k = 4 ∧ pieceC (lineL k id v) = decDigits v)) := by
  unfold lineL at h ⊢
  by_cases h1 : k < 0 ∨ 7 < k
  · rw [if_pos h1] at h; exact (h rfl).elim
  rw [if_neg h1] at h ⊢
  by_cases h2 : plainK k.toNat = true ∧ ¬ id = 0 ∨ ¬ k = 4 ∧ ¬ v = 0
  · rw [if_pos h2] at h; exact (h rfl).elim
  rw [if_neg h2]
  have hk : k.toNat < 8 := by omega
  have n1 := nm_no32 _ hk
  refine ⟨by omega, by omega, ?_⟩
  unfold pieceA pieceB pieceC
  cases hp : plainK k.toNat with
  | true =>
    rw [hp] at h2
    have k4 : ¬ k = 4 := fun q => by subst q; cases hp
    have hid : id = 0 := by
      by_cases q : id = 0
      · exact q
      · exact (h2 (.inl ⟨rfl, q⟩)).elim
    have hv : v = 0 := by
      by_cases q : v = 0
      · exact q
      · exact (h2 (.inr ⟨k4, q⟩)).elim
    rw [if_pos rfl, if_neg k4, List.append_nil, List.append_nil, (hd_none n1).1, (hd_none n1).2]
    exact ⟨rfl, .inl ⟨rfl, hid, rfl⟩, .inl ⟨k4, hv, rfl⟩⟩
  | false =>
    rw [if_neg (by decide)]
    by_cases k4 : k = 4
    · rw [if_pos k4, List.append_assoc, List.cons_append, (hd_app n1 _).1, (hd_app n1 _).2, (hd_app (dd_no32 id) _).1, (hd_app (dd_no32 id) _).2]
      exact ⟨rfl, .inr ⟨rfl, rfl⟩, .inr ⟨k4, rfl⟩⟩
    · have hv : v = 0 := by
        by_cases q : v = 0
        · exact q
        · exact (h2 (.inr ⟨k4, q⟩)).elim
      rw [if_neg k4, List.append_nil, (hd_app n1 _).1, (hd_app n1 _).2, (hd_none (dd_no32 id)).1, (hd_none (dd_no32 id)).2]
      exact ⟨rfl, .inr ⟨rfl, rfl⟩, .inl ⟨k4, hv, rfl⟩⟩
/-- The call that a line's pieces tell, if it is one's. -/
theorem line_back {k : Int} {id v : Nat} (hid : id < 4294967296) (hv : v < 18446744073709551616) (h : ¬ lineL k id v = []) :
    kindL (pieceA (lineL k id v)) = k ∧ numP 32 (pieceB (lineL k id v)) = id ∧ numP 64 (pieceC (lineL k id v)) = v := by
  obtain ⟨h0, h7, hA, hB, hC⟩ := line_pieces h
  refine ⟨?_, ?_, ?_⟩
  · rw [hA, kind_nm _ (by omega)]; omega
  · rcases hB with ⟨_, e, q⟩ | ⟨_, q⟩
    · rw [q, e]; rfl
    · rw [q]; exact numP_dd (by decide) (by simpa using hid)
  · rcases hC with ⟨_, e, q⟩ | ⟨_, q⟩
    · rw [q, e]; rfl
    · rw [q]; exact numP_dd (by decide) (by simpa using hv)
theorem line_inj {k k' : Int} {id id' v v' : Nat} (hid : id < 4294967296) (hid' : id' < 4294967296) (hv : v < 18446744073709551616) (hv' : v' < 18446744073709551616) (h : ¬ lineL k id v = []) (e : lineL k id v = lineL k' id' v') : k = k' ∧ id = id' ∧ v = v' := by
  obtain ⟨a1, a2, a3⟩ := line_back hid hv h
  obtain ⟨b1, b2, b3⟩ := line_back hid' hv' (e ▸ h)
  rw [e] at a1 a2 a3
  exact ⟨a1.symm.trans b1, a2.symm.trans b2, a3.symm.trans b3⟩
/-- Words: what stands between blanks. -/
def wordsA (cur : List UInt8) : List UInt8 → List (List UInt8)
  | [] => [cur]
  | c :: l => if c = 32 then cur :: wordsA [] l else wordsA (cur ++ [c]) l
def wordsL (s : List UInt8) : List (List UInt8) := wordsA [] s
theorem words_none (cur : List UInt8) {l : List UInt8} (h : ¬ 32 ∈ l) : wordsA cur l = [cur ++ l] := by
  induction l generalizing cur with
  | nil => simp [wordsA]
  | cons c l ih =>
    have e : ¬ c = 32 := fun q => h (q ▸ List.mem_cons_self ..)
    rw [wordsA, if_neg e, ih _ (fun q => h (List.mem_cons_of_mem _ q))]
    simp
theorem words_app (cur : List UInt8) {a : List UInt8} (h : ¬ 32 ∈ a) (b : List UInt8) : wordsA cur (a ++ 32 :: b) = (cur ++ a) :: wordsL b := by
  induction a generalizing cur with
  | nil => simp [wordsA, wordsL]
  | cons c a ih =>
    have e : ¬ c = 32 := fun q => h (q ▸ List.mem_cons_self ..)
    show wordsA cur (c :: (a ++ 32 :: b)) = _
    rw [wordsA, if_neg e, ih _ (fun q => h (List.mem_cons_of_mem _ q))]
    simp
/-- A word's number as the document reckons it: the first twenty bytes, what is left when each is divided by 16. -/
def numD (l : List UInt8) : Nat := (l.take 20).foldl (fun a c => (10 * a + c.toNat % 16) % 18446744073709551616) 0
theorem numD_fold {l : List UInt8} (hd : ∀ c ∈ l, Dig c) (acc : Nat) (h : spell acc l < 18446744073709551616) : l.foldl (fun a c => (10 * a + c.toNat % 16) % 18446744073709551616) acc = spell acc l := by
  induction l generalizing acc with
  | nil => rfl
  | cons c l ih =>
    have hc := hd c (List.mem_cons_self ..)
    unfold Dig at hc
    have e : c.toNat % 16 = c.toNat - 48 := by omega
    have h1 : 10 * acc + (c.toNat - 48) < 18446744073709551616 := Nat.lt_of_le_of_lt (spell_le _ l) h
    show List.foldl _ ((10 * acc + c.toNat % 16) % 18446744073709551616) l = spell (10 * acc + (c.toNat - 48)) l
    rw [e, Nat.mod_eq_of_lt h1]
    exact ih (fun x hx => hd x (List.mem_cons_of_mem _ hx)) _ h
theorem dd_len_le (n m : Nat) (h : n < 10 ^ m) (hm : 0 < m) : (decDigits n).length ≤ m := by
  induction m generalizing n with
  | zero => omega
  | succ m ih =>
    unfold decDigits
    by_cases q : n < 10
    · rw [dif_pos q]; simp
    · rw [dif_neg q, List.length_append]
      have hm' : 0 < m := by
        rcases Nat.eq_zero_or_pos m with e | e
        · subst e; omega
        · exact e
      have := ih (n / 10) (by rw [Nat.div_lt_iff_lt_mul (by decide)]; rw [Nat.pow_succ] at h; exact h) hm'
      simp; omega
theorem numD_dd {n : Nat} (h : n < 18446744073709551616) : numD (decDigits n) = n := by
  unfold numD
  rw [List.take_of_length_le (dd_len_le n 20 (by omega) (by decide)), numD_fold (dd_dig n) 0 (by rw [spell_dd]; exact h), spell_dd]
theorem line_words {k : Int} {id v : Nat} (h : ¬ lineL k id v = []) : wordsL (lineL k id v) = nmL k.toNat :: ((if plainK k.toNat = true then [] else [decDigits id]) ++ (if k = 4 then [decDigits v] else [])) := by
  unfold lineL at h ⊢
  by_cases h1 : k < 0 ∨ 7 < k
  · rw [if_pos h1] at h; exact (h rfl).elim
  rw [if_neg h1] at h ⊢
  by_cases h2 : plainK k.toNat = true ∧ ¬ id = 0 ∨ ¬ k = 4 ∧ ¬ v = 0
  · rw [if_pos h2] at h; exact (h rfl).elim
  rw [if_neg h2]
  have hk : k.toNat < 8 := by omega
  have n1 := nm_no32 _ hk
  unfold wordsL
  cases hp : plainK k.toNat with
  | true =>
    have k4 : ¬ k = 4 := fun q => by subst q; cases hp
    rw [if_pos rfl, if_pos rfl, if_neg k4, if_neg k4, List.append_nil, List.append_nil, words_none _ n1]
    rfl
  | false =>
    simp only [Bool.false_eq_true, if_false]
    by_cases k4 : k = 4
    · rw [if_pos k4, if_pos k4, List.append_assoc, List.cons_append, words_app _ n1, wordsL, words_app _ (dd_no32 id), wordsL, words_none _ (dd_no32 v)]
      rfl
    · rw [if_neg k4, if_neg k4, List.append_nil, words_app _ n1, wordsL, words_none _ (dd_no32 id)]
      rfl
end Go.Proofs.YtaebogmgjimkfaaDoor
