/-
  Both queues in memory: what each call makes of them.
-/
import Derived.Test.YtpebonpibhdfoaaQueO
namespace Go.Proofs.Ytpebonpibhdfoaa
open Go.RowKit Go.Maps
set_option linter.unusedVariables false

/-- The Queue at qb has the things of lq; v holds the things of l; the block ob is as it was. -/
def QB (w0 w : World) (qb : Nat) (lq l : List Th) (v : Value) (ob : Nat) (oc : Nat → Value) : Prop :=
  ∃ F, QS w qb (fun t => t ∈ lq) lq.length F ∧ (∀ i, F i → w0.heap.size ≤ i) ∧ Fr NoF w0 w ∧ IL w v l ∧ (∀ b, v.ownBlock = some b → ¬ F b) ∧ Srt lq ∧ Srt l ∧ Blk w ob 4 oc ∧ ¬ F ob
/-- .. the list alone, with All's answer av. -/
def QA (w0 w : World) (qb : Nat) (l : List Th) (v av : Value) : Prop :=
  ∃ F, QS w qb (fun t => t ∈ l) l.length F ∧ (∀ i, F i → w0.heap.size ≤ i) ∧ Fr NoF w0 w ∧ IL w v l ∧ (∀ b, v.ownBlock = some b → ¬ F b) ∧ Srt l ∧ SlC w 1 av l.length (l.map fun t => .int .i64 t.x)
/-- .. between two rounds. -/
def QT (w0 w : World) (qb : Nat) (l : List Th) (v : Value) : Prop :=
  ∃ F, QS w qb (fun t => t ∈ l) l.length F ∧ (∀ i, F i → w0.heap.size ≤ i) ∧ Fr NoF w0 w ∧ IL w v l ∧ (∀ b, v.ownBlock = some b → ¬ F b) ∧ Srt l
section
variable {w0 w w' : World} {qb n ob : Nat} {F : Nat → Prop} {M : Th → Prop} {v v' av : Value} {l lq : List Th} {oc : Nat → Value}
theorem Srt.nodup (h : Srt l) : l.Nodup := List.Pairwise.imp (fun {t u} (q : ltT t u = true) e => by subst e; rw [ltT_irr] at q; cases q) h
theorem QS.count (h : QS w qb (fun t => t ∈ l) n F) (hs : Srt l) : n = l.length := by
  obtain ⟨a, ⟨lv, mo, g, h, hF⟩, hh, hM⟩ := h
  have hn : (uptoT a n).Nodup := by
    have := inj_nodup h.inj
    exact List.Pairwise.imp (fun {t u} (h : ¬ t.x = u.x) e => h (by rw [e])) (List.pairwise_map.1 this)
  have hp := (List.perm_ext_iff_of_nodup hn hs.nodup).2 (fun t => by rw [mem_uptoT]; exact (hM t).symm)
  have := hp.length_eq
  rw [uptoT_length] at this
  exact this
theorem QT.f (h : QT w0 w qb l v) : Fr NoF w0 w := by obtain ⟨F, a, b, c, d⟩ := h; exact c
theorem QT.il (h : QT w0 w qb l v) : IL w v l := by obtain ⟨F, a, b, c, d, e⟩ := h; exact d
theorem QT.fr0 (h : QT w0 w qb l v) (f : Fr NoF w w') : QT w0 w' qb l v := by
  obtain ⟨F, a, b, c, d, e, g⟩ := h
  exact ⟨F, a.fr0 f, b, c.trans f (fun _ q => q.elim), d.fr0 f, e, g⟩
theorem QT.with (h : QT w0 w qb l v) (hb : Blk w' ob 4 oc) (f : Fr NoF w w') (ho : w.heap.size ≤ ob) : QB w0 w' qb l l v ob oc := by
  obtain ⟨F, a, b, c, d, e, g⟩ := h
  exact ⟨F, a.fr0 f, b, c.trans f (fun _ q => q.elim), d.fr0 f, e, g, g, hb, fun q => by have := a.lt _ q; omega⟩
theorem QB.f (h : QB w0 w qb lq l v ob oc) : Fr NoF w0 w := by obtain ⟨F, a, b, c, d⟩ := h; exact c
theorem QB.il (h : QB w0 w qb lq l v ob oc) : IL w v l := by obtain ⟨F, a, b, c, d, e⟩ := h; exact d
theorem QB.blk (h : QB w0 w qb lq l v ob oc) : Blk w ob 4 oc := by obtain ⟨F, a, b, c, d, e, g, g2, k, k2⟩ := h; exact k
theorem QB.t (h : QB w0 w qb l l v ob oc) : QT w0 w qb l v := by obtain ⟨F, a, b, c, d, e, g, g2, k, k2⟩ := h; exact ⟨F, a, b, c, d, e, g⟩
theorem QB.fr0 (h : QB w0 w qb lq l v ob oc) (f : Fr NoF w w') : QB w0 w' qb lq l v ob oc := by
  obtain ⟨F, a, b, c, d, e, g, g2, k, k2⟩ := h
  exact ⟨F, a.fr0 f, b, c.trans f (fun _ q => q.elim), d.fr0 f, e, g, g2, k.fr f (fun q => q), k2⟩
theorem QA.f (h : QA w0 w qb l v av) : Fr NoF w0 w := by obtain ⟨F, a, b, c, d⟩ := h; exact c
theorem QA.il (h : QA w0 w qb l v av) : IL w v l := by obtain ⟨F, a, b, c, d, e⟩ := h; exact d
theorem QA.al (h : QA w0 w qb l v av) : SlC w 1 av l.length (l.map fun t => .int .i64 t.x) := by obtain ⟨F, a, b, c, d, e, g, k⟩ := h; exact k
theorem QA.t (h : QA w0 w qb l v av) : QT w0 w qb l v := by obtain ⟨F, a, b, c, d, e, g, k⟩ := h; exact ⟨F, a, b, c, d, e, g⟩
theorem QA.fr0 (h : QA w0 w qb l v av) (f : Fr NoF w w') : QA w0 w' qb l v av := by
  obtain ⟨F, a, b, c, d, e, g, k⟩ := h
  exact ⟨F, a.fr0 f, b, c.trans f (fun _ q => q.elim), d.fr0 f, e, g, k.keep f⟩
theorem QA.len (h : QA w0 w qb l v av) : Calls Try.prog 12 #[.pointer (some ⟨qb, 0, none⟩)] w fun e w' => e = .returned (.int .i64 (l.length : Nat)) ∧ w = w' := by
  obtain ⟨F, a, b, c, d, e, g, k⟩ := h
  exact qu_len a
theorem QA.of (h : QA w0 w qb l v av) {t : Th} (ht : t ∈ l) : Calls Try.prog 13 #[.pointer (some ⟨qb, 0, none⟩), .int .i64 t.x] w fun e w' => e = .returned (.tuple #[.agg #[.int .i64 t.a, .int .i64 t.b], .bool true]) ∧ Fr NoF w w' := by
  obtain ⟨F, a, b, c, d, e, g, k⟩ := h
  exact qu_of a ht
theorem QB.all (h : QB w0 w qb l l v ob oc) : Calls Try.prog 11 #[.pointer (some ⟨qb, 0, none⟩)] w fun e w' => ∃ av, e = .returned av ∧ QA w0 w' qb l v av := by
  obtain ⟨F, a, b, c, d, e, g, g2, k, k2⟩ := h
  refine (qu_list a g).mono ?_
  rintro e' w' ⟨av, rfl, _, hr, hf⟩
  refine ⟨av, rfl, F, a.fr0 hf, b, c.trans hf (fun _ q => q.elim), d.fr0 hf, e, g, SlC.ofOwn hr (fun u hu => by obtain ⟨z, _, rfl⟩ := List.mem_map.1 hu; rfl)⟩
theorem QT.least_no (h : QT w0 w qb [] v) : Calls Try.prog 6 #[.pointer (some ⟨qb, 0, none⟩)] w fun e w' => e = .returned (.tuple #[.int .i64 0, .bool false]) ∧ w = w' := by
  obtain ⟨F, a, b, c, d, e, g⟩ := h
  exact qu_least_no a
theorem least_head {t u : Th} {r : List Th} (h : LeastT (fun t => t ∈ u :: r) t) (hs : Srt (u :: r)) : t = u := by
  rcases List.mem_cons.1 h.1 with q | q
  · exact q
  · have h1 := (List.pairwise_cons.1 hs).1 t q
    have h2 := h.2 u (List.mem_cons_self ..)
    rw [h2] at h1; cases h1
theorem QB.least_yes {u : Th} {r : List Th} (h : QB w0 w qb (u :: r) (u :: r) v ob oc) : Calls Try.prog 6 #[.pointer (some ⟨qb, 0, none⟩)] w fun e w' => e = .returned (.tuple #[.int .i64 u.x, .bool true]) ∧ w = w' := by
  obtain ⟨F, a, b, c, d, e, g, g2, k, k2⟩ := h
  obtain ⟨t, h1, h2⟩ := qu_least_yes a (by simp)
  obtain rfl := least_head h1 g
  exact h2.out w (Fr.refl _ _)
theorem QB.least_no (h : QB w0 w qb [] [] v ob oc) : Calls Try.prog 6 #[.pointer (some ⟨qb, 0, none⟩)] w fun e w' => e = .returned (.tuple #[.int .i64 0, .bool false]) ∧ w = w' := by
  obtain ⟨F, a, b, c, d, e, g, g2, k, k2⟩ := h
  exact qu_least_no a
theorem putT_mem {x t : Th} : t ∈ putT l x ↔ t = x ∨ (t ∈ l ∧ ¬ t.x = x.x) := by unfold putT; rw [insT_mem, dropT_mem]
theorem putT_srt (h : Srt l) (x : Th) : Srt (putT l x) := insT_srt x _ (dropT_srt h _) (fun t ht => (dropT_mem.1 ht).2)
theorem insT_len (x : Th) : ∀ l : List Th, (insT x l).length = l.length + 1 := by
  intro l
  induction l with
  | nil => rfl
  | cons t l ih => unfold insT; split <;> simp [ih]
theorem putT_len (x : Th) : (putT l x).length ≤ l.length + 1 := by
  unfold putT; rw [insT_len]
  have := dropT_len l x.x
  omega
theorem QB.put (h : QB w0 w qb l l v ob oc) {t : Th} (hok : thOk t) (hn : l.length < 900000) : Calls Try.prog 7 #[.pointer (some ⟨qb, 0, none⟩), .int .i64 t.x, .agg #[.int .i64 t.a, .int .i64 t.b]] w fun e w' => e = .returned (.tuple #[]) ∧ QB w0 w' qb (putT l t) l v ob oc := by
  obtain ⟨F, a, b, c, d, e, g, g2, k, k2⟩ := h
  have hvl := d.lt
  have hol := k.lt
  rcases qu_cases a t.x with hex | hne
  · refine (qu_put_old a hok hex).mono ?_
    rintro e' w' ⟨rfl, hq, f⟩
    have hq2 : QS w' qb (fun u => u ∈ putT l t) l.length F := hq.congr (fun u => by rw [putT_mem])
    have hc := hq2.count (putT_srt g t)
    rw [hc] at hq2
    exact ⟨rfl, F, hq2, b, c.trans f (fun i q => .inr (b i q)), d.fr f e, e, putT_srt g t, g2, k.fr f k2, k2⟩
  · refine (qu_put_new a hok hn hne).mono ?_
    rintro e' w' ⟨rfl, F', hq, f, hF⟩
    have hq2 : QS w' qb (fun u => u ∈ putT l t) (l.length + 1) F' := hq.congr (fun u => by
      rw [putT_mem]
      constructor
      · rintro (q | q)
        · exact .inl q
        · exact .inr ⟨q, hne u q⟩
      · rintro (q | q)
        · exact .inl q
        · exact .inr q.1)
    have hc := hq2.count (putT_srt g t)
    rw [hc] at hq2
    exact ⟨rfl, F', hq2, fun i q => (hF i q).elim (b i) (fun q => Nat.le_trans c.size q), c.trans f (fun i q => .inr (b i q)), d.fr f e, fun i q1 q2 => (hF i q2).elim (e i q1) (fun q => by have := hvl i q1; omega), putT_srt g t, g2, k.fr f k2, fun q => (hF ob q).elim k2 (fun q => by omega)⟩
theorem QB.list (h : QB w0 w qb lq l v ob oc) {base : Nat} {l' : List Th} (hb : w.heap.size ≤ base) (ho : IO base w' v' l') (f : Fr NoF w w') (hs : Srt l') : QB w0 w' qb lq l' v' ob oc := by
  obtain ⟨F, a, b, c, d, e, g, g2, k, k2⟩ := h
  exact ⟨F, a.fr0 f, b, c.trans f (fun _ q => q.elim), ho.il, fun i q1 q2 => by have := ownBlock_own ho i q1; have := a.lt i q2; omega, g, hs, k.fr f (fun q => q), k2⟩
theorem QB.rput (h : QB w0 w qb lq l v ob oc) (hn : l.length < 10000) (x : Th) : Calls Try.prog 8 #[v, thV x] w fun e w' => ∃ v', e = .returned v' ∧ QB w0 w' qb lq (putT l x) v' ob oc := by
  refine (_root_.Go.Proofs.Ytpebonpibhdfoaa.rput h.il hn x).mono ?_
  rintro e w' ⟨v', rfl, ho, f⟩
  have hs : Srt l := by obtain ⟨F, a, b, c, d, e, g, g2, k, k2⟩ := h; exact g2
  exact ⟨v', rfl, h.list (Nat.le_refl _) ho f (putT_srt hs x)⟩
theorem QB.rdrop (h : QB w0 w qb lq l v ob oc) (hn : l.length < 10000) (x : Int) : Calls Try.prog 9 #[v, .int .i64 x] w fun e w' => ∃ v', e = .returned (.tuple #[v', .bool (decide ((dropT l x).length < l.length))]) ∧ QB w0 w' qb lq (dropT l x) v' ob oc := by
  refine (_root_.Go.Proofs.Ytpebonpibhdfoaa.rdrop h.il (by omega) x).mono ?_
  rintro e w' ⟨v', rfl, ho, f⟩
  have hs : Srt l := by obtain ⟨F, a, b, c, d, e, g, g2, k, k2⟩ := h; exact g2
  exact ⟨v', rfl, h.list (Nat.le_refl _) ho f (dropT_srt hs x)⟩
theorem dropT_lt {x : Int} : (dropT l x).length < l.length ↔ ∃ t, t ∈ l ∧ t.x = x := by
  constructor
  · intro h
    by_cases q : ∃ t, t ∈ l ∧ t.x = x
    · exact q
    · have e : dropT l x = l := List.filter_eq_self.2 (fun t ht => by simp; exact fun e => q ⟨t, ht, e⟩)
      rw [e] at h; omega
  · rintro ⟨t, ht, e⟩
    rcases Nat.lt_or_ge (dropT l x).length l.length with q | q
    · exact q
    · have e2 : dropT l x = l := List.Sublist.eq_of_length_le List.filter_sublist q
      rw [← e2] at ht
      exact ((dropT_mem.1 ht).2 e).elim
theorem QB.drop (h : QB w0 w qb lq l v ob oc) {x : Int} (hx : i64 x) : Calls Try.prog 10 #[.pointer (some ⟨qb, 0, none⟩), .int .i64 x] w fun e w' => e = .returned (.bool (decide ((dropT lq x).length < lq.length))) ∧ QB w0 w' qb (dropT lq x) l v ob oc := by
  obtain ⟨F, a, b, c, d, e, g, g2, k, k2⟩ := h
  rcases qu_cases a x with hex | hne
  · obtain ⟨m, hm⟩ : ∃ m, lq.length = m + 1 := by
      obtain ⟨t, ht, _⟩ := hex
      cases lq with
      | nil => cases ht
      | cons u r => exact ⟨r.length, rfl⟩
    rw [decide_eq_true (dropT_lt.2 hex)]
    rw [hm] at a
    refine (qu_drop_yes a hex).mono ?_
    rintro e' w' ⟨rfl, hq, f⟩
    have hq2 : QS w' qb (fun u => u ∈ dropT lq x) m F := hq.congr (fun u => by rw [dropT_mem])
    have hc := hq2.count (dropT_srt g x)
    rw [hc] at hq2
    exact ⟨rfl, F, hq2, b, c.trans f (fun i q => .inr (b i q)), d.fr f e, e, dropT_srt g x, g2, k.fr f k2, k2⟩
  · have e2 : dropT lq x = lq := List.filter_eq_self.2 (fun t ht => by simp; exact hne t ht)
    refine (qu_drop_no a hx hne).mono ?_
    rintro e' w' ⟨rfl, rfl⟩
    rw [e2]
    exact ⟨by simp, F, a, b, c, d, e, g, g2, k, k2⟩
theorem dropT_head {u : Th} {r : List Th} (h : QB w0 w qb (u :: r) l v ob oc) : dropT (u :: r) u.x = r := by
  obtain ⟨F, a, b, c, d, e, g, g2, k, k2⟩ := h
  unfold dropT
  rw [List.filter_cons_of_neg (by simp)]
  refine List.filter_eq_self.2 (fun t ht => ?_)
  simp only [decide_eq_true_eq]
  intro q
  have e1 : t = u := a.one (List.mem_cons_of_mem _ ht) (List.mem_cons_self ..) q
  subst e1
  have := (List.pairwise_cons.1 g).1 t ht
  rw [ltT_irr] at this
  cases this
theorem QB.cut {u : Th} {r : List Th} {b off c : Nat} (h : QB w0 w qb r (u :: r) (.slice (some ⟨b, off, none⟩) (r.length + 1) c) ob oc) : (c = 1 → QB w0 w qb r r (.slice (some ⟨b, off, none⟩) 0 0) ob oc ∧ r = []) ∧ (¬ c = 1 → QB w0 w qb r r (.slice (some ⟨b, off + 3, none⟩) r.length (c - 1)) ob oc) := by
  obtain ⟨F, a, b1, c1, d, e, g, g2, k, k2⟩ := h
  obtain ⟨t1, t2⟩ := IL.tail d
  exact ⟨fun q => ⟨⟨F, a, b1, c1, (t1 q).1, fun i q' => e i q', g, g, k, k2⟩, (t1 q).2⟩, fun q => ⟨F, a, b1, c1, t2 q, fun i q' => e i q', g, g, k, k2⟩⟩
theorem QB.ok (h : QB w0 w qb lq l v ob oc) {t : Th} (ht : t ∈ lq) : thOk t := by
  obtain ⟨F, a, b, c, d, e, g, g2, k, k2⟩ := h
  exact a.ok ht
end
end Go.Proofs.Ytpebonpibhdfoaa
