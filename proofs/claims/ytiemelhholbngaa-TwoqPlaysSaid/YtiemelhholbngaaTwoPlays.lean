/-
  TwoqPlays: whatever happens to pages, of however many frames, the one that goes is told, and those that are remembered; no more than may be are. The walk.
-/
import Derived.Test.YtiemelhholbngaaTwoSim
import Derived.Test.YtiemelhholbngaaTwoF
import Derived.Test.YtiemelhholbngaaFix
namespace Go.Proofs.Ytiemelhholbngaa
open Go.RowKit
set_option linter.unusedVariables false

/-- What holds of each state holds of what each call was told to leave. -/
theorem Good.inv {τ : Type} {Q : Pol τ} {pre : τ → Cl → Prop} {I : τ → Prop} {B : Nat} (hI : ∀ t c, I t → I (Q.next t c)) (hB : ∀ t, I t → (Q.ghosts t).length ≤ B) : ∀ {cs : List Cl} {t : τ}, I t → Good Q pre t cs → ∀ c ∈ cs, c.ghosts.length ≤ B
  | [], _, _, _, c, hc => by cases hc
  | a :: cs, t, ht, hg, c, hc => by
    obtain ⟨_, _, _, _, _, g1, _, _, g2⟩ := hg
    rcases List.mem_cons.1 hc with e | hc'
    · rw [e, ← g1.length_eq]; exact hB _ (hI t a ht)
    · exact Good.inv hI hB (hI t a ht) g2 c hc'
theorem polT_inv (inn out : Nat) (t : T6) (c : Cl) (h : t.gh.length ≤ out) : ((polT inn out).next t c).gh.length ≤ out := by
  unfold Pol.next
  split
  · exact h
  · split
    · show (t.acc c.frame c.page).gh.length ≤ out
      unfold T6.acc; split
      · exact h
      · split
        · exact h
        · unfold T6.come; split
          · exact Nat.le_trans (awayN_le _ _) h
          · exact h
    · split
      · show (t.setE c.frame c.on).gh.length ≤ out
        unfold T6.setE; split <;> exact h
      · split
        · split
          · exact h
          · show (match t.goes inn with | none => t | some f => t.gone out f).gh.length ≤ out
            split
            · exact h
            · unfold T6.gone
              split
              · rw [(rem_page _ _).2]
                show (cutOld out (t.gh ++ [t.page _])).length ≤ out
                unfold cutOld; split
                · rw [List.length_drop, List.length_append]; simp; omega
                · omega
              · rw [(rem_page _ _).2]; exact h
        · show (t.rem c.frame).gh.length ≤ out
          rw [(rem_page _ _).2]; exact h

theorem rep_getD (n f : Nat) : (List.replicate n 0).getD f 0 = 0 := by
  rw [List.getD_eq_getElem?_getD, List.getElem?_replicate]
  split <;> rfl
theorem CRep.inside {w : World} {v : Value} {cs : List Cl} {X : Nat → Prop} (h : CRep w v cs X) : CRep w v cs (fun i => X i ∧ i < w.heap.size) := by
  obtain ⟨gs, h1, h2, h3, h4⟩ := h
  exact ⟨gs, h1, h2, fun i c g e1 e2 => ⟨(h3 i c g e1 e2).1, fun b hb => ⟨(h3 i c g e1 e2).2 b hb, (h3 i c g e1 e2).1.lt b hb⟩⟩, fun b hb => ⟨h4 b hb, h2.lt b hb⟩⟩

set_option maxRecDepth 100000 in
set_option maxHeartbeats 4000000 in
theorem playsT_walk (h0 h1 h2 a2 : Int) (v : Value) (zs : List (Int × Int)) (w : World) (hv : ArgQ w v zs) :
    Calls Try.prog 3 #[.agg #[.int .i64 h0, .int .i64 h1, .int .i64 h2], v, .int .i64 a2] w fun e w' => e = .returned (.bool true) ∧ Fr NoF w w' := by
  obtain ⟨n, hn1, hn2, en⟩ := modk1 h0 (k := 7) (by decide) (by decide)
  obtain ⟨inn, hi2, ei⟩ := modk h1 (k := 5) (by decide) (by decide)
  obtain ⟨out, ho2, eo⟩ := modk h2 (k := 7) (by decide) (by decide)
  obtain ⟨m, hm1, hm2, em⟩ := modk1 a2 (k := 12) (by decide) (by decide)
  obtain ⟨sa, sc, rfl, _, _⟩ := hv.1
  have HV := Lib.hid hv
  have EN := Lib.hid en
  have EM := Lib.hid em
  have EI := Lib.hid ei
  have EO := Lib.hid eo
  have N : Hid (∀ w', Fr NoF w w' → Calls Try.prog 5 #[.int .i64 n, .int .i64 inn, .int .i64 out] w' fun e w'' => ∃ b F, e = .returned (.tuple #[.pointer (some ⟨b, 0, none⟩), .int .i64 0]) ∧ CRT b n inn out w'' t60 F ∧ (∀ i, F i → w.heap.size ≤ i) ∧ Fr NoF w w'') := by
    intro w' f
    exact (tq_new_yes n inn out w' (by omega) (by omega) (by omega) (by omega)).mono fun e w'' ⟨b, F, he, h1, h2, h3⟩ => ⟨b, F, he, h1, fun i q => Nat.le_trans f.size (h2 i q), f.trans h3 (fun _ q => q.elim)⟩
  clear en em hv ei eo
  go_enter Try.func3, Try.ntmps3
  go_wp2
  go_quiet (fail)
  go_wp2_with fail
  rw [EN.out, EI.out, EO.out, EM.out]
  refine (N.out _ (((Fr.refl NoF w).alloc _).drewN _)).mono ?_
  clear N
  rintro e w1 ⟨b, F, rfl, hR1, hF, hf1⟩
  have HF := Lib.hid hF
  have HR1 := Lib.hid hR1
  have HF1 := Lib.hid hf1
  clear hF hR1 hf1
  go_wp2_with fail
  refine (toldT_calls _).mono ?_
  rintro e w2 ⟨rfl, hf2⟩
  have HR2 := Lib.hid ((cod6 b n inn out).fr HR1.out hf2 (fun _ _ q => q))
  have HF2 := Lib.hid (HF1.out.trans hf2 (fun _ q => q.elim))
  clear hf2 HR1 HF1
  have HN := Lib.hid (s6_new n inn out w2 (by omega) (by omega) (by omega))
  go_wp2_with fail
  refine HN.out.mono ?_
  clear HN
  rintro e w3 ⟨pb, Fp, Dp, rfl, hP3, hD3, hf3⟩
  have HR3 := Lib.hid ((cod6 b n inn out).fr HR2.out hf3 (fun _ _ q => q))
  have HF3 := Lib.hid (HF2.out.trans hf3 (fun _ q => q.elim))
  have HP3 := Lib.hid hP3
  have HD3 := Lib.hid hD3
  have HFb := Lib.hid (fun i hi => (cod6 b n inn out).lt HR2.out i hi)
  have HSZ := Lib.hid (And.intro HF2.out.size hf3.size)
  clear hf3 hP3 hD3 HR2 HF2
  have HV3 : Hid (ArgQ w3 (.slice sa zs.length sc) zs) := HV.out.keep HF3.out
  have HX := Lib.hid (Fix_walk HV3.out hm1 (by omega))
  go_wp2_with fail
  refine HX.out.mono ?_
  clear HX
  rintro e w4 ⟨out_4, rfl, l, hl, hlo, hA, hob, hf4⟩
  have HR4 := Lib.hid ((cod6 b n inn out).fr HR3.out hf4 (fun _ _ q => q))
  have HF4 := Lib.hid (HF3.out.trans hf4 (fun _ q => q.elim))
  have HP4 := Lib.hid ((PRG_fr : PFr (PR6 pb n inn out)).fr HP3.out hf4 (fun _ _ q => q))
  have HDl := Lib.hid ((PRG_fr : PFr (PR6 pb n inn out)).lt HP3.out)
  have HS4 := Lib.hid hf4.size
  have HO := Lib.hid hob
  have HL := Lib.hid hlo
  have HA := Lib.hid hA
  have hops : ∀ o ∈ l, o.1 < 4 ∧ 1 ≤ o.2 ∧ o.2 < 4294967296 := fun o ho => by have := hlo o ho; exact ⟨this.1, this.2.1, by omega⟩
  have HOPS := Lib.hid hops
  have hco : co6 ⟨List.replicate n 0, fun _ => false, [], [], []⟩ (List.replicate n 0) := trivial
  have hrs : RS n out ⟨List.replicate n 0, fun _ => false, [], [], []⟩ t60 (List.replicate n 0) := ⟨rfl, by simp, rfl, rfl, rfl, rfl, List.nodup_nil, List.nodup_nil, fun x hx => (by cases hx), fun f => ⟨fun q => (by rcases q with q | q <;> cases q), fun q => (q.2 (rep_getD n f)).elim⟩, fun f q => (by rcases q with q | q <;> cases q), fun f hf => (by cases hf), List.nodup_nil, Nat.zero_le _, by omega, fun f q => (by rcases q with q | q <;> cases q), fun f g q => (by rcases q with q | q <;> cases q), by omega⟩
  have HRUN := Lib.hid (Run_walk (sys6 (pb := pb) (n := n) (inn := inn) (out := out)) HP4.out hco (by omega) HA.out (fun b hb hd => by have := HO.out b hb; have := HDl.out b hd; omega) (by omega) HOPS.out)
  have hsim := (sim6 n inn out).run (ops := l) (s := ⟨List.replicate n 0, fun _ => false, [], [], []⟩) (t := t60) (fr := List.replicate n 0) hrs HOPS.out
  have hlen := (pol6 inn out).run_len ⟨List.replicate n 0, fun _ => false, [], [], []⟩ (List.replicate n 0) l
  obtain ⟨oa, oc, rfl, _, _⟩ := hA.shape
  have HSIM := Lib.hid hsim
  clear hf4 HR3 HF3 HP3 hob hlo hA hops hsim hco hrs HV3
  go_wp2_with fail
  refine HRUN.out.mono ?_
  clear HRUN
  rintro e w5 ⟨out_, rfl, fb, hb, fr, hd, hst⟩
  have hff : Fr Dp w4 w5 := by obtain ⟨_, _, _, h⟩ := hst; exact h.ff
  have hFD : ∀ i, F i → ¬ Dp i := fun i hi hd => by have := HFb.out i hi; have := HD3.out i hd; omega
  have HR5 := Lib.hid ((cod6 b n inn out).fr HR4.out hff hFD)
  have HF5 := Lib.hid (HF4.out.trans hff (fun i hi => .inr (by have := HD3.out i hi; have := HSZ.out; omega)))
  have HCR := Lib.hid (CRep.of hst).inside
  have h45 := hff.size
  have HDX : Hid (∀ i, ((Dp i ∨ w4.heap.size ≤ i) ∧ i < w5.heap.size) → ¬ F i) := fun i hi hfi => by
    have h1 := HFb.out i hfi
    have h2 := HSZ.out
    have h3 := HS4.out
    rcases hi.1 with q | q
    · have := HD3.out i q; omega
    · omega
  have hcl : ((pol6 inn out).run ⟨List.replicate n 0, fun _ => false, [], [], []⟩ (List.replicate n 0) l).2.2.length < 1000000 := by omega
  have HCL := Lib.hid hcl
  have HLE : Hid (∀ c ∈ ((pol6 inn out).run ⟨List.replicate n 0, fun _ => false, [], [], []⟩ (List.replicate n 0) l).2.2, c.ghosts.length ≤ out) := Good.inv (I := fun t : T6 => t.gh.length ≤ out) (fun t c q => polT_inv inn out t c q) (fun t q => q) (Nat.zero_le _) HSIM.out.1
  clear hst hff hFD HR4 HF4 h45 hlen
  generalize ((pol6 inn out).run ⟨List.replicate n 0, fun _ => false, [], [], []⟩ (List.replicate n 0) l).2.2 = cs at *
  obtain ⟨va, vc, rfl, hvl, hvm⟩ : ∃ a c, out_ = .slice a cs.length c ∧ cs.length ≤ c ∧ c ≤ maxLen := by obtain ⟨gs, _, h2, _, _⟩ := HCR.out; exact h2.shape
  unfold maxLen at hvm
  go_wp2
  go_loopw [14] (fun i wr => ∃ k : Nat, k ≤ cs.length ∧ i = .int .i64 k ∧ Fr NoF w5 wr) (fun i _ => cs.length - (intOf i).toNat)
  case atStart => exact ⟨0, Nat.zero_le _, rfl, Fr.refl _ _⟩
  case round =>
   obtain ⟨k, hk, rfl, hfk⟩ := hrel
   by_cases hlt : k < cs.length
   · have hv1 := HCR.out.fr hfk (fun _ _ q => q)
     obtain ⟨bv, off, cv', gv, ev', _, _, hbv, hcell, hgv, hgX, hbX⟩ := hv1.at hlt
     simp only [Value.slice.injEq] at ev'
     obtain ⟨rfl, _, rfl⟩ := ev'
     have c6 : wr.cell? ⟨bv, off + k * 7 + 6, none⟩ = some gv := hcell 6 _ rfl
     obtain ⟨ga, gc, rfl, _, _⟩ := hgv.shape
     have hle := HLE.out cs[k] (List.getElem_mem hlt)
     generalize cs[k].ghosts.length = gl at *
     have HFK := Lib.hid hfk
     clear hv1 hcell hgv hgX hfk
     go_wp2
     go_roundw
     case rel => exact ⟨k + 1, by omega, by go_num, HFK.out⟩
     case measure => first | (simp [intOf]; done) | (simp [intOf]; omega)
   · obtain rfl : k = cs.length := by omega
     have HFK := Lib.hid hfk
     have HNO := Lib.hid (Nones_walk (HCR.out.fr hfk (fun _ _ q => q)) hcl HSIM.out.2.1.at)
     clear hcl hfk
     go_wp2_with fail
     refine HNO.out.mono ?_
     clear HNO
     rintro e w6 ⟨rfl, hf6⟩
     have HR6 : Hid (CRT b n inn out w6 t60 F) := (cod6 b n inn out).fr ((cod6 b n inn out).fr HR5.out HFK.out (fun _ _ q => q)) hf6 (fun _ _ q => q)
     have HC6 := Lib.hid ((HCR.out.fr HFK.out (fun _ _ q => q)).fr hf6 (fun _ _ q => q))
     have HF6 := Lib.hid ((HF5.out.trans HFK.out (fun _ q => q.elim)).trans hf6 (fun _ q => q.elim))
     have HRE := Lib.hid (Replay_walk (cod6 b n inn out) HR6.out HC6.out HDX.out (fun i hi => Nat.lt_of_lt_of_le hi.2 (Nat.le_trans HFK.out.size hf6.size)) HCL.out HSIM.out.1)
     clear hf6 HR5 HF5 HCR
     go_wp2_with fail
     refine HRE.out.mono ?_
     clear HRE
     rintro e w7 ⟨rfl, F', _, hf7, _⟩
     have HF7 := Lib.hid (HF6.out.trans hf7 (fun i hi => .inr (HF.out i hi)))
     clear hf7
     go_wp2
     go_returns
     exact ⟨rfl, HF7.out⟩
end Go.Proofs.Ytiemelhholbngaa
