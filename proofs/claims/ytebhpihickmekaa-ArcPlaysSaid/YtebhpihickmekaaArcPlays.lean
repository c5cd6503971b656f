/-
  ArcPlays: whatever happens to pages, of however many frames, the one that goes is told, and those that are remembered; no more than there are frames. The walk.
-/
import Derived.Test.YtebhpihickmekaaArcSim
import Derived.Test.YtebhpihickmekaaArcY
import Derived.Test.YtebhpihickmekaaRef07G0
import Derived.Test.YtebhpihickmekaaFix
import Derived.Deep.RegionWith
namespace Go.Proofs.Ytebhpihickmekaa
open Go.RowKit
set_option linter.unusedVariables false

/-- What holds of each state holds of what each call was told to leave. -/
theorem Good.inv {τ : Type} {Q : Pol τ} {pre : τ → Cl → Prop} {I : τ → Prop} {B : Nat} (hI : ∀ t c, I t → I (Q.next t c)) (hB : ∀ t, I t → (Q.ghosts t).length ≤ B) : ∀ {cs : List Cl} {t : τ}, I t → Good Q pre t cs → ∀ c ∈ cs, c.ghosts.length ≤ B
  | [], _, _, _, c, hc => by cases hc
  | a :: cs, t, ht, hg, c, hc => by
    obtain ⟨_, _, _, _, _, g1, _, _, g2⟩ := hg
    rcases List.mem_cons.1 hc with e | hc'
    · rw [e, ← g1.length_eq]; exact hB _ (hI t a ht)
    · exact Good.inv hI hB (hI t a ht) g2 c hc'
theorem bnd_le {m : Nat} {b1 b2 : List Nat} : (bnd m b1 b2).1.length + (bnd m b1 b2).2.length ≤ b1.length + b2.length := by
  unfold bnd
  split
  · split <;> simp only [List.length_drop] <;> omega
  · exact Nat.le_refl _
theorem polA_inv (n : Nat) (t : T7) (c : Cl) (h : t.b1.length + t.b2.length ≤ n) : ((polA n).next t c).b1.length + ((polA n).next t c).b2.length ≤ n := by
  unfold Pol.next
  split
  · show (t.miss n c.page).b1.length + (t.miss n c.page).b2.length ≤ n
    unfold T7.miss
    split
    · exact h
    · split
      · exact h
      · split
        · show (t.b1.drop 1).length + t.b2.length ≤ n
          rw [List.length_drop]; omega
        · split
          · show t.b1.length + (t.b2.drop 1).length ≤ n
            rw [List.length_drop]; omega
          · exact h
  · split
    · show (t.acc c.frame c.page).b1.length + (t.acc c.frame c.page).b2.length ≤ n
      unfold T7.acc; split
      · exact h
      · split
        · exact Nat.le_trans (away_le2 _ _ _) h
        · exact h
    · split
      · show (t.setE c.frame c.on).b1.length + (t.setE c.frame c.on).b2.length ≤ n
        unfold T7.setE; split <;> exact h
      · split
        · split
          · exact h
          · show (match t.goes c.page with | none => t | some f => t.gone n c.page f).b1.length + (match t.goes c.page with | none => t | some f => t.gone n c.page f).b2.length ≤ n
            split
            · exact h
            · rename_i f _
              unfold T7.gone
              obtain ⟨_, e1, e2, _⟩ := rem7_page (if 0 ≤ sideN t.b1 t.b2 c.page ∨ t.nw.length < n then t.keep n f else t) f
              rw [e1, e2]
              split
              · refine bnd_len ?_
                unfold T7.put
                split <;> simp only [List.length_append, List.length_singleton] <;> omega
              · exact h
        · show (t.rem c.frame).b1.length + (t.rem c.frame).b2.length ≤ n
          obtain ⟨_, e1, e2, _⟩ := rem7_page t c.frame
          rw [e1, e2]; exact h

theorem rep_getD (n f : Nat) : (List.replicate n 0).getD f 0 = 0 := by
  rw [List.getD_eq_getElem?_getD, List.getElem?_replicate]
  split <;> rfl
theorem CRep.inside {w : World} {v : Value} {cs : List Cl} {X : Nat → Prop} (h : CRep w v cs X) : CRep w v cs (fun i => X i ∧ i < w.heap.size) := by
  obtain ⟨gs, h1, h2, h3, h4⟩ := h
  exact ⟨gs, h1, h2, fun i c g e1 e2 => ⟨(h3 i c g e1 e2).1, fun b hb => ⟨(h3 i c g e1 e2).2 b hb, (h3 i c g e1 e2).1.lt b hb⟩⟩, fun b hb => ⟨h4 b hb, h2.lt b hb⟩⟩

set_option maxRecDepth 100000 in
set_option maxHeartbeats 4000000 in
theorem playsA_walk (SYS0 : ∀ pb n : Nat, RefSys (pol7 n) (PR7 pb n) pb n co7) (a0 a2 : Int) (v : Value) (zs : List (Int × Int)) (w : World) (hv : ArgQ w v zs) :
    Calls Try.prog 3 #[.int .i64 a0, v, .int .i64 a2] w fun e w' => e = .returned (.bool true) ∧ Fr NoF w w' := by
  obtain ⟨n, hn1, hn2, en⟩ := modk1 a0 (k := 7) (by decide) (by decide)
  obtain ⟨m, hm1, hm2, em⟩ := modk1 a2 (k := 18) (by decide) (by decide)
  obtain ⟨sa, sc, rfl, _, _⟩ := hv.1
  have HV := Lib.hid hv
  have EN := Lib.hid en
  have EM := Lib.hid em
  have N := Lib.hid (ar_new_yes n w (by omega) (by omega))
  have SYS := Lib.hid SYS0
  clear en em hv SYS0
  go_enter Try.func3, Try.ntmps3
  go_wp2_with fail
  rw [EN.out, EM.out]
  refine N.out.mono ?_
  clear N
  rintro e w1 ⟨b, F, rfl, hR1, hF, hf1⟩
  have HF := Lib.hid hF
  have HR1 := Lib.hid hR1
  have HF1 := Lib.hid hf1
  clear hF hR1 hf1
  go_wp2_with fail
  refine (toldA_calls _).mono ?_
  rintro e w2 ⟨rfl, hf2⟩
  have HR2 := Lib.hid ((cod7 b n).fr HR1.out hf2 (fun _ _ q => q))
  have HF2 := Lib.hid (HF1.out.trans hf2 (fun _ q => q.elim))
  clear hf2 HR1 HF1
  have HN := Lib.hid (s7_new n w2 (by omega))
  go_wp2_with fail
  refine HN.out.mono ?_
  clear HN
  rintro e w3 ⟨pb, Fp, Dp, rfl, hP3, hD3, hf3⟩
  have HR3 := Lib.hid ((cod7 b n).fr HR2.out hf3 (fun _ _ q => q))
  have HF3 := Lib.hid (HF2.out.trans hf3 (fun _ q => q.elim))
  have HP3 := Lib.hid hP3
  have HD3 := Lib.hid hD3
  have HFb := Lib.hid (fun i hi => (cod7 b n).lt HR2.out i hi)
  have HSZ := Lib.hid (And.intro HF2.out.size hf3.size)
  clear hf3 hP3 hD3 HR2 HF2
  have HV3 : Hid (ArgQ w3 (.slice sa zs.length sc) zs) := HV.out.keep HF3.out
  have HX := Lib.hid (Fix_walk HV3.out hm1 (by omega))
  go_wp2_with fail
  refine HX.out.mono ?_
  clear HX
  rintro e w4 ⟨out_4, rfl, l, hl, hlo, hA, hob, hf4⟩
  have HR4 := Lib.hid ((cod7 b n).fr HR3.out hf4 (fun _ _ q => q))
  have HF4 := Lib.hid (HF3.out.trans hf4 (fun _ q => q.elim))
  have HP4 := Lib.hid ((PRG_fr : PFr (PR7 pb n)).fr HP3.out hf4 (fun _ _ q => q))
  have HDl := Lib.hid ((PRG_fr : PFr (PR7 pb n)).lt HP3.out)
  have HS4 := Lib.hid hf4.size
  have HO := Lib.hid hob
  have HL := Lib.hid hlo
  have HA := Lib.hid hA
  have hops : ∀ o ∈ l, o.1 < 4 ∧ 1 ≤ o.2 ∧ o.2 < 4294967296 := fun o ho => by have := hlo o ho; exact ⟨this.1, this.2.1, by omega⟩
  have HOPS := Lib.hid hops
  have hco : co7 ⟨List.replicate n 0, fun _ => false, [], [], [], [], 0⟩ (List.replicate n 0) := trivial
  have hrs : RS7 n ⟨List.replicate n 0, fun _ => false, [], [], [], [], 0⟩ t70 (List.replicate n 0) := ⟨rfl, by simp, rfl, rfl, rfl, rfl, rfl, rfl, List.nodup_nil, List.nodup_nil, fun x hx => (by cases hx), fun f => ⟨fun q => (by rcases q with q | q <;> cases q), fun q => (q.2 (rep_getD n f)).elim⟩, fun f q => (by rcases q with q | q <;> cases q), fun f hf => (by cases hf), List.nodup_nil, Nat.zero_le _, Nat.zero_le _, fun f q => (by rcases q with q | q <;> cases q), fun f g q => (by rcases q with q | q <;> cases q), by omega⟩
  have HRUN := Lib.hid (Run_walk (SYS.out pb n) HP4.out hco (by omega) HA.out (fun b hb hd => by have := HO.out b hb; have := HDl.out b hd; omega) (by omega) HOPS.out)
  have hsim := (sim7 n).run (ops := l) (s := ⟨List.replicate n 0, fun _ => false, [], [], [], [], 0⟩) (t := t70) (fr := List.replicate n 0) hrs HOPS.out
  have hlen := (pol7 n).run_len ⟨List.replicate n 0, fun _ => false, [], [], [], [], 0⟩ (List.replicate n 0) l
  obtain ⟨oa, oc, rfl, _, _⟩ := hA.shape
  have HSIM := Lib.hid hsim
  clear hf4 HR3 HF3 hob hlo hA hops hsim hco hrs HV3
  go_wp2_with fail
  refine HRUN.out.mono ?_
  clear HRUN
  rintro e w5 ⟨out_, rfl, fb, hb, fr, hd, hst⟩
  have hff : Fr Dp w4 w5 := by obtain ⟨_, _, _, h⟩ := hst; exact h.ff
  have hFD : ∀ i, F i → ¬ Dp i := fun i hi hd => by have := HFb.out i hi; have := HD3.out i hd; omega
  have HR5 := Lib.hid ((cod7 b n).fr HR4.out hff hFD)
  have HF5 := Lib.hid (HF4.out.trans hff (fun i hi => .inr (by have := HD3.out i hi; have := HSZ.out; omega)))
  have HCR := Lib.hid (CRep.of hst).inside
  have h45 := hff.size
  have HDX : Hid (∀ i, ((Dp i ∨ w4.heap.size ≤ i) ∧ i < w5.heap.size) → ¬ F i) := fun i hi hfi => by
    have h1 := HFb.out i hfi
    have h2 := HSZ.out
    have h3 := HS4.out
    rcases hi.1 with q | q
    · have := HD3.out i q; omega
    · omega
  have hcl : ((pol7 n).run ⟨List.replicate n 0, fun _ => false, [], [], [], [], 0⟩ (List.replicate n 0) l).2.2.length < 1000000 := by omega
  have HCL := Lib.hid hcl
  have HLE : Hid (∀ c ∈ ((pol7 n).run ⟨List.replicate n 0, fun _ => false, [], [], [], [], 0⟩ (List.replicate n 0) l).2.2, c.ghosts.length ≤ n) := Good.inv (I := fun t : T7 => t.b1.length + t.b2.length ≤ n) (fun t c q => polA_inv n t c q) (fun t q => by show (t.b1 ++ t.b2).length ≤ n; rw [List.length_append]; exact q) (Nat.zero_le _) HSIM.out.1
  obtain ⟨gf, hgf1, hgf2, hgf3, hpb⟩ : ∃ gf : Nat, w5.cell? ⟨pb, 7, none⟩ = some (.int .i64 gf) ∧ gf = ((pol7 n).run ⟨List.replicate n 0, fun _ => false, [], [], [], [], 0⟩ (List.replicate n 0) l).1.goal ∧ gf ≤ n ∧ pb < w5.heap.size := by
    obtain ⟨_, _, _, h⟩ := hst
    obtain ⟨gb, ob, hc, hg, hh, _, _⟩ := h.pr
    exact ⟨_, hg.c 7 (by omega) hh.c7, rfl, hh.gl, hg.hd.lt⟩
  have hpF : ¬ F pb := fun q => by
    obtain ⟨gb, ob, hc, hg, hh, _, hD⟩ := HP3.out
    have h1 := HFb.out pb q
    have h2 := HD3.out pb ((hD pb).2 (.inl (.inl rfl)))
    omega
  have HTGO : Hid (((polA n).nexts t70 ((pol7 n).run ⟨List.replicate n 0, fun _ => false, [], [], [], [], 0⟩ (List.replicate n 0) l).2.2).goal = gf) := by
    unfold Hid
    rw [hgf2]; exact HSIM.out.2.2.2.go
  have HGC : Hid (∀ w', Fr F w5 w' → w'.cell? ⟨pb, 7, none⟩ = some (.int .i64 gf) ∧ pb < w'.heap.size) := fun w' f => ⟨(f.cell (p := ⟨pb, 7, none⟩) hpb hpF).trans hgf1, Nat.lt_of_lt_of_le hpb f.size⟩
  clear hst hff hFD HR4 HF4 h45 hlen hgf1 hgf2 hpb hpF
  generalize ((pol7 n).run ⟨List.replicate n 0, fun _ => false, [], [], [], [], 0⟩ (List.replicate n 0) l).2.2 = cs at *
  obtain ⟨va, vc, rfl, hvl, hvm⟩ : ∃ a c, out_ = .slice a cs.length c ∧ cs.length ≤ c ∧ c ≤ maxLen := by obtain ⟨gs, _, h2, _, _⟩ := HCR.out; exact h2.shape
  unfold maxLen at hvm
  go_wp2
  go_loopw [13] (fun i wr => ∃ k : Nat, k ≤ cs.length ∧ i = .int .i64 k ∧ Fr NoF w5 wr) (fun i _ => cs.length - (intOf i).toNat)
  case atStart => exact ⟨0, Nat.zero_le _, rfl, Fr.refl _ _⟩
  case round =>
   obtain ⟨k, hk, rfl, hfk⟩ := hrel
   by_cases hlt : k < cs.length
   · have hv1 := HCR.out.fr hfk (fun _ _ q => q)
     obtain ⟨bv, off, cv', gv, ev', _, _, hbv, hcell, hgv, hgX, hbX⟩ := hv1.at hlt
     simp only [Value.slice.injEq] at ev'
     obtain ⟨rfl, _, rfl⟩ := ev'
     have c6 : wr.cell? ⟨bv, off + k * 7 + 6, none⟩ = some gv := hcell 6 _ rfl
     obtain ⟨ga, gc, rfl, _, _⟩ := hgv.shape
     have hle := HLE.out cs[k] (List.getElem_mem hlt)
     generalize cs[k].ghosts.length = gl at *
     have HFK := Lib.hid hfk
     clear hv1 hcell hgv hgX hfk
     go_wp2
     go_roundw
     case rel => exact ⟨k + 1, by omega, by go_num, HFK.out⟩
     case measure => first | (simp [intOf]; done) | (simp [intOf]; omega)
   · obtain rfl : k = cs.length := by omega
     have HFK := Lib.hid hfk
     have HNO : Hid (∀ w', Fr NoF w5 w' → Calls Try.prog 10 #[.slice va cs.length vc] w' fun e w'' => e = .returned (.bool true) ∧ Fr NoF w' w'') := fun w' f => Nones_walk (HCR.out.fr f (fun _ _ q => q)) hcl HSIM.out.2.1.at
     have HRE : Hid (∀ w', Fr NoF w5 w' → Calls Try.prog 11 #[.iface 24 (.pointer (some ⟨b, 0, none⟩)), .slice va cs.length vc] w' fun e w'' => e = .returned (.bool true) ∧ (∃ F', CRA b n w'' ((polA n).nexts t70 cs) F') ∧ Fr F w' w'') := fun w' f =>
       (Replay_walk (cod7 b n) ((cod7 b n).fr HR5.out f (fun _ _ q => q)) (HCR.out.fr f (fun _ _ q => q)) HDX.out (fun i hi => Nat.lt_of_lt_of_le hi.2 f.size) HCL.out HSIM.out.1).mono fun e w'' ⟨he, F', h1, h2, _⟩ => ⟨he, ⟨F', h1⟩, h2⟩
     have HTG : Hid (∀ w', (∃ F', CRA b n w' ((polA n).nexts t70 cs) F') → Calls Try.prog 12 #[.pointer (some ⟨b, 0, none⟩)] w' fun e w'' => e = .returned (.int .i64 (gf : Nat)) ∧ w' = w'') := by
       rintro w' ⟨F', A, k1, k2, sp, gp, h, hi, hF⟩
       rw [← HTGO.out]
       exact ar_target h
     have y1 : decide (gf ≤ n) = true := by simp [hgf3]
     have y2 : (gf : Int) ≤ (n : Int) := by omega
     have y3 : 0 ≤ (gf : Int) := by omega
     clear hcl hfk HCR HSIM HLE HDX HR5 HCL
     go_wp2_with fail
     go_region_with (first
       | (go_at_call 10; (with_reducible refine (HNO.out _ (by repeat (first | exact HFK.out | apply Fr.drew))).mono ?_); rintro e w6 ⟨rfl, hf6⟩; have HF6 : Hid (Fr NoF w5 w6) := Fr.trans (F := NoF) (by repeat (first | exact HFK.out | apply Fr.drew)) hf6 (fun _ q => q.elim); clear hf6)
       | (go_at_call 11; (with_reducible refine (HRE.out _ (by repeat (first | exact HF6.out | apply Fr.drew))).mono ?_); rintro e w7 ⟨rfl, hc7, hf7⟩; have hF7 : Fr F w5 w7 := Fr.trans (F := F) (by repeat (first | exact HF6.out.mono (fun _ q => q.elim) | apply Fr.drew)) hf7 (fun _ q => .inl q); obtain ⟨g7, l7⟩ := HGC.out w7 hF7; have HC7 := Lib.hid hc7; have HF7 := Lib.hid hF7; clear hc7 hf7 hF7)
       | (go_at_call 12; (with_reducible refine (HTG.out _ (by first | exact HC7.out | (obtain ⟨F', q⟩ := HC7.out; exact ⟨F', (cod7 b n).fr q ((Fr.refl NoF _).drew) (fun _ _ q => q)⟩))).mono ?_); rintro e w8 ⟨rfl, rfl⟩))
     all_goals
       go_wp2
       go_returns
       exact ⟨rfl, by first | exact HF5.out.trans HF7.out (fun i hi => .inr (HF.out i hi)) | exact (HF5.out.trans HF7.out (fun i hi => .inr (HF.out i hi))).drew⟩
end Go.Proofs.Ytebhpihickmekaa
