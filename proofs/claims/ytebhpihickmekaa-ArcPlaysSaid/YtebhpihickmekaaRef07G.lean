/-
  Package hatcheckref07's P is what Run is told of; New.
-/
import Derived.Test.YtebhpihickmekaaRef07G0
import Derived.Test.YtebhpihickmekaaRef07FA
import Derived.Test.YtebhpihickmekaaRef07FB
import Derived.Test.YtebhpihickmekaaRef07FC
namespace Go.Proofs.Ytebhpihickmekaa
open Go.RowKit
set_option linter.unusedVariables false

theorem s7_victim_yes {w : World} {pb gb ob n : Nat} {hc : Nat → Value} {s : S7} (h : PG w pb 8 gb ob n hc (rows7 s) s.page s.on) (hh : H7 n s gb ob hc) {id f : Nat} (hv : s.vic id = some f) : Calls Try.prog 23 #[.pointer (some ⟨pb, 0, none⟩), .int .u32 id] w fun e w' => e = .returned (.int .i64 f) ∧ Res7 w pb gb ob n hc s (s.gone n id f) w' := by
  by_cases hA : f ∈ s.t1 ∧ s.t1.length = n
  · by_cases hm : id ∈ s.b1
    · exact s7_victim_yesB h hh hv hA hm
    · exact s7_victim_yesC h hh hv hA hm
  · exact s7_victim_yesA h hh hv hA
theorem sys7 {pb n : Nat} : RefSys (pol7 n) (PR7 pb n) pb n co7 where
  pf := PRG_fr
  cN := by
    rintro w s F D ⟨gb, ob, hc, h, hh, hF, hD⟩
    exact h.c 0 (by omega) hh.c0
  miss := by
    rintro w s F D fr id ⟨gb, ob, hc, h, hh, hF, hD⟩ _ _ _ _
    exact ⟨trivial, (s7_miss h hh id).mono fun e w' ⟨he, hr⟩ => ⟨he, hr.left hF hD⟩⟩
  access := by
    rintro w s F D fr a id ⟨gb, ob, hc, h, hh, hF, hD⟩ _ ha _ _ _
    refine ⟨trivial, ?_⟩
    have key : Calls Try.prog 24 #[.pointer (some ⟨pb, 0, none⟩), .int .i64 a, .int .u32 id] w fun e w' => e = .returned (.tuple #[]) ∧ Res7 w pb gb ob n hc s (s.access a id) w' := by
      by_cases hor : a ∈ s.t1 ∨ a ∈ s.t2 ∨ id ∈ s.b1 ∨ id ∈ s.b2
      · exact s7_access_again h hh ha id hor
      · exact s7_access_new h hh ha id hor
    exact key.mono fun e w' ⟨he, hr⟩ => ⟨he, hr.left hF hD⟩
  set := by
    rintro w s F D fr a x v ⟨gb, ob, hc, h, hh, hF, hD⟩ _ ha _ _
    exact ⟨trivial, (s7_set h hh ha v).mono fun e w' ⟨he, hr⟩ => ⟨he, hr.left hF hD⟩⟩
  victimNo := by
    rintro w s F D fr id ⟨gb, ob, hc, h, hh, hF, hD⟩ _ _ _ _ hv
    exact (s7_victim_no h hh hv).mono fun e w' ⟨he, hf⟩ => ⟨he, F, D, ⟨gb, ob, hc, h.fr0 hf, hh, hF, hD⟩, hf.mono (fun _ q => q.elim), fun i hi => .inl hi, fun i hi => .inl hi⟩
  victimYes := by
    rintro w s F D fr id a ⟨gb, ob, hc, h, hh, hF, hD⟩ _ _ _ _ hv
    have hv' : s.vic id = some a := hv
    have ha : a < n := by
      rcases vic7_some hv' with q | q
      · exact hh.l1 a q
      · exact hh.l2 a q
    have hg : (pol7 n).gone s id = s.gone n id a := by show (match s.vic id with | none => s | some f => s.gone n id f) = _; rw [hv']
    rw [hg]
    exact ⟨ha, trivial, (s7_victim_yes h hh hv').mono fun e w' ⟨he, hr⟩ => ⟨he, hr.left hF hD⟩⟩
  remove := by
    rintro w s F D fr a x ⟨gb, ob, hc, h, hh, hF, hD⟩ _ ha _ _
    exact ⟨trivial, (s7_remove h hh ha).mono fun e w' ⟨he, hr⟩ => ⟨he, hr.left hF hD⟩⟩
  seen := by
    rintro w s F D c ⟨gb, ob, hc, h, hh, hF, hD⟩ h0 hg
    have hsee : (pol7 n).see s c = { c with size := cntF s.page s.on n, ghosts := s.b1 ++ s.b2 } := by
      show ({ c with size := cntF s.page s.on s.page.length, ghosts := s.b1 ++ s.b2 } : Cl) = _
      rw [h.pn]
    rw [hsee]
    refine (seen_gen h (by omega) hh.c0 hh.c1 hh.c2 (by omega) (gh := s.b1 ++ s.b2) (fun wr f => ?_) c h0 hg).mono fun e w' ⟨gv, he, hs, hb, hf⟩ => ⟨gv, he, hs, fun b q => (hb b q).imp (fun q => ⟨(hD b).2 q.1, fun f => q.2 ((hF b).1 f)⟩) id, hf⟩
    exact (s7_ghosts (h.fr0 f) hh).mono fun e w' ⟨gv, he, hs, hb, hf⟩ => ⟨gv, he, hs, fun b q => .inr (hb b q), hf⟩

end Go.Proofs.Ytebhpihickmekaa
