/-
  A method with a value receiver, called through an interface that holds a pointer: which function it is, and what it is handed. No program in sight.
-/
import Derived.WalkKit
import Derived.ChangeKeysEq
namespace Go.Proofs.YtmpjnphnljakiaaGreatDoor
open Go.RowKit

theorem run_underlying {P : Program} {t : TypeId} {d : TypeDesc} (w : World) (h : P.underlying t = some d) : (underlying t).run P w = .ok d w := by
  unfold underlying
  simp [go_sem, h]
theorem method_value {P : Program} {fuel : Nat} {t e : TypeId} {i : TypeInfo} {f : FuncId} {v : Value} {p : Addr} {w : World} {name : String} (hi : P.info? t = some i) (hm : (i.methods.find? (fun m => m.name == name)).map (fun m => (m.path.toList, m.func)) = some ([], some (f, false)))
    (hu : P.underlying t = some (.pointer e)) (hagg : (isAgg e).run P w = .ok false w) (hc : w.cell? p = some v) : (method (fuel + 1) t (.pointer (some p)) name).run P w = .ok (f, v) w := by
  obtain ⟨m, hm1, hm2⟩ := Option.map_eq_some_iff.1 hm
  simp only [Prod.mk.injEq] at hm2
  obtain ⟨hp, hf⟩ := hm2
  have hpe : m.path.isEmpty = true := by
    have : m.path = #[] := by apply Array.ext'; rw [hp]
    rw [this]; rfl
  unfold method
  simp only [Sem.run_bind, run_typeInfo _ hi, Result.andThen_ok, hm1, hp, follow, Sem.run_pure, hf, receiverAt, run_underlying _ hu, Place.get, hpe, if_true]
  have hw : (Builtin.ssaWrapNilChk_ #[t] t #[.pointer (some p), strVal "", strVal ((name.splitOn ".").getLastD name)]).run P w = .ok (.pointer (some p)) w := rfl
  have hl : (loadVar e p).run P w = .ok v w := by
    unfold loadVar
    rw [Sem.run_bind, hagg]
    simp [hc, go_sem]
  have ha : (asAddr (.pointer (some p))).run P w = .ok p w := rfl
  simp only [hw, Result.andThen_ok, ha, hl]
theorem method_ptr {P : Program} {fuel : Nat} {t e : TypeId} {i : TypeInfo} {f : FuncId} {p : Addr} {w : World} {name : String} (hi : P.info? t = some i) (hm : (i.methods.find? (fun m => m.name == name)).map (fun m => (m.path.toList, m.func)) = some ([], some (f, true)))
    (hu : P.underlying t = some (.pointer e)) : (method (fuel + 1) t (.pointer (some p)) name).run P w = .ok (f, .pointer (some p)) w := by
  obtain ⟨m, hm1, hm2⟩ := Option.map_eq_some_iff.1 hm
  simp only [Prod.mk.injEq] at hm2
  obtain ⟨hp, hf⟩ := hm2
  unfold method
  simp only [Sem.run_bind, run_typeInfo _ hi, Result.andThen_ok, hm1, hp, follow, Sem.run_pure, hf, receiverAt, run_underlying _ hu, Place.get]
theorem method_of {P : Program} {t : TypeId} {name : String} {f : FuncId} {b : Bool} (h : (P.info? t).bind (fun i => (i.methods.find? (fun m => m.name == name)).map (fun m => (m.path.toList, m.func))) = some ([], some (f, b))) :
    ∃ i, P.info? t = some i ∧ (i.methods.find? (fun m => m.name == name)).map (fun m => (m.path.toList, m.func)) = some ([], some (f, b)) := Option.bind_eq_some_iff.1 h
end Go.Proofs.YtmpjnphnljakiaaGreatDoor
