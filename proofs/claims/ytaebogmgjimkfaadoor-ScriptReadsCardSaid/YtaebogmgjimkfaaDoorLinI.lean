/-
  Lines, the program's: Word, Told, Parse.
-/
import Derived.Test.YtaebogmgjimkfaaDoorLinH
namespace Go.Proofs.YtaebogmgjimkfaaDoor
open Go.RowKit Go.Maps Go.Sort
set_option linter.unusedVariables false
set_option linter.unusedSimpArgs false
set_option maxRecDepth 100000
/-- An error's word. -/
def wordL (e : Nat) : List UInt8 := [[111, 107], [97, 114, 103, 117, 109, 101, 110, 116], [102, 117, 108, 108], [117, 110, 107, 110, 111, 119, 110], [112, 105, 110, 110, 101, 100], [110, 111, 116, 112, 105, 110, 110, 101, 100], [110, 111, 102, 114, 97, 109, 101], [100, 105, 115, 107], [119, 111, 114, 100]].getD e []
theorem wordL_len : ∀ k, k < 9 → (wordL k).length ≤ 20 := by decide
set_option maxHeartbeats 8000000 in
theorem word_calls {w : World} {k : Nat} (hk : k < 9) : Calls Tryd.prog 28 #[.int .i64 (k : Nat)] w fun e w' => e = .returned (.string (bs (wordL k))) ∧ Fr NoF w w' := by
  match k, hk with
  | 0, _ | 1, _ | 2, _ | 3, _ | 4, _ | 5, _ | 6, _ | 7, _ | 8, _ =>
    go_enter Tryd.func28, Tryd.ntmps28
    go_wp2
    go_returns
    exact ⟨rfl, (Fr.refl _ _).alloc _⟩
end Go.Proofs.YtaebogmgjimkfaaDoor
