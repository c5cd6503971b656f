/-
  No cell of these rows narrows 'for every input' (looked for: loops, veiled, ifaces, maps, wideKeys, modest, calm, conditions, laid).
  DERIVED. THE GIVEN ROWS OF THIS SEAT. 2 by the template 'for every input the law returns true; each argument reads behind the call as it read before'; 0 by the template 'total and deterministic' (their statements: YtiemelhholbngaaTotals.lean).
  GIVEN WITH THE SEED: the statements are not yours to turn. If you find one false, say at which input.
  Laid BY PROGRAM, IN A SANDBOX (cutbox-rows.mjs): the forced cells as the released guide's own fill.sh prints them over the translation 149106ffd39d907b… (all of the seat's roots in one cut). By AI agents, Wed Nov 11 2026. No macro, syntax, notation, axiom, sorry.
-/
import Derived.Test.YtiemelhholbngaaChecked
import GoSem.Claim
import GoSem.ClaimJoined
import GoSem.ClaimMapViews
import Derived.JoinedTies
import Derived.KernelRfl
namespace Go.Proofs.Ytiemelhholbngaa
/- THE CELL 'sum', in the pinned program and in every row, IS THE sha256 OF THE DUMP (.gsa) THAT YtiemelhholbngaaProg.lean LOADS. Nothing in Lean hashes anything: it is a label: what it is worth is what the hold of that sum in a sandbox is worth. -/
noncomputable def Try.pinned : Pinned := { name := "ytiemelhholbngaa", sum := "149106ffd39d907bb1440079a65093574e91e988232fd116d69858eabb7e095e", checked := Try.checked }
namespace Rows
def none {H : Type} : Left H := { results := [], args := [] }

/-- 'hatchecklaw06.TwoqPlays': WHATEVER THE INPUT: true; the input reads as it did. -/
def twoqPlaysSpec : ChangeSpec := { name := "twoqPlays", fn := fun _ => fun
  | [d1, d2, d3] => { results := [.lit (.bool true)], args := [d1, d2, d3] }
  | _ => none }
def twoqPlaysRow : OpenClaim := { program := "ytiemelhholbngaa", sum := "149106ffd39d907bb1440079a65093574e91e988232fd116d69858eabb7e095e", func := "hatcheck/hatchecklaw06.TwoqPlays", spec := "twoqPlays", unfollowed := true, recurses := true, apart := false }
def TwoqPlaysSaid : Prop := twoqPlaysRow.holds Try.pinned (OpenSpec.ofChange twoqPlaysSpec)

/-- ITS FALSE NEIGHBOUR: 'it returns false'. Refute it at one input. -/
def twoqPlaysWrong : ChangeSpec := { name := "twoqPlays", fn := fun _ => fun
  | [d1, d2, d3] => { results := [.lit (.bool false)], args := [d1, d2, d3] }
  | _ => none }
def TwoqPlaysWrongFalsely : Prop := twoqPlaysRow.holds Try.pinned (OpenSpec.ofChange twoqPlaysWrong)

/-- 'hatchecklaw06.TwoqNews': WHATEVER THE INPUT: true; the input reads as it did. -/
def twoqNewsSpec : ChangeSpec := { name := "twoqNews", fn := fun _ => fun
  | [d1, d2, d3] => { results := [.lit (.bool true)], args := [d1, d2, d3] }
  | _ => none }
def twoqNewsRow : OpenClaim := { program := "ytiemelhholbngaa", sum := "149106ffd39d907bb1440079a65093574e91e988232fd116d69858eabb7e095e", func := "hatcheck/hatchecklaw06.TwoqNews", spec := "twoqNews", apart := false }
def TwoqNewsSaid : Prop := twoqNewsRow.holds Try.pinned (OpenSpec.ofChange twoqNewsSpec)

/-- ITS FALSE NEIGHBOUR: 'it returns false'. Refute it at one input. -/
def twoqNewsWrong : ChangeSpec := { name := "twoqNews", fn := fun _ => fun
  | [d1, d2, d3] => { results := [.lit (.bool false)], args := [d1, d2, d3] }
  | _ => none }
def TwoqNewsWrongFalsely : Prop := twoqNewsRow.holds Try.pinned (OpenSpec.ofChange twoqNewsWrong)

/- THE SECOND FORM. 'bulk': how many values and letters a reading holds, each counted each time it is reached (what is shared counts as often as it is met; a slice's spare places count too). A statement '..UptoSaid' is the law's where the arguments, and the package variables that the reading takes, are together of bulk at most 1048576: NARROWER than '..Said'. Prove '..Said' where nothing that the law and all that it calls make is longer than what came in: it says more and counts as full. Else prove '..UptoSaid'. A law counts once. -/
mutual
def uptoBulk {H : Type} : DataW H → Nat
  | .lit (.string bytes) => bytes.length + 1
  | .lit _ => 1
  | .nil => 1
  | .ptr d => uptoBulk d + 1
  | .slice elems spare => uptoBulkAll elems + uptoBulkAll spare + 1
  | .agg parts => uptoBulkAll parts + 1
  | .iface _ d => uptoBulk d + 1
  | .map entries => uptoBulkEntries entries + 1
  | .held _ => 1
def uptoBulkAll {H : Type} : List (DataW H) → Nat
  | [] => 0
  | d :: r => uptoBulk d + uptoBulkAll r
def uptoBulkEntries {H : Type} : List (Lit × DataW H) → Nat
  | [] => 0
  | x :: r => uptoBulkEntry x + uptoBulkEntries r
def uptoBulkEntry {H : Type} : Lit × DataW H → Nat
  | (.string bytes, d) => bytes.length + uptoBulk d + 1
  | (_, d) => uptoBulk d + 1
 end
def uptoSmall : (H : Type) → List (DataW H) → Bool := fun _ ds => decide (uptoBulkAll ds ≤ 1048576)
def OpenSpec.upto (s : _root_.Go.ChangeSpec) : _root_.Go.OpenSpec := { _root_.Go.OpenSpec.ofChange s with cond := some uptoSmall }

/-- 'hatchecklaw06.TwoqPlays', WHERE WHAT IT READS IS OF BULK AT MOST 1048576: true; the input reads as it did. -/
def twoqPlaysUptoRow : OpenClaim := { program := "ytiemelhholbngaa", sum := "149106ffd39d907bb1440079a65093574e91e988232fd116d69858eabb7e095e", func := "hatcheck/hatchecklaw06.TwoqPlays", spec := "twoqPlays", unfollowed := true, recurses := true, apart := false, narrowed := true }
def TwoqPlaysUptoSaid : Prop := twoqPlaysUptoRow.holds Try.pinned (OpenSpec.upto twoqPlaysSpec)

/-- 'hatchecklaw06.TwoqNews', WHERE WHAT IT READS IS OF BULK AT MOST 1048576: true; the input reads as it did. -/
def twoqNewsUptoRow : OpenClaim := { program := "ytiemelhholbngaa", sum := "149106ffd39d907bb1440079a65093574e91e988232fd116d69858eabb7e095e", func := "hatcheck/hatchecklaw06.TwoqNews", spec := "twoqNews", apart := false, narrowed := true }
def TwoqNewsUptoSaid : Prop := twoqNewsUptoRow.holds Try.pinned (OpenSpec.upto twoqNewsSpec)

end Rows
end Go.Proofs.Ytiemelhholbngaa
