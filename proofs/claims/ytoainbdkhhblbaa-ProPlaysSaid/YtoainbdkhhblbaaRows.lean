/-
  No cell of these rows narrows 'for every input' (looked for: loops, veiled, ifaces, maps, wideKeys, modest, calm, conditions, laid).
  DERIVED. THE GIVEN ROWS OF THIS SEAT. 3 by the template 'for every input the law returns true; each argument reads behind the call as it read before'; 0 by the template 'total and deterministic' (their statements: YtoainbdkhhblbaaTotals.lean).
  GIVEN WITH THE SEED: the statements are not yours to turn. If you find one false, say at which input.
  Laid BY PROGRAM, IN A SANDBOX (cutbox-rows.mjs): the forced cells as the released guide's own fill.sh prints them over the translation 1711a04acede2955… (all of the seat's roots in one cut). By AI agents, Wed Nov 11 2026. No macro, syntax, notation, axiom, sorry.
-/
import Derived.Test.YtoainbdkhhblbaaChecked
import GoSem.Claim
import GoSem.ClaimJoined
import GoSem.ClaimMapViews
import Derived.JoinedTies
import Derived.KernelRfl
namespace Go.Proofs.Ytoainbdkhhblbaa
/- THE CELL 'sum', in the pinned program and in every row, IS THE sha256 OF THE DUMP (.gsa) THAT YtoainbdkhhblbaaProg.lean LOADS. Nothing in Lean hashes anything: it is a label: what it is worth is what the hold of that sum in a sandbox is worth. -/
noncomputable def Try.pinned : Pinned := { name := "ytoainbdkhhblbaa", sum := "1711a04acede2955a61ca876a65f0412dfa465100019229e8129784b6d1f8534", checked := Try.checked }
namespace Rows
def none {H : Type} : Left H := { results := [], args := [] }

/-- 'hatchecklaw08.ProPlays': WHATEVER THE INPUT: true; the input reads as it did. -/
def proPlaysSpec : ChangeSpec := { name := "proPlays", fn := fun _ => fun
  | [d1, d2, d3] => { results := [.lit (.bool true)], args := [d1, d2, d3] }
  | _ => none }
def proPlaysRow : OpenClaim := { program := "ytoainbdkhhblbaa", sum := "1711a04acede2955a61ca876a65f0412dfa465100019229e8129784b6d1f8534", func := "hatcheck/hatchecklaw08.ProPlays", spec := "proPlays", unfollowed := true, recurses := true, apart := false }
def ProPlaysSaid : Prop := proPlaysRow.holds Try.pinned (OpenSpec.ofChange proPlaysSpec)

/-- ITS FALSE NEIGHBOUR: 'it returns false'. Refute it at one input. -/
def proPlaysWrong : ChangeSpec := { name := "proPlays", fn := fun _ => fun
  | [d1, d2, d3] => { results := [.lit (.bool false)], args := [d1, d2, d3] }
  | _ => none }
def ProPlaysWrongFalsely : Prop := proPlaysRow.holds Try.pinned (OpenSpec.ofChange proPlaysWrong)

/-- 'hatchecklaw08.ProNews': WHATEVER THE INPUT: true; the input reads as it did. -/
def proNewsSpec : ChangeSpec := { name := "proNews", fn := fun _ => fun
  | [d] => { results := [.lit (.bool true)], args := [d] }
  | _ => none }
def proNewsRow : OpenClaim := { program := "ytoainbdkhhblbaa", sum := "1711a04acede2955a61ca876a65f0412dfa465100019229e8129784b6d1f8534", func := "hatcheck/hatchecklaw08.ProNews", spec := "proNews", apart := false }
def ProNewsSaid : Prop := proNewsRow.holds Try.pinned (OpenSpec.ofChange proNewsSpec)

/-- ITS FALSE NEIGHBOUR: 'it returns false'. Refute it at one input. -/
def proNewsWrong : ChangeSpec := { name := "proNews", fn := fun _ => fun
  | [d] => { results := [.lit (.bool false)], args := [d] }
  | _ => none }
def ProNewsWrongFalsely : Prop := proNewsRow.holds Try.pinned (OpenSpec.ofChange proNewsWrong)

/-- 'hatchecklaw08.ProTargets': WHATEVER THE INPUT: true; the input reads as it did. -/
def proTargetsSpec : ChangeSpec := { name := "proTargets", fn := fun _ => fun
  | [d1, d2] => { results := [.lit (.bool true)], args := [d1, d2] }
  | _ => none }
def proTargetsRow : OpenClaim := { program := "ytoainbdkhhblbaa", sum := "1711a04acede2955a61ca876a65f0412dfa465100019229e8129784b6d1f8534", func := "hatcheck/hatchecklaw08.ProTargets", spec := "proTargets", unfollowed := true, recurses := true, apart := false }
def ProTargetsSaid : Prop := proTargetsRow.holds Try.pinned (OpenSpec.ofChange proTargetsSpec)

/-- ITS FALSE NEIGHBOUR: 'it returns false'. Refute it at one input. -/
def proTargetsWrong : ChangeSpec := { name := "proTargets", fn := fun _ => fun
  | [d1, d2] => { results := [.lit (.bool false)], args := [d1, d2] }
  | _ => none }
def ProTargetsWrongFalsely : Prop := proTargetsRow.holds Try.pinned (OpenSpec.ofChange proTargetsWrong)

/- THE SECOND FORM. 'bulk': how many values and letters a reading holds, each counted each time it is reached (what is shared counts as often as it is met; a slice's spare places count too). A statement '..UptoSaid' is the law's where the arguments, and the package variables that the reading takes, are together of bulk at most 1048576: NARROWER than '..Said'. Prove '..Said' where nothing that the law and all that it calls make is longer than what came in: it says more and counts as full. Else prove '..UptoSaid'. A law counts once. -/
mutual
def uptoBulk {H : Type} : DataW H → Nat
  | .lit (.string bytes) => bytes.length + 1
  | .lit _ => 1
  | .nil => 1
  | .ptr d => uptoBulk d + 1
  | .slice elems spare => uptoBulkAll elems + uptoBulkAll spare + 1
  | .agg parts => uptoBulkAll parts + 1
  | .iface _ d => uptoBulk d + 1
  | .map entries => uptoBulkEntries entries + 1
  | .held _ => 1
def uptoBulkAll {H : Type} : List (DataW H) → Nat
  | [] => 0
  | d :: r => uptoBulk d + uptoBulkAll r
def uptoBulkEntries {H : Type} : List (Lit × DataW H) → Nat
  | [] => 0
  | x :: r => uptoBulkEntry x + uptoBulkEntries r
def uptoBulkEntry {H : Type} : Lit × DataW H → Nat
  | (.string bytes, d) => bytes.length + uptoBulk d + 1
  | (_, d) => uptoBulk d + 1
 end
def uptoSmall : (H : Type) → List (DataW H) → Bool := fun _ ds => decide (uptoBulkAll ds ≤ 1048576)
def OpenSpec.upto (s : _root_.Go.ChangeSpec) : _root_.Go.OpenSpec := { _root_.Go.OpenSpec.ofChange s with cond := some uptoSmall }

/-- 'hatchecklaw08.ProPlays', WHERE WHAT IT READS IS OF BULK AT MOST 1048576: true; the input reads as it did. -/
def proPlaysUptoRow : OpenClaim := { program := "ytoainbdkhhblbaa", sum := "1711a04acede2955a61ca876a65f0412dfa465100019229e8129784b6d1f8534", func := "hatcheck/hatchecklaw08.ProPlays", spec := "proPlays", unfollowed := true, recurses := true, apart := false, narrowed := true }
def ProPlaysUptoSaid : Prop := proPlaysUptoRow.holds Try.pinned (OpenSpec.upto proPlaysSpec)

/-- 'hatchecklaw08.ProNews', WHERE WHAT IT READS IS OF BULK AT MOST 1048576: true; the input reads as it did. -/
def proNewsUptoRow : OpenClaim := { program := "ytoainbdkhhblbaa", sum := "1711a04acede2955a61ca876a65f0412dfa465100019229e8129784b6d1f8534", func := "hatcheck/hatchecklaw08.ProNews", spec := "proNews", apart := false, narrowed := true }
def ProNewsUptoSaid : Prop := proNewsUptoRow.holds Try.pinned (OpenSpec.upto proNewsSpec)

/-- 'hatchecklaw08.ProTargets', WHERE WHAT IT READS IS OF BULK AT MOST 1048576: true; the input reads as it did. -/
def proTargetsUptoRow : OpenClaim := { program := "ytoainbdkhhblbaa", sum := "1711a04acede2955a61ca876a65f0412dfa465100019229e8129784b6d1f8534", func := "hatcheck/hatchecklaw08.ProTargets", spec := "proTargets", unfollowed := true, recurses := true, apart := false, narrowed := true }
def ProTargetsUptoSaid : Prop := proTargetsUptoRow.holds Try.pinned (OpenSpec.upto proTargetsSpec)

end Rows
end Go.Proofs.Ytoainbdkhhblbaa
