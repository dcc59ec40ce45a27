/-
  No cell of these rows narrows 'for every input' (looked for: loops, veiled, ifaces, maps, wideKeys, modest, calm, conditions, laid).
  DERIVED. THE GIVEN ROWS OF THIS SEAT. 6 by the template 'for every input the law returns true; each argument reads behind the call as it read before'; 0 by the template 'total and deterministic' (their statements: YticocaljgaegfaaTotals.lean).
  GIVEN WITH THE SEED: the statements are not yours to turn. If you find one false, say at which input.
  Laid BY PROGRAM, IN A SANDBOX (cutbox-rows.mjs): the forced cells as the released guide's own fill.sh prints them over the translation e83a4b8252af22bd… (all of the seat's roots in one cut). By AI agents, Wed Nov 11 2026. No macro, syntax, notation, axiom, sorry.
-/
import Derived.Test.YticocaljgaegfaaChecked
import GoSem.Claim
import GoSem.ClaimJoined
import GoSem.ClaimMapViews
import Derived.JoinedTies
import Derived.KernelRfl
namespace Go.Proofs.Yticocaljgaegfaa
/- THE CELL 'sum', in the pinned program and in every row, IS THE sha256 OF THE DUMP (.gsa) THAT YticocaljgaegfaaProg.lean LOADS. Nothing in Lean hashes anything: it is a label: what it is worth is what the hold of that sum in a sandbox is worth. -/
noncomputable def Try.pinned : Pinned := { name := "yticocaljgaegfaa", sum := "e83a4b8252af22bdb9aa366294734c050769106fd3f9c809cecf8ec23c94d534", checked := Try.checked }
namespace Rows
def none {H : Type} : Left H := { results := [], args := [] }

/-- 'thresherlaw07.BlockAll': WHATEVER THE INPUT: true; the input reads as it did. -/
def blockAllSpec : ChangeSpec := { name := "blockAll", fn := fun _ => fun
  | [d1, d2, d3] => { results := [.lit (.bool true)], args := [d1, d2, d3] }
  | _ => none }
def blockAllRow : OpenClaim := { program := "yticocaljgaegfaa", sum := "e83a4b8252af22bdb9aa366294734c050769106fd3f9c809cecf8ec23c94d534", func := "thresher/thresherlaw07.BlockAll", spec := "blockAll", unfollowed := true, recurses := true, apart := false }
def BlockAllSaid : Prop := blockAllRow.holds Try.pinned (OpenSpec.ofChange blockAllSpec)

/-- ITS FALSE NEIGHBOUR: 'it returns false'. Refute it at one input. -/
def blockAllWrong : ChangeSpec := { name := "blockAll", fn := fun _ => fun
  | [d1, d2, d3] => { results := [.lit (.bool false)], args := [d1, d2, d3] }
  | _ => none }
def BlockAllWrongFalsely : Prop := blockAllRow.holds Try.pinned (OpenSpec.ofChange blockAllWrong)

/-- 'thresherlaw07.BlockBack': WHATEVER THE INPUT: true; the input reads as it did. -/
def blockBackSpec : ChangeSpec := { name := "blockBack", fn := fun _ => fun
  | [d1, d2, d3] => { results := [.lit (.bool true)], args := [d1, d2, d3] }
  | _ => none }
def blockBackRow : OpenClaim := { program := "yticocaljgaegfaa", sum := "e83a4b8252af22bdb9aa366294734c050769106fd3f9c809cecf8ec23c94d534", func := "thresher/thresherlaw07.BlockBack", spec := "blockBack", unfollowed := true, recurses := true, apart := false }
def BlockBackSaid : Prop := blockBackRow.holds Try.pinned (OpenSpec.ofChange blockBackSpec)

/-- ITS FALSE NEIGHBOUR: 'it returns false'. Refute it at one input. -/
def blockBackWrong : ChangeSpec := { name := "blockBack", fn := fun _ => fun
  | [d1, d2, d3] => { results := [.lit (.bool false)], args := [d1, d2, d3] }
  | _ => none }
def BlockBackWrongFalsely : Prop := blockBackRow.holds Try.pinned (OpenSpec.ofChange blockBackWrong)

/-- 'thresherlaw07.BlockTurns': WHATEVER THE INPUT: true; the input reads as it did. -/
def blockTurnsSpec : ChangeSpec := { name := "blockTurns", fn := fun _ => fun
  | [d1, d2, d3] => { results := [.lit (.bool true)], args := [d1, d2, d3] }
  | _ => none }
def blockTurnsRow : OpenClaim := { program := "yticocaljgaegfaa", sum := "e83a4b8252af22bdb9aa366294734c050769106fd3f9c809cecf8ec23c94d534", func := "thresher/thresherlaw07.BlockTurns", spec := "blockTurns", unfollowed := true, recurses := true, apart := false }
def BlockTurnsSaid : Prop := blockTurnsRow.holds Try.pinned (OpenSpec.ofChange blockTurnsSpec)

/-- ITS FALSE NEIGHBOUR: 'it returns false'. Refute it at one input. -/
def blockTurnsWrong : ChangeSpec := { name := "blockTurns", fn := fun _ => fun
  | [d1, d2, d3] => { results := [.lit (.bool false)], args := [d1, d2, d3] }
  | _ => none }
def BlockTurnsWrongFalsely : Prop := blockTurnsRow.holds Try.pinned (OpenSpec.ofChange blockTurnsWrong)

/-- 'thresherlaw07.BlockNext': WHATEVER THE INPUT: true; the input reads as it did. -/
def blockNextSpec : ChangeSpec := { name := "blockNext", fn := fun _ => fun
  | [d] => { results := [.lit (.bool true)], args := [d] }
  | _ => none }
def blockNextRow : OpenClaim := { program := "yticocaljgaegfaa", sum := "e83a4b8252af22bdb9aa366294734c050769106fd3f9c809cecf8ec23c94d534", func := "thresher/thresherlaw07.BlockNext", spec := "blockNext", unfollowed := true, recurses := true, apart := false }
def BlockNextSaid : Prop := blockNextRow.holds Try.pinned (OpenSpec.ofChange blockNextSpec)

/-- ITS FALSE NEIGHBOUR: 'it returns false'. Refute it at one input. -/
def blockNextWrong : ChangeSpec := { name := "blockNext", fn := fun _ => fun
  | [d] => { results := [.lit (.bool false)], args := [d] }
  | _ => none }
def BlockNextWrongFalsely : Prop := blockNextRow.holds Try.pinned (OpenSpec.ofChange blockNextWrong)

/-- 'thresherlaw07.BlockRefuses': WHATEVER THE INPUT: true; the input reads as it did. -/
def blockRefusesSpec : ChangeSpec := { name := "blockRefuses", fn := fun _ => fun
  | [d1, d2, d3] => { results := [.lit (.bool true)], args := [d1, d2, d3] }
  | _ => none }
def blockRefusesRow : OpenClaim := { program := "yticocaljgaegfaa", sum := "e83a4b8252af22bdb9aa366294734c050769106fd3f9c809cecf8ec23c94d534", func := "thresher/thresherlaw07.BlockRefuses", spec := "blockRefuses", unfollowed := true, recurses := true, apart := false }
def BlockRefusesSaid : Prop := blockRefusesRow.holds Try.pinned (OpenSpec.ofChange blockRefusesSpec)

/-- ITS FALSE NEIGHBOUR: 'it returns false'. Refute it at one input. -/
def blockRefusesWrong : ChangeSpec := { name := "blockRefuses", fn := fun _ => fun
  | [d1, d2, d3] => { results := [.lit (.bool false)], args := [d1, d2, d3] }
  | _ => none }
def BlockRefusesWrongFalsely : Prop := blockRefusesRow.holds Try.pinned (OpenSpec.ofChange blockRefusesWrong)

/-- 'thresherlaw07.BlockOne': WHATEVER THE INPUT: true; the input reads as it did. -/
def blockOneSpec : ChangeSpec := { name := "blockOne", fn := fun _ => fun
  | [d1, d2] => { results := [.lit (.bool true)], args := [d1, d2] }
  | _ => none }
def blockOneRow : OpenClaim := { program := "yticocaljgaegfaa", sum := "e83a4b8252af22bdb9aa366294734c050769106fd3f9c809cecf8ec23c94d534", func := "thresher/thresherlaw07.BlockOne", spec := "blockOne", unfollowed := true, recurses := true, apart := false }
def BlockOneSaid : Prop := blockOneRow.holds Try.pinned (OpenSpec.ofChange blockOneSpec)

/-- ITS FALSE NEIGHBOUR: 'it returns false'. Refute it at one input. -/
def blockOneWrong : ChangeSpec := { name := "blockOne", fn := fun _ => fun
  | [d1, d2] => { results := [.lit (.bool false)], args := [d1, d2] }
  | _ => none }
def BlockOneWrongFalsely : Prop := blockOneRow.holds Try.pinned (OpenSpec.ofChange blockOneWrong)

/- THE SECOND FORM. 'bulk': how many values and letters a reading holds, each counted each time it is reached (what is shared counts as often as it is met; a slice's spare places count too). A statement '..UptoSaid' is the law's where the arguments, and the package variables that the reading takes, are together of bulk at most 1048576: NARROWER than '..Said'. Prove '..Said' where nothing that the law and all that it calls make is longer than what came in: it says more and counts as full. Else prove '..UptoSaid'. A law counts once. -/
mutual
def uptoBulk {H : Type} : DataW H → Nat
  | .lit (.string bytes) => bytes.length + 1
  | .lit _ => 1
  | .nil => 1
  | .ptr d => uptoBulk d + 1
  | .slice elems spare => uptoBulkAll elems + uptoBulkAll spare + 1
  | .agg parts => uptoBulkAll parts + 1
  | .iface _ d => uptoBulk d + 1
  | .map entries => uptoBulkEntries entries + 1
  | .held _ => 1
def uptoBulkAll {H : Type} : List (DataW H) → Nat
  | [] => 0
  | d :: r => uptoBulk d + uptoBulkAll r
def uptoBulkEntries {H : Type} : List (Lit × DataW H) → Nat
  | [] => 0
  | x :: r => uptoBulkEntry x + uptoBulkEntries r
def uptoBulkEntry {H : Type} : Lit × DataW H → Nat
  | (.string bytes, d) => bytes.length + uptoBulk d + 1
  | (_, d) => uptoBulk d + 1
 end
def uptoSmall : (H : Type) → List (DataW H) → Bool := fun _ ds => decide (uptoBulkAll ds ≤ 1048576)
def OpenSpec.upto (s : _root_.Go.ChangeSpec) : _root_.Go.OpenSpec := { _root_.Go.OpenSpec.ofChange s with cond := some uptoSmall }

/-- 'thresherlaw07.BlockAll', WHERE WHAT IT READS IS OF BULK AT MOST 1048576: true; the input reads as it did. -/
def blockAllUptoRow : OpenClaim := { program := "yticocaljgaegfaa", sum := "e83a4b8252af22bdb9aa366294734c050769106fd3f9c809cecf8ec23c94d534", func := "thresher/thresherlaw07.BlockAll", spec := "blockAll", unfollowed := true, recurses := true, apart := false, narrowed := true }
def BlockAllUptoSaid : Prop := blockAllUptoRow.holds Try.pinned (OpenSpec.upto blockAllSpec)

/-- 'thresherlaw07.BlockBack', WHERE WHAT IT READS IS OF BULK AT MOST 1048576: true; the input reads as it did. -/
def blockBackUptoRow : OpenClaim := { program := "yticocaljgaegfaa", sum := "e83a4b8252af22bdb9aa366294734c050769106fd3f9c809cecf8ec23c94d534", func := "thresher/thresherlaw07.BlockBack", spec := "blockBack", unfollowed := true, recurses := true, apart := false, narrowed := true }
def BlockBackUptoSaid : Prop := blockBackUptoRow.holds Try.pinned (OpenSpec.upto blockBackSpec)

/-- 'thresherlaw07.BlockTurns', WHERE WHAT IT READS IS OF BULK AT MOST 1048576: true; the input reads as it did. -/
def blockTurnsUptoRow : OpenClaim := { program := "yticocaljgaegfaa", sum := "e83a4b8252af22bdb9aa366294734c050769106fd3f9c809cecf8ec23c94d534", func := "thresher/thresherlaw07.BlockTurns", spec := "blockTurns", unfollowed := true, recurses := true, apart := false, narrowed := true }
def BlockTurnsUptoSaid : Prop := blockTurnsUptoRow.holds Try.pinned (OpenSpec.upto blockTurnsSpec)

/-- 'thresherlaw07.BlockNext', WHERE WHAT IT READS IS OF BULK AT MOST 1048576: true; the input reads as it did. -/
def blockNextUptoRow : OpenClaim := { program := "yticocaljgaegfaa", sum := "e83a4b8252af22bdb9aa366294734c050769106fd3f9c809cecf8ec23c94d534", func := "thresher/thresherlaw07.BlockNext", spec := "blockNext", unfollowed := true, recurses := true, apart := false, narrowed := true }
def BlockNextUptoSaid : Prop := blockNextUptoRow.holds Try.pinned (OpenSpec.upto blockNextSpec)

/-- 'thresherlaw07.BlockRefuses', WHERE WHAT IT READS IS OF BULK AT MOST 1048576: true; the input reads as it did. -/
def blockRefusesUptoRow : OpenClaim := { program := "yticocaljgaegfaa", sum := "e83a4b8252af22bdb9aa366294734c050769106fd3f9c809cecf8ec23c94d534", func := "thresher/thresherlaw07.BlockRefuses", spec := "blockRefuses", unfollowed := true, recurses := true, apart := false, narrowed := true }
def BlockRefusesUptoSaid : Prop := blockRefusesUptoRow.holds Try.pinned (OpenSpec.upto blockRefusesSpec)

/-- 'thresherlaw07.BlockOne', WHERE WHAT IT READS IS OF BULK AT MOST 1048576: true; the input reads as it did. -/
def blockOneUptoRow : OpenClaim := { program := "yticocaljgaegfaa", sum := "e83a4b8252af22bdb9aa366294734c050769106fd3f9c809cecf8ec23c94d534", func := "thresher/thresherlaw07.BlockOne", spec := "blockOne", unfollowed := true, recurses := true, apart := false, narrowed := true }
def BlockOneUptoSaid : Prop := blockOneUptoRow.holds Try.pinned (OpenSpec.upto blockOneSpec)

end Rows
end Go.Proofs.Yticocaljgaegfaa
