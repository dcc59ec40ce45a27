/- What the row's five listed variables give. -/
import Derived.Test.YtoebghfjpkkegaaDoorV3t
import Derived.Test.YtoebghfjpkkegaaDoorV3i
namespace Go.Proofs.YtoebghfjpkkegaaDoor
open Go.ChangeShapes Go.WideShapes Go.ChangeAt Go.RowKit
set_option linter.unusedVariables false

/-- the name of the errors' type -/
def errName : String := match (Rows.laid_strconv_ErrRange : DataW Unit) with
  | .iface n _ => n
  | _ => ""
theorem rowErr : ∀ u, Tryd.prog.typeName? 3 u = some errName → u = 92 := fun u h =>
  typeName_ptr_named (nm := "errors.errorString") (by kernel_rfl) (by kernel_rfl) (by decide) u (h.trans (congrArg some (by kernel_rfl)))
theorem env_of5 {W : World} (h : laidMetH Tryd.prog laid5 W) : Env W := by
  have ht := tab_of5 h
  rw [MakeChecks.laidMetH_plain _ _ _ (by kernel_rfl)] at h
  obtain ⟨a0, s0, hv0, -, -, -⟩ := laid_sentinel h.tail.tail.tail (show Tryd.prog.globalNamed "strconv.ErrRange" = some (Go.Proofs.Tryd.laysC245_ren.g 16) by kernel_rfl) (show (Tryd.prog.globals[Go.Proofs.Tryd.laysC245_ren.g 16]?).map (·.type) = some 55 by kernel_rfl) Tryd.underlying55 rowErr Tryd.underlying92 Tryd.underlying94 rfl rfl Tryd.underlying9 (by kernel_rfl) (by kernel_rfl)
  obtain ⟨a1, s1, hv1, -, -, -⟩ := laid_sentinel h.tail.tail.tail.tail (show Tryd.prog.globalNamed "strconv.ErrSyntax" = some (Go.Proofs.Tryd.laysC245_ren.g 15) by kernel_rfl) (show (Tryd.prog.globals[Go.Proofs.Tryd.laysC245_ren.g 15]?).map (·.type) = some 55 by kernel_rfl) Tryd.underlying55 rowErr Tryd.underlying92 Tryd.underlying94 rfl rfl Tryd.underlying9 (by kernel_rfl) (by kernel_rfl)
  exact ⟨ht, ⟨_, _, hv1⟩, ⟨_, _, hv0⟩⟩
end Go.Proofs.YtoebghfjpkkegaaDoor
