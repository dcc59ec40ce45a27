/- Texts that belong together, one behind the other: QAh, W7s, H8v. -/
import Derived.Test.YtbfihajgjbpmaaaGreatGrnB
import Derived.Test.YtbfihajgjbpmaaaGreatSchC
import Derived.Test.YtbfihajgjbpmaaaGreatVals
import Derived.Test.YtbfihajgjbpmaaaGreatBase
/- The statements' own helpers of stage 10: made, shown. -/
namespace Go.Proofs.YtbfihajgjbpmaaaGreat
open Go.ChangeShapes Go.WideShapes Go.ChangeAt Go.RowKit
set_option linter.unusedVariables false
set_option maxRecDepth 4000

/-- the example's row -/
abbrev nA : RowV := [(0, ⟨#[]⟩)]
/-- one more row, in memory of its own -/
theorem PR.oneA {w : World} {ps : List P9} (h : PR w ps) (g : Nat) (hg : g = w.heap.size) : PR (w.alloc (.cells #[.int .i64 0, .string ⟨#[]⟩] 62)) (ps ++ [((some ⟨g, 0, none⟩, 1, 1), nA)]) := by
  subst hg
  refine PR.app (h.below (Joins.below_alloc1 _ _)) (fun p hp => ?_)
  rw [List.mem_singleton.1 hp]
  exact RowAt.of (SV.lit (k := 2) w (vcells (nA)) 1 62 rfl (vcells_one _)) (Nat.le_refl _) (Nat.le_refl _) (show (1 : Nat) ≤ maxLen by unfold maxLen; decide)
end Go.Proofs.YtbfihajgjbpmaaaGreat
/- The statements' own Same of two lists of values (stage 7's reference). -/
namespace Go.Proofs.YtbfihajgjbpmaaaGreat
open Go.ChangeShapes Go.WideShapes Go.ChangeAt Go.RowKit
set_option linter.unusedVariables false
set_option maxRecDepth 4000

end Go.Proofs.YtbfihajgjbpmaaaGreat
/- How the statements' arguments come in: slices of values, with their room. -/
namespace Go.Proofs.YtbfihajgjbpmaaaGreat
open Go.ChangeShapes Go.WideShapes Go.ChangeAt Go.RowKit
set_option linter.unusedVariables false
set_option maxRecDepth 4000

section
variable {H : Type} {enc : TypeId × Value → H} {w : World} {base fuel : Nat} {spare : Nat → Bool} {held : Bool}
theorem open_valuesR {r : Reach} {b0 : Nat} {v : Value} {d : DataW H} {p : List MemPlace} (hv : Value.okWide Tryz.prog w r b0 45 v) (h : DataW.Trod enc Tryz.prog w base spare held 45 v d p) :
    ∃ (A : Option Addr) (n c : Nat) (vs : List (Int × ByteArray)), v = .slice A n c ∧ RowAt w (.slice A n c) vs := by
  obtain ⟨a0, len0, cap0, rfl⟩ := okWide_slice Tryz.underlying45 hv
  obtain ⟨fuel, hf⟩ := h
  obtain ⟨A, n, c, vs, hc, h1, h2, h3, h4, h5, h6⟩ := open_vals Tryz.underlying45 Tryz.underlying62 (by kernel_rfl) rfl rfl (by kernel_rfl) (by kernel_rfl) Tryz.underlying2 Tryz.underlying9 (show DataW.trod enc Tryz.prog w base spare held fuel 45 [.slice a0 len0 cap0] = some (d, p) by simpa [Value.cells] using hf)
  simp only [List.cons.injEq, and_true] at hc
  exact ⟨A, n, c, vs, hc, A, n, c, rfl, h1, h2, h3, h5, h6⟩
end
end Go.Proofs.YtbfihajgjbpmaaaGreat
