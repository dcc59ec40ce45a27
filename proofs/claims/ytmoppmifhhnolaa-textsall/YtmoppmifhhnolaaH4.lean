/- How the statements' arguments come in: slices of texts. -/
import Derived.Test.YtmoppmifhhnolaaH2
import Derived.Test.YtmoppmifhhnolaaG7
namespace Go.Proofs.Ytmoppmifhhnolaa
open Go.ChangeShapes Go.WideShapes Go.ChangeAt Go.RowKit
set_option linter.unusedVariables false

theorem el_texts : El 22 9 1 16 (.string ⟨#[]⟩) := ⟨Try.underlying22, by kernel_rfl, rfl, by omega⟩
section
variable {H : Type} {enc : TypeId × Value → H} {w : World} {base fuel : Nat} {spare : Nat → Bool} {held : Bool}
theorem open_texts {r : Reach} {b0 : Nat} {v : Value} {d : DataW H} {p : List MemPlace} (hv : Value.okWide Try.prog w r b0 22 v) (h : DataW.Trod enc Try.prog w base spare held 22 v d p) :
    ∃ (A : Option Addr) (n c : Nat) (l : List ByteArray), v = .slice A n c ∧ TV w A n l ∧ n ≤ c ∧ c ≤ maxLen ∧ (∀ s ∈ l, s.size ≤ maxLen) := by
  obtain ⟨a0, len0, cap0, rfl⟩ := okWide_slice Try.underlying22 hv
  obtain ⟨fuel, hf⟩ := h
  obtain ⟨A, n, c, zs, hc, h1, h2, h3, h4, h5⟩ := open_textsS Try.underlying22 (by kernel_rfl) Try.underlying9 (by simpa [Value.cells] using hf)
  simp only [List.cons.injEq, and_true] at hc
  exact ⟨A, n, c, zs, hc, h5, h1, h2, h4⟩
end
end Go.Proofs.Ytmoppmifhhnolaa
