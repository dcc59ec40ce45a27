/- How schemas and lists of rows come in. -/
import Derived.Test.YtllgnafbemmcaaaS4t
import Derived.Lib.SmallJoins
namespace Go.Proofs.Ytllgnafbemmcaaa
open Go.ChangeShapes Go.WideShapes Go.ChangeAt Go.RowKit
set_option linter.unusedVariables false

section
variable {H : Type} {enc : TypeId × Value → H} {w : World} {base fuel : Nat} {spare : Nat → Bool} {held : Bool}
theorem int_of {t : TypeId} (ht : Try.prog.underlying t = some (.int .i64)) {c : Value} {y : DataW H × List MemPlace} (h : DataW.trod enc Try.prog w base spare held fuel t [c] = some y) : ∃ z : Int, c = .int .i64 z ∧ -9223372036854775808 ≤ z ∧ z ≤ 9223372036854775807 := by
  obtain ⟨z, hz, _, wz⟩ := DataW.trod_int ht h
  have := bounds_i64 wz
  exact ⟨z, by simpa using hz, this.1, this.2⟩
theorem open_schema {r : Reach} {b0 : Nat} {v : Value} {d : DataW H} {p : List MemPlace} (hv : Value.okWide Try.prog w r b0 24 v) (h : DataW.Trod enc Try.prog w base spare held 24 v d p) :
    ∃ (A : Option Addr) (n c : Nat) (ts : List Int) (k m g : Int), v = SS A n c k m g ∧ IV w A n ts ∧ n ≤ c ∧ n ≤ maxLen := by
  obtain ⟨v0, v1, v2, v3, y0, y1, y2, y3, f, rfl, -, -, h0, h1, h2, h3⟩ := Joins.open_agg4 Try.underlying24 (by kernel_rfl) (by kernel_rfl) hv h
  obtain ⟨A, n, c, ts, hc, q1, q2, q3, q4, q5, q6⟩ := open_intsS Try.underlying22 (by kernel_rfl) Try.underlying3 h0
  obtain ⟨k, rfl, -⟩ := int_of Try.underlying3 h1
  obtain ⟨m, rfl, -⟩ := int_of Try.underlying3 h2
  obtain ⟨g, rfl, -⟩ := int_of Try.underlying3 h3
  simp only [List.cons.injEq, and_true] at hc
  subst hc
  exact ⟨A, n, c, ts, k, m, g, rfl, q5, q1, by omega⟩
theorem open_rows4 {r : Reach} {b0 : Nat} {v : Value} {d : DataW H} {p : List MemPlace} (hv : Value.okWide Try.prog w r b0 25 v) (h : DataW.Trod enc Try.prog w base spare held 25 v d p) :
    ∃ (A : Option Addr) (n c : Nat) (vss : List (List (Int × ByteArray))), v = .slice A n c ∧ RVs w A n vss ∧ n ≤ maxLen ∧ (∀ vs ∈ vss, RgV vs) := by
  obtain ⟨a0, len0, cap0, rfl⟩ := okWide_slice Try.underlying25 hv
  obtain ⟨fuel, hf⟩ := h
  obtain ⟨A, n, c, vss, hc, q1, q2, q3, q4, q5⟩ := open_rows Try.underlying25 (by kernel_rfl) Try.underlying30 Try.underlying50 (by kernel_rfl) rfl rfl (by kernel_rfl) (by kernel_rfl) Try.underlying2 Try.underlying9 (show DataW.trod enc Try.prog w base spare held fuel 25 [.slice a0 len0 cap0] = some (d, p) by simpa [Value.cells] using hf)
  simp only [List.cons.injEq, and_true] at hc
  exact ⟨A, n, c, vss, hc, q4, by omega, q3⟩
end
end Go.Proofs.Ytllgnafbemmcaaa
