/- Contracts of the functions of package num, over this seat's translation. -/
import Derived.Test.YtoebghfjpkkegaaDoorRows
import Derived.Test.YtoebghfjpkkegaaDoorP
import Derived.WalkKit
import Derived.ProofKit
import Derived.OpenShut
import Derived.Below
import Derived.WalkSpells
import Derived.WalkLawsBesides
namespace Go.Proofs.YtoebghfjpkkegaaDoor
open Go.ChangeShapes Go.WideShapes Go.ChangeAt Go.RowKit
set_option linter.unusedVariables false

theorem ret_int {k : IntKind} {a b : Int} (h : a = b) : Ending.returned (.int k a) = .returned (.int k b) := by rw [h]

theorem zig_neg_arith (a : Int) (h1 : -9223372036854775808 ≤ a) (h2 : a < 0) : bits BinOp.xor IntKind.u64 IntKind.u64.max (IntKind.u64.wrap (IntKind.u64.wrap a * 2)) = -2 * a - 1 := by
  have e1 : IntKind.u64.max = 18446744073709551615 := by decide
  have e2 : IntKind.u64.wrap (IntKind.u64.wrap a * 2) = (((2 * a + 18446744073709551616).toNat : Nat) : Int) := by
    simp only [IntKind.wrap_u64]; omega
  rw [e1, e2, not_u64 _ (by omega)]; omega

theorem and1 (a : Int) (h1 : 0 ≤ a) (h2 : a ≤ 18446744073709551615) : bits BinOp.and IntKind.u64 a 1 = a % 2 := and_one_u64 a h1 h2
theorem zag_arith (a : Int) (h1 : 0 ≤ a) (h2 : a ≤ 18446744073709551615) : bits BinOp.xor IntKind.i64 (-1) (a / 2) = - (a / 2) - 1 := by
  have := not_i64 (a / 2).toNat (by omega)
  rw [show (((a / 2).toNat : Nat) : Int) = a / 2 from by omega] at this
  exact this

/-- the array of ten bytes whose first ones are 'pre' -/
def pre10 (pre : List Int) : Array Value := (pre.map (Value.int .u8) ++ List.replicate (10 - pre.length) (Value.int .u8 0)).toArray
theorem pre10_nil : #[Value.int IntKind.u8 0, Value.int IntKind.u8 0, Value.int IntKind.u8 0, Value.int IntKind.u8 0,
      Value.int IntKind.u8 0, Value.int IntKind.u8 0, Value.int IntKind.u8 0, Value.int IntKind.u8 0,
      Value.int IntKind.u8 0, Value.int IntKind.u8 0] = pre10 [] := rfl
theorem pre10_set (pre : List Int) (v : Int) (h : pre.length < 10) : (pre10 pre).setIfInBounds pre.length (.int .u8 v) = pre10 (pre ++ [v]) := by
  unfold pre10
  simp only [List.setIfInBounds_toArray]
  congr 1
  have : 10 - pre.length = (10 - (pre ++ [v]).length) + 1 := by simp; omega
  rw [this, List.replicate_succ, List.set_append_right _ _ (by simp)]
  simp
theorem pre10_at (pre : List Int) (i : Nat) (h : i < 10) : ∃ v, (pre10 pre)[i]? = some v := by
  have : i < (pre10 pre).size := by simp [pre10]; omega
  exact ⟨_, Array.getElem?_eq_getElem this⟩

theorem ret_slice {a : Option Addr} {n m c : Nat} (h : n = m) : Ending.returned (.slice a n c) = .returned (.slice a m c) := by rw [h]
theorem u8_or_more' (y : Int) (h0 : 0 ≤ y) : bits .or .u8 (y % 256) 128 = y % 128 + 128 := by
  rw [← IntKind.wrap_u8']; exact u8_or_more y h0

theorem pv300 : pv 300 = [172, 2] := by rw [pv_big (by omega), pv_small (by omega)]; rfl
theorem pre10_get (pre : List Int) (i : Nat) (h : i < pre.length) : (pre10 pre)[i]? = some (.int .u8 (pre.getD i 0)) := by
  unfold pre10
  rw [List.getElem?_toArray, List.getElem?_append_left (by simpa using h)]
  simp [h]

end Go.Proofs.YtoebghfjpkkegaaDoor
