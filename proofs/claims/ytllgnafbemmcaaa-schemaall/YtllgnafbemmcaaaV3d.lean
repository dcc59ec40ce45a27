/- How a value is written: Text; the statements' own helpers shown, kind, fit, some, short. -/
import Derived.Test.YtllgnafbemmcaaaV3c
namespace Go.Proofs.Ytllgnafbemmcaaa
open Go.ChangeShapes Go.WideShapes Go.ChangeAt Go.RowKit
set_option linter.unusedVariables false

/-- how a value is written -/
def textL (t n : Int) (s : ByteArray) : List Int := if fitsB t n s = true then (if t = 1 then intS n else if t = 2 then digits (IntKind.u64.wrap n).toNat else textS (nums s)) else []
theorem textL_not {t n : Int} {s : ByteArray} (h : fitsB t n s = false) : textL t n s = [] := by simp [textL, h]
theorem textL_is {t n : Int} {s : ByteArray} (h : fitsB t n s = true) : textL t n s = (if t = 1 then intS n else if t = 2 then digits (IntKind.u64.wrap n).toNat else textS (nums s)) := by rw [textL, if_pos h]
theorem fits_size {n : Int} {s : ByteArray} (h : fitsB 3 n s = true) : s.size ≤ 60 := by
  simp [fitsB] at h; omega
theorem ret_str {a b : ByteArray} (h : a = b) : Ending.returned (.string a) = .returned (.string b) := by rw [h]
end Go.Proofs.Ytllgnafbemmcaaa
