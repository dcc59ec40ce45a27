/- The statements' own helpers: shown, kind, fit, some, short. -/
import Derived.Test.YtllgnafbemmcaaaV3d
namespace Go.Proofs.Ytllgnafbemmcaaa
open Go.ChangeShapes Go.WideShapes Go.ChangeAt Go.RowKit
set_option linter.unusedVariables false

theorem empty_is (s : ByteArray) : s.toList.isEmpty = decide (s.size = 0) := by
  rw [ByteArray.toList_eq]
  rcases hs : s.data.toList with _ | ⟨a, l⟩
  · have : s.size = 0 := by have h := congrArg List.length hs; rw [Array.length_toList] at h; exact h
    simp [this]
  · have : s.size ≠ 0 := by have h := congrArg List.length hs; rw [Array.length_toList] at h; have h2 : s.size = s.data.size := rfl; simp at h; omega
    simp [this]
theorem fits_num {t n : Int} (h : t = 1 ∨ t = 2) : fitsB t n ⟨#[]⟩ = true := by rw [fitsB, if_pos h, empty_is]; rfl
/-- at most k bytes of a text -/
def cut (k : Nat) (s : ByteArray) : ByteArray := if s.size ≤ k then s else s.extract 0 k
theorem cut_size (k : Nat) (s : ByteArray) : (cut k s).size ≤ k := by
  unfold cut; split
  · assumption
  · simp [ByteArray.size_extract]; omega
theorem cut_all {k : Nat} {s : ByteArray} (h : s.size ≤ k) : cut k s = s := by rw [cut, if_pos h]
theorem cut_part {k : Nat} {s : ByteArray} (h : ¬ s.size ≤ k) : cut k s = s.extract 0 k := by rw [cut, if_neg h]
/-- a value that is made to fit -/
def fitN (t n : Int) : Int := if t = 3 then 0 else n
def fitS (t : Int) (s : ByteArray) : ByteArray := if t = 3 then cut 60 s else ⟨#[]⟩
theorem fitN_t {t n : Int} (h : t = 3) : fitN t n = 0 := by rw [fitN, if_pos h]
theorem fitN_n {t n : Int} (h : t ≠ 3) : fitN t n = n := by rw [fitN, if_neg h]
theorem fitS_t {t : Int} {s : ByteArray} (h : t = 3) : fitS t s = cut 60 s := by rw [fitS, if_pos h]
theorem fitS_n {t : Int} {s : ByteArray} (h : t ≠ 3) : fitS t s = ⟨#[]⟩ := by rw [fitS, if_neg h]
theorem fit_fits {t n : Int} {s : ByteArray} (h : t = 1 ∨ t = 2 ∨ t = 3) : fitsB t (fitN t n) (fitS t s) = true := by
  by_cases h3 : t = 3
  · subst h3
    have := cut_size 60 s
    rw [fitN_t rfl, fitS_t rfl]
    simp [fitsB]; omega
  · rw [fitN_n h3, fitS_n h3]
    exact fits_num (by omega)
theorem bx2 (w : World) (o : Obj) (n : Int) (s : ByteArray) : Bx ((w.alloc o).alloc (.cells #[.int .i64 n, .string s] 50)) (w.heap.size + 1) n s := by
  have := Bx.new (w.alloc o) n s 50
  rwa [show (w.alloc o).heap.size = w.heap.size + 1 by simp] at this
theorem kind_of (t : Int) (h0 : 0 ≤ t) : 1 + t % 3 = 1 ∨ 1 + t % 3 = 2 ∨ 1 + t % 3 = 3 := by omega
end Go.Proofs.Ytllgnafbemmcaaa
