/- The statements' own helpers of stage 5: shown, few. -/
import Derived.Test.YtiedejeimhjngaaI5a
namespace Go.Proofs.Ytiedejeimhjngaa
open Go.ChangeShapes Go.WideShapes Go.ChangeAt Go.RowKit
set_option linter.unusedVariables false

theorem shown5_delta : deltaL 0 [5, 6] = [10, 2] := by
  rw [deltaL_cons, deltaL_cons]
  rw [show zigF (rd (5 - 0)) = 10 by rfl, show zigF (rd (6 - 5)) = 2 by rfl, pv_small (by omega), pv_small (by omega)]
  rfl
theorem shown5_put : putI [5, 6] = [2, 1, 10, 2] := by
  have h : shortB [5, 6] = true := by rw [shortB, shown5_delta]; rfl
  rw [putI, bodyI, if_pos h, shown5_delta, pv_small (by simp)]
  rfl
theorem shown5_str : strOfNums [2, 1, 10, 2] = { data := #[2, 1, 10, 2] } := by rfl
set_option maxHeartbeats 1000000 in
theorem shown5_is (w : World) : Calls Try.prog 9 #[] w fun e w' => e = .returned (.bool true) ∧ Below w.heap.size w w' := by
  have hv : IV (w.alloc (.cells #[.int .i64 5, .int .i64 6] 2)) (some ⟨w.heap.size, 0, none⟩) 2 [5, 6] := SV.lit (k := 1) w (icells [5, 6]) 2 2 rfl (icells_one _)
  have hr : I64s [5, 6] := by intro x hx; simp at hx; omega
  go_enter Try.func9, Try.ntmps9
  go_wp2_with fail
  refine (putI_any _ 2 2 [5, 6] _ hv hr (by omega)).mono ?_
  rintro e w1 ⟨v, rfl, ho, hb⟩
  have hw1 := after1 hb
  clear hv hb
  rw [shown5_put] at ho
  obtain ⟨a, c, rfl, -, -, hbv, -⟩ := ho.bvn (by rw [← shown5_put]; exact putI_bytes _) 4 rfl
  have hcv := conv_any hbv c
  rw [shown5_str] at hcv
  clear ho hbv
  go_wp2_with fail
  go_ret
  exact ⟨rfl, hw1⟩
set_option maxHeartbeats 400000 in
theorem few5_any (A : Option Addr) (n C : Nat) (l : List Int) (w : World) (hv : IV w A n l) (hc : n ≤ C) {m : Nat} (hm : m = min n 60) :
    Calls Try.prog 10 #[.slice A n C] w fun e w' => e = .returned (.slice A m C) ∧ w' = w := by
  subst hm
  by_cases h : 60 < n
  · obtain ⟨b, off, rfl, -⟩ := IV.at hv 0 (by omega)
    have hi : (60 : Int) < (n : Int) := by omega
    have hC : (60 : Int) ≤ (C : Int) := by omega
    clear hv
    go_enter Try.func10, Try.ntmps10
    go_wp2
    go_ret
    exact ⟨ret_slice (by omega), rfl⟩
  · rw [Nat.min_eq_left (by omega)]
    have hi : ¬ (60 : Int) < (n : Int) := by omega
    clear hv
    go_enter Try.func10, Try.ntmps10
    go_wp2
    go_ret
    exact ⟨rfl, rfl⟩
theorem i64_take {l : List Int} (h : I64s l) (m : Nat) : I64s (l.take m) := fun x hx => h x (List.mem_of_mem_take hx)
/-- what is few of some numbers -/
theorem few5_is {A : Option Addr} {n : Nat} {l : List Int} {w : World} (hv : IV w A n l) (hr : I64s l) : ∃ (m : Nat) (k : List Int), Hid (m = min n 60) ∧ m ≤ 60 ∧ k = l.take m ∧ IV w A m k ∧ I64s k :=
  ⟨min n 60, _, Lib.hid rfl, by omega, rfl, hv.take _ (by omega), i64_take hr _⟩
theorem str_add (a b : List Int) : strOfNums a ++ strOfNums b = strOfNums (a ++ b) := by
  apply ByteArray.ext
  rw [ByteArray.data_append]
  apply Array.ext'
  rw [Array.toList_append, strOfNums_data, strOfNums_data, strOfNums_data, List.map_append]
theorem el_i64s : El 22 2 1 8 (.int .i64 0) := ⟨Try.underlying22, by kernel_rfl, rfl, by omega⟩
theorem icells_app (a b : List Int) : icells (a ++ b) = icells a ++ icells b := List.map_append
theorem i64_app {a b : List Int} (ha : I64s a) (hb : I64s b) : I64s (a ++ b) := fun x hx => (List.mem_append.1 hx).elim (ha x) (hb x)
end Go.Proofs.Ytiedejeimhjngaa
