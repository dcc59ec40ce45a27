/- NumTurns: for every two numbers the statement's function answers true, and the arguments read as they did. No condition. -/
import Derived.Test.YtidcbdgeidbkiaaA
namespace Go.Proofs.Ytidcbdgeidbkiaa
open Go.ChangeShapes Go.WideShapes Go.ChangeAt Go.RowKit
set_option linter.unusedVariables false

def zigF (a : Int) : Int := if a < 0 then -2 * a - 1 else 2 * a
def zagF (u : Int) : Int := if u % 2 = 1 then - (u / 2) - 1 else u / 2
theorem zigF_bd (a : Int) (h1 : -9223372036854775808 ≤ a) (h2 : a ≤ 9223372036854775807) : 0 ≤ zigF a ∧ zigF a ≤ 18446744073709551615 := by unfold zigF; split <;> omega
theorem zagF_bd (u : Int) (h1 : 0 ≤ u) (h2 : u ≤ 18446744073709551615) : -9223372036854775808 ≤ zagF u ∧ zagF u ≤ 9223372036854775807 := by unfold zagF; split <;> omega
theorem zag_zig (a : Int) : zagF (zigF a) = a := by unfold zagF zigF; split <;> (split <;> omega)
theorem zig_zag (u : Int) (h1 : 0 ≤ u) : zigF (zagF u) = u := by unfold zagF zigF; split <;> (split <;> omega)

theorem zig_any (a : Int) (w : World) (h1 : -9223372036854775808 ≤ a) (h2 : a ≤ 9223372036854775807) :
    Calls Try.prog 19 #[.int .i64 a] w fun e w' => e = .returned (.int .u64 (zigF a)) ∧ w' = w := by
  by_cases h : a < 0
  · rw [zigF, if_pos h]; exact zig_neg a w h1 h
  · rw [zigF, if_neg h]; exact zig_pos a w (by omega) h2
theorem zag_any (a : Int) (w : World) (h1 : 0 ≤ a) (h2 : a ≤ 18446744073709551615) :
    Calls Try.prog 21 #[.int .u64 a] w fun e w' => e = .returned (.int .i64 (zagF a)) ∧ w' = w := by
  by_cases h : a % 2 = 1
  · rw [zagF, if_pos h]; exact zag_odd a w h1 h2 h
  · rw [zagF, if_neg h]; exact zag_even a w h1 h2 (by omega)

theorem odd_zig (n : Int) (h1 : -9223372036854775808 ≤ n) (h2 : n ≤ 9223372036854775807) : (bits BinOp.and IntKind.u64 (zigF n) 1 == 1) = decide (n < 0) := by
  have := zigF_bd n h1 h2
  rw [and1 _ this.1 this.2]
  unfold zigF
  split
  · rw [decide_eq_true (by omega), beq_iff_eq]; omega
  · rw [decide_eq_false (by omega), beq_eq_false_iff_ne]; omega

set_option maxHeartbeats 400000 in
theorem numTurns_walk (n u : Int) (w : World) (hn1 : -9223372036854775808 ≤ n) (hn2 : n ≤ 9223372036854775807) (hu1 : 0 ≤ u) (hu2 : u ≤ 18446744073709551615) :
    Calls Try.prog 5 #[.int .i64 n, .int .u64 u] w fun e w' => e = .returned (.bool true) ∧ Grown w w' := by
  obtain ⟨z1, z2⟩ := zigF_bd n hn1 hn2
  obtain ⟨g1, g2⟩ := zagF_bd u hu1 hu2
  have e1 := zag_zig n
  have e2 := zig_zag u hu1
  have e3 := odd_zig n hn1 hn2
  by_cases hneg : n < 0
  · rw [decide_eq_true hneg] at e3
    go_enter Try.func5, Try.ntmps5
    go_wp2_with (first | (go_at_call 9; refine (shown_any _).mono ?_; rintro e w' ⟨rfl, rfl⟩) | (go_at_call 19; refine (zig_any _ _ (by assumption) (by assumption)).mono ?_; rintro e w' ⟨rfl, rfl⟩) | (go_at_call 21; refine (zag_any _ _ (by assumption) (by assumption)).mono ?_; rintro e w' ⟨rfl, rfl⟩))
    go_ret
    exact ⟨rfl, by repeat (first | exact Grown.refl _ | apply Grown.drew | apply Grown.alloc)⟩
  · rw [decide_eq_false hneg] at e3
    by_cases hs : n < 4611686018427387904
    · have e4 : (zigF n == n * 2) = true := by rw [beq_iff_eq]; unfold zigF; split <;> omega
      have e5 : (zigF (-n - 1) == zigF n + 1) = true := by rw [beq_iff_eq]; unfold zigF; rw [if_pos (by omega), if_neg (by omega)]; omega
      have z3 : zigF n ≤ 9223372036854775807 := by unfold zigF; split <;> omega
      go_enter Try.func5, Try.ntmps5
      go_wp2_with (first | (go_at_call 9; refine (shown_any _).mono ?_; rintro e w' ⟨rfl, rfl⟩) | (go_at_call 19; refine (zig_any _ _ (by omega) (by omega)).mono ?_; rintro e w' ⟨rfl, rfl⟩) | (go_at_call 21; refine (zag_any _ _ (by assumption) (by assumption)).mono ?_; rintro e w' ⟨rfl, rfl⟩))
      go_ret
      exact ⟨rfl, by repeat (first | exact Grown.refl _ | apply Grown.drew | apply Grown.alloc)⟩
    · go_enter Try.func5, Try.ntmps5
      go_wp2_with (first | (go_at_call 9; refine (shown_any _).mono ?_; rintro e w' ⟨rfl, rfl⟩) | (go_at_call 19; refine (zig_any _ _ (by assumption) (by assumption)).mono ?_; rintro e w' ⟨rfl, rfl⟩) | (go_at_call 21; refine (zag_any _ _ (by assumption) (by assumption)).mono ?_; rintro e w' ⟨rfl, rfl⟩))
      go_ret
      exact ⟨rfl, by repeat (first | exact Grown.refl _ | apply Grown.drew | apply Grown.alloc)⟩
end Go.Proofs.Ytidcbdgeidbkiaa
