/- NumShort: the walk. -/
import Derived.Test.YtidcbdgeidbkiaaA
import Derived.RegionTactic
import Derived.ChangeAlike
import Derived.BigQuiet
namespace Go.Proofs.Ytidcbdgeidbkiaa
open Go.ChangeShapes Go.WideShapes Go.ChangeAt Go.RowKit
set_option linter.unusedVariables false

theorem two_pow_le (a b : Nat) (h : a ≤ b) : (2 : Int) ^ a ≤ 2 ^ b := by
  have : (2 : Nat) ^ a ≤ 2 ^ b := Nat.pow_le_pow_right (by omega) h
  have e : ∀ n : Nat, (2 : Int) ^ n = ((2 ^ n : Nat) : Int) := fun n => by simp
  rw [e a, e b]; omega
theorem pv_length : ∀ (n k : Nat) (x : Int), k < n → 2 ^ k ≤ x → x < 2 ^ (k + 1) → (pv x).length = k / 7 + 1
  | 0, k, x, h, _, _ => by omega
  | n + 1, k, x, h, h1, h2 => by
    by_cases hk : k < 7
    · have : (2 : Int) ^ (k + 1) ≤ 2 ^ 7 := two_pow_le (k + 1) 7 (by omega)
      rw [pv_small (by omega)]
      have : k / 7 = 0 := by omega
      simp [this]
    · obtain ⟨j, rfl⟩ : ∃ j, k = j + 7 := ⟨k - 7, by omega⟩
      have e1 : (2 : Int) ^ (j + 7) = 2 ^ j * 128 := by rw [Int.pow_add]; rfl
      have e2 : (2 : Int) ^ (j + 7 + 1) = 2 ^ (j + 1) * 128 := by rw [show j + 7 + 1 = (j + 1) + 7 from by omega, Int.pow_add]; rfl
      have p : (0 : Int) < 2 ^ j := Int.pow_pos (by omega)
      rw [pv_big (by omega)]
      have := pv_length n j (x / 128) (by omega) (by omega) (by omega)
      simp [this]

theorem or_arith (x : Int) (k : Nat) (hk : k < 64) (h1 : 0 ≤ x) (h2 : x ≤ 18446744073709551615) :
    2 ^ k ≤ bits BinOp.or IntKind.u64 (bits BinOp.and IntKind.u64 x (IntKind.u64.wrap (IntKind.u64.wrap (2 ^ k) - 1))) (IntKind.u64.wrap (2 ^ k)) ∧
    bits BinOp.or IntKind.u64 (bits BinOp.and IntKind.u64 x (IntKind.u64.wrap (IntKind.u64.wrap (2 ^ k) - 1))) (IntKind.u64.wrap (2 ^ k)) < 2 ^ (k + 1) := by
  have e : (2 : Int) ^ k = ((2 ^ k : Nat) : Int) := by simp
  have p : 0 < 2 ^ k := Nat.pow_pos (by omega)
  have l : 2 ^ k ≤ 2 ^ 63 := Nat.pow_le_pow_right (by omega) (by omega)
  have w1 : IntKind.u64.wrap (2 ^ k) = ((2 ^ k : Nat) : Int) := by rw [e, IntKind.wrap_u64]; omega
  have w2 : IntKind.u64.wrap (((2 ^ k : Nat) : Int) - 1) = ((2 ^ k - 1 : Nat) : Int) := by rw [IntKind.wrap_u64]; omega
  have m := Nat.mod_lt x.toNat p
  have a1 : bits BinOp.and IntKind.u64 x ((2 ^ k - 1 : Nat) : Int) = ((x.toNat % 2 ^ k : Nat) : Int) := by
    rw [u64_and _ _ h1 (by omega) (by omega) (by omega), Int.toNat_natCast, Nat.and_two_pow_sub_one_eq_mod]
  have o1 : bits BinOp.or IntKind.u64 ((x.toNat % 2 ^ k : Nat) : Int) ((2 ^ k : Nat) : Int) = ((2 ^ k + x.toNat % 2 ^ k : Nat) : Int) := by
    rw [u64_or _ _ (by omega) (by omega) (by omega) (by omega), Int.toNat_natCast, Int.toNat_natCast, Nat.or_comm, nat_join k _ _ (Nat.mod_self _) m]
  rw [w1, w2, a1, o1, e, Int.pow_succ, e]
  omega

theorem grown_drewN {w w' : World} (h : Grown w w') (n : Nat) : Grown w (w'.drewN n) := h

set_option maxHeartbeats 400000 in
theorem numShort_walk (x b : Int) (w : World) (hx1 : 0 ≤ x) (hx2 : x ≤ 18446744073709551615) (hb1 : 0 ≤ b) (hb2 : b ≤ 255) :
    Calls Try.prog 6 #[.int .u64 x, .int .u8 b] w fun e w' => e = .returned (.bool true) ∧ Grown w w' := by
  have ek : bits .and .u8 b 63 = b % 64 := u8_and63 b hb1 (by omega)
  have hX := or_arith x (b % 64).toNat (by omega) hx1 hx2
  have hl0 : (((pv 0).length : Int) == 1) = true := by rw [pv_small (by omega)]; rfl
  go_enter Try.func6, Try.ntmps6
  go_wp2_with (first | (go_at_call 9; refine (shown_any _).mono ?_; rintro e w' ⟨rfl, rfl⟩))
  go_quiet (fail)
  generalize bits BinOp.or IntKind.u64 (bits BinOp.and IntKind.u64 x (IntKind.u64.wrap (IntKind.u64.wrap (2 ^ (b % 64).toNat) - 1))) (IntKind.u64.wrap (2 ^ (b % 64).toNat)) = X at *
  have hlX : (((pv X).length : Int) == b % 64 / 7 + 1) = true := by
    rw [beq_iff_eq, pv_length _ (b % 64).toNat X (Nat.lt_succ_self _) hX.1 hX.2]; omega
  have hX1 : 0 ≤ X := by have : (0 : Int) < 2 ^ (b % 64).toNat := Int.pow_pos (by omega); omega
  have hX2 : X ≤ 18446744073709551615 := by have := two_pow_le ((b % 64).toNat + 1) 64 (by omega); omega
  clear hX
  go_wp2_with (first | (go_at_call 15; refine (putvar_any _ _ (by omega) (by omega)).mono ?_; rintro e w' ⟨rfl, rfl⟩))
  go_ret
  exact ⟨rfl, by repeat (first | exact Grown.refl _ | apply Grown.drew | apply Grown.alloc | apply grown_drewN)⟩
end Go.Proofs.Ytidcbdgeidbkiaa
