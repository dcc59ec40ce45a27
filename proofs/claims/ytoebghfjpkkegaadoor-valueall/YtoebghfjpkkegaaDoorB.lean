/- A slice of bytes in memory, and the contract of Var. -/
import Derived.Test.YtoebghfjpkkegaaDoorA
import Derived.Test.YtoebghfjpkkegaaDoorV
namespace Go.Proofs.YtoebghfjpkkegaaDoor
open Go.ChangeShapes Go.WideShapes Go.ChangeAt Go.RowKit
set_option linter.unusedVariables false

/-- the slice at a of n elements holds the bytes zs -/
def BV (w : World) (a : Option Addr) (n : Nat) (zs : List Int) : Prop :=
  zs.length = n ∧ (∀ z ∈ zs, 0 ≤ z ∧ z ≤ 255) ∧ (n = 0 ∨ ∃ b off, a = some ⟨b, off, none⟩ ∧ ∀ i, i < n → w.cell? ⟨b, off + i, none⟩ = some (.int .u8 (zs.getD i 0)))

theorem or_add (x c : Int) (k : Nat) (hk : k ≤ 9) (h0 : 0 ≤ x) (h1 : x < 128 ^ k) (hc0 : 0 ≤ c) (hc1 : c ≤ 255) (hc9 : k = 9 → c ≤ 1) :
    bits BinOp.or IntKind.u64 x (IntKind.u64.wrap (IntKind.u64.wrap (bits BinOp.and IntKind.u8 c 127) * 2 ^ (7 * k))) = x + c % 128 * 128 ^ k := by
  have e1 : bits BinOp.and IntKind.u8 c 127 = c % 128 := by
    rw [u8_and _ _ hc0 (by omega) (by omega) (by omega), show (127 : Int).toNat = 127 from rfl, nat_mask7]; omega
  have e2 : IntKind.u64.wrap (c % 128) = c % 128 := by rw [IntKind.wrap_u64]; omega
  have e3 : (2 : Int) ^ (7 * k) = ((2 ^ (7 * k) : Nat) : Int) := by simp
  have e4 : (128 : Int) ^ k = ((2 ^ (7 * k) : Nat) : Int) := by rw [Nat.pow_mul]; simp
  have hp : 0 < 2 ^ (7 * k) := Nat.pow_pos (by omega)
  have hl : c % 128 * (128 : Int) ^ k ≤ 9223372036854775808 := by
    by_cases e : k = 9
    · subst e
      have := mul_le_of (pow128_pos 9) (show c % 128 ≤ 1 from by have := hc9 rfl; omega)
      have h9 : (128 : Int) ^ 9 = 9223372036854775808 := by decide
      omega
    · have := mul_le_of (pow128_pos k) (show c % 128 ≤ 127 from by omega)
      have h4 : 128 ^ k * 128 ≤ (128 : Int) ^ 9 := by rw [← pow128_succ]; exact pow128_mono _ _ (by omega)
      have h9 : (128 : Int) ^ 9 = 9223372036854775808 := by decide
      have := pow128_pos k
      omega
  have hm : 0 ≤ c % 128 * (128 : Int) ^ k := Int.mul_nonneg (by omega) (Int.le_of_lt (pow128_pos k))
  have hxl : x < 18446744073709551616 := by
    have := pow128_mono k 9 hk
    have h9 : (128 : Int) ^ 9 = 9223372036854775808 := by decide
    omega
  rw [e1, e2, e3, ← e4, IntKind.wrap_u64, Int.emod_eq_of_lt hm (by omega)]
  rw [u64_or _ _ h0 (by omega) hm (by omega), Nat.or_comm, nat_join (7 * k) _ _ ?_ (by omega)]
  · omega
  · have : (c % 128 * (128 : Int) ^ k).toNat = (c % 128).toNat * 2 ^ (7 * k) := by
      obtain ⟨m, hm'⟩ : ∃ m : Nat, c % 128 = m := ⟨(c % 128).toNat, by omega⟩
      rw [hm', e4, ← Int.natCast_mul, Int.toNat_natCast, Int.toNat_natCast]
    rw [this, Nat.mul_mod_left]

theorem acc_lt (x c : Int) (k : Nat) (h0 : 0 ≤ x) (h1 : x < 128 ^ k) (hc0 : 0 ≤ c) : 0 ≤ x + c % 128 * 128 ^ k ∧ x + c % 128 * 128 ^ k < 128 ^ (k + 1) := by
  have hm : 0 ≤ c % 128 * (128 : Int) ^ k := Int.mul_nonneg (by omega) (Int.le_of_lt (pow128_pos k))
  have := mul_le_of (pow128_pos k) (show c % 128 ≤ 127 from by omega)
  rw [pow128_succ]
  omega

theorem ret_two {a b c d : Int} (h1 : a = b) (h2 : c = d) : Ending.returned (.tuple #[.int .u64 a, .int .i64 c]) = .returned (.tuple #[.int .u64 b, .int .i64 d]) := by rw [h1, h2]

theorem varGo_big (c : Int) (r : List Int) (i : Nat) (x : Int) (h1 : ¬ (i = 9 ∧ 1 < c)) (h2 : 128 ≤ c) : varGo (c :: r) i x = varGo r (i + 1) (x + c % 128 * 128 ^ i) := by
  rw [varGo, if_neg h1, if_pos h2]
theorem varGo_last (c : Int) (r : List Int) (i : Nat) (x : Int) (h1 : ¬ (i = 9 ∧ 1 < c)) (h2 : c < 128) (h3 : ¬ (c = 0 ∧ 0 < i)) : varGo (c :: r) i x = (x + c % 128 * 128 ^ i, (i : Int) + 1) := by
  rw [varGo, if_neg h1, if_neg (by omega), if_neg h3]
theorem varGo_zero (c : Int) (r : List Int) (i : Nat) (x : Int) (h2 : c = 0) (h3 : 0 < i) : varGo (c :: r) i x = (0, 0) := by
  rw [varGo, if_neg (by omega), if_neg (by omega), if_pos ⟨h2, h3⟩]
theorem varGo_over (c : Int) (r : List Int) (i : Nat) (x : Int) (h1 : i = 9 ∧ 1 < c) : varGo (c :: r) i x = (0, 0) := by
  rw [varGo, if_pos h1]

end Go.Proofs.YtoebghfjpkkegaaDoor
