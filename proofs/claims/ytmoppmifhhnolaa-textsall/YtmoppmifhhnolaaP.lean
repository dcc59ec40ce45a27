/- Plain facts on numbers as bytes: no Go in sight. -/
import Derived.Laws.BitsAll
namespace Go.Proofs.Ytmoppmifhhnolaa
set_option linter.unusedVariables false

/-- the bytes of a number, seven bits each, the lowest first; the first argument: how many more there may be -/
def pvF : Nat → Int → List Int
  | 0, x => [x]
  | n + 1, x => if x < 128 then [x] else (x % 128 + 128) :: pvF n (x / 128)
/-- the bytes of a number, seven bits each, the lowest first -/
def pv (x : Int) : List Int := pvF x.toNat x

theorem pvF_enough : ∀ (n m : Nat) (x : Int), x.toNat ≤ n → x.toNat ≤ m → pvF n x = pvF m x
  | 0, 0, x, _, _ => rfl
  | 0, m + 1, x, h, _ => by rw [pvF, pvF, if_pos (by omega)]
  | n + 1, 0, x, _, h => by rw [pvF, pvF, if_pos (by omega)]
  | n + 1, m + 1, x, h1, h2 => by
    rw [pvF, pvF]
    by_cases h : x < 128
    · rw [if_pos h, if_pos h]
    · rw [if_neg h, if_neg h, pvF_enough n m (x / 128) (by omega) (by omega)]
theorem pv_eq (x : Int) : pv x = if x < 128 then [x] else (x % 128 + 128) :: pv (x / 128) := by
  unfold pv
  by_cases h : x < 128
  · rw [if_pos h, pvF_enough x.toNat (x.toNat + 1) x (Nat.le_refl _) (by omega), pvF, if_pos h]
  · rw [if_neg h, pvF_enough x.toNat (x.toNat + 1) x (Nat.le_refl _) (by omega), pvF, if_neg h, pvF_enough x.toNat (x / 128).toNat (x / 128) (by omega) (Nat.le_refl _)]
theorem pv_small {x : Int} (h : x < 128) : pv x = [x] := by rw [pv_eq, if_pos h]
theorem pv_big {x : Int} (h : ¬ x < 128) : pv x = (x % 128 + 128) :: pv (x / 128) := by rw [pv_eq, if_neg h]
theorem pv_pos (x : Int) : 1 ≤ (pv x).length := by rw [pv_eq]; split <;> simp

theorem pv_len : ∀ (n : Nat) (x : Int), x < 128 ^ (n + 1) → (pv x).length ≤ n + 1
  | 0, x, h => by rw [pv_small (by simpa using h)]; simp
  | n + 1, x, h => by
    by_cases h1 : x < 128
    · rw [pv_small h1]; simp
    · rw [pv_big h1]
      have h2 : x / 128 < 128 ^ (n + 1) := by
        have : (128 : Int) ^ (n + 1 + 1) = 128 ^ (n + 1) * 128 := Int.pow_succ ..
        omega
      have := pv_len n (x / 128) h2
      simp; omega

theorem pv_len10 {x : Int} (h : x < 18446744073709551616) : (pv x).length ≤ 10 := pv_len 9 x (by omega)

theorem u8_or_more (y : Int) (h0 : 0 ≤ y) : bits .or .u8 (IntKind.u8.wrap y) 128 = y % 128 + 128 := by
  have e : IntKind.u8.wrap y = y % 256 := IntKind.wrap_u8' y
  rw [e]
  by_cases h : y % 256 < 128
  · rw [u8_or _ _ (by omega) (by omega) (by omega) (by omega), Nat.or_comm]
    have := nat_join 7 128 (y % 256).toNat (by decide) (by omega)
    simp only [show (128 : Int).toNat = 128 from rfl] at *
    rw [this]; omega
  · have : bits .or .u8 (y % 256) 128 = y % 256 := by
      rw [u8_or _ _ (by omega) (by omega) (by omega) (by omega)]
      have a : (y % 256).toNat = 128 + ((y % 256).toNat - 128) := by omega
      have j := nat_join 7 128 ((y % 256).toNat - 128) (by decide) (by omega)
      have : (y % 256).toNat ||| 128 = (y % 256).toNat := by
        conv => lhs; rw [a, ← j]
        rw [Nat.or_comm, ← Nat.or_assoc, Nat.or_self, j]; omega
      simp only [show (128 : Int).toNat = 128 from rfl]
      rw [this]; omega
    rw [this]; omega

theorem not_u64 (a : Nat) (ha : a < 18446744073709551616) : bits .xor .u64 18446744073709551615 (a : Int) = 18446744073709551615 - (a : Int) := by
  show IntKind.u64.wrap ((BitVec.ofInt 64 18446744073709551615 ^^^ BitVec.ofInt 64 (a : Int)).toNat : Int) = _
  have h1 : BitVec.ofInt 64 18446744073709551615 = BitVec.allOnes 64 := by decide
  rw [h1, BitVec.allOnes_xor, BitVec.toNat_not, ofInt_u64 a ha]
  simp [IntKind.wrap, IntKind.bits, IntKind.signed]
  omega
theorem not_i64 (a : Nat) (ha : a < 9223372036854775808) : bits .xor .i64 (-1) (a : Int) = - (a : Int) - 1 := by
  have h1 : BitVec.ofInt 64 (-1) = BitVec.allOnes 64 := by decide
  show IntKind.i64.wrap ((BitVec.ofInt 64 (-1) ^^^ BitVec.ofInt 64 (a : Int)).toNat : Int) = _
  rw [h1, BitVec.allOnes_xor, BitVec.toNat_not, ofInt_u64 a (by omega)]
  simp [IntKind.wrap, IntKind.bits, IntKind.signed]
  omega
end Go.Proofs.Ytmoppmifhhnolaa
