/- A slice of bytes in memory, and the contract of Var. -/
import Derived.Test.YtmoppmifhhnolaaA
import Derived.Test.YtmoppmifhhnolaaV
namespace Go.Proofs.Ytmoppmifhhnolaa
open Go.ChangeShapes Go.WideShapes Go.ChangeAt Go.RowKit
set_option linter.unusedVariables false

/-- the slice at a of n elements holds the bytes zs -/
def BV (w : World) (a : Option Addr) (n : Nat) (zs : List Int) : Prop :=
  zs.length = n ∧ (∀ z ∈ zs, 0 ≤ z ∧ z ≤ 255) ∧ (n = 0 ∨ ∃ b off, a = some ⟨b, off, none⟩ ∧ ∀ i, i < n → w.cell? ⟨b, off + i, none⟩ = some (.int .u8 (zs.getD i 0)))

theorem or_add (x c : Int) (k : Nat) (hk : k ≤ 9) (h0 : 0 ≤ x) (h1 : x < 128 ^ k) (hc0 : 0 ≤ c) (hc1 : c ≤ 255) (hc9 : k = 9 → c ≤ 1) :
    bits BinOp.or IntKind.u64 x (IntKind.u64.wrap (IntKind.u64.wrap (bits BinOp.and IntKind.u8 c 127) * 2 ^ (7 * k))) = x + c % 128 * 128 ^ k := by
  have e1 : bits BinOp.and IntKind.u8 c 127 = c % 128 := by
    rw [u8_and _ _ hc0 (by omega) (by omega) (by omega), show (127 : Int).toNat = 127 from rfl, nat_mask7]; omega
  have e2 : IntKind.u64.wrap (c % 128) = c % 128 := by rw [IntKind.wrap_u64]; omega
  have e3 : (2 : Int) ^ (7 * k) = ((2 ^ (7 * k) : Nat) : Int) := by simp
  have e4 : (128 : Int) ^ k = ((2 ^ (7 * k) : Nat) : Int) := by rw [Nat.pow_mul]; simp
  have hp : 0 < 2 ^ (7 * k) := Nat.pow_pos (by omega)
  have hl : c % 128 * (128 : Int) ^ k ≤ 9223372036854775808 := by
    by_cases e : k = 9
    · subst e
      have := mul_le_of (pow128_pos 9) (show c % 128 ≤ 1 from by have := hc9 rfl; omega)
      have h9 : (128 : Int) ^ 9 = 9223372036854775808 := by decide
      omega
    · have := mul_le_of (pow128_pos k) (show c % 128 ≤ 127 from by omega)
      have h4 : 128 ^ k * 128 ≤ (128 : Int) ^ 9 := by rw [← pow128_succ]; exact pow128_mono _ _ (by omega)
      have h9 : (128 : Int) ^ 9 = 9223372036854775808 := by decide
      have := pow128_pos k
      omega
  have hm : 0 ≤ c % 128 * (128 : Int) ^ k := Int.mul_nonneg (by omega) (Int.le_of_lt (pow128_pos k))
  have hxl : x < 18446744073709551616 := by
    have := pow128_mono k 9 hk
    have h9 : (128 : Int) ^ 9 = 9223372036854775808 := by decide
    omega
  rw [e1, e2, e3, ← e4, IntKind.wrap_u64, Int.emod_eq_of_lt hm (by omega)]
  rw [u64_or _ _ h0 (by omega) hm (by omega), Nat.or_comm, nat_join (7 * k) _ _ ?_ (by omega)]
  · omega
  · have : (c % 128 * (128 : Int) ^ k).toNat = (c % 128).toNat * 2 ^ (7 * k) := by
      obtain ⟨m, hm'⟩ : ∃ m : Nat, c % 128 = m := ⟨(c % 128).toNat, by omega⟩
      rw [hm', e4, ← Int.natCast_mul, Int.toNat_natCast, Int.toNat_natCast]
    rw [this, Nat.mul_mod_left]

theorem acc_lt (x c : Int) (k : Nat) (h0 : 0 ≤ x) (h1 : x < 128 ^ k) (hc0 : 0 ≤ c) : 0 ≤ x + c % 128 * 128 ^ k ∧ x + c % 128 * 128 ^ k < 128 ^ (k + 1) := by
  have hm : 0 ≤ c % 128 * (128 : Int) ^ k := Int.mul_nonneg (by omega) (Int.le_of_lt (pow128_pos k))
  have := mul_le_of (pow128_pos k) (show c % 128 ≤ 127 from by omega)
  rw [pow128_succ]
  omega

theorem ret_two {a b c d : Int} (h1 : a = b) (h2 : c = d) : Ending.returned (.tuple #[.int .u64 a, .int .i64 c]) = .returned (.tuple #[.int .u64 b, .int .i64 d]) := by rw [h1, h2]

theorem varGo_big (c : Int) (r : List Int) (i : Nat) (x : Int) (h1 : ¬ (i = 9 ∧ 1 < c)) (h2 : 128 ≤ c) : varGo (c :: r) i x = varGo r (i + 1) (x + c % 128 * 128 ^ i) := by
  rw [varGo, if_neg h1, if_pos h2]
theorem varGo_last (c : Int) (r : List Int) (i : Nat) (x : Int) (h1 : ¬ (i = 9 ∧ 1 < c)) (h2 : c < 128) (h3 : ¬ (c = 0 ∧ 0 < i)) : varGo (c :: r) i x = (x + c % 128 * 128 ^ i, (i : Int) + 1) := by
  rw [varGo, if_neg h1, if_neg (by omega), if_neg h3]
theorem varGo_zero (c : Int) (r : List Int) (i : Nat) (x : Int) (h2 : c = 0) (h3 : 0 < i) : varGo (c :: r) i x = (0, 0) := by
  rw [varGo, if_neg (by omega), if_neg (by omega), if_pos ⟨h2, h3⟩]
theorem varGo_over (c : Int) (r : List Int) (i : Nat) (x : Int) (h1 : i = 9 ∧ 1 < c) : varGo (c :: r) i x = (0, 0) := by
  rw [varGo, if_pos h1]

set_option maxHeartbeats 1000000 in
theorem var_any (a : Option Addr) (n cap : Nat) (zs : List Int) (w : World) (hv : BV w a n zs) :
    Calls Try.prog 32 #[.slice a n cap] w fun e w' => e = .returned (.tuple #[.int .u64 (varR zs).1, .int .i64 (varR zs).2]) ∧ w' = w := by
  obtain ⟨hlen, hz, hn⟩ := hv
  go_enter Try.func32, Try.ntmps32
  go_wp2
  go_loop [4, 9] (fun x i => ∃ (k : Nat) (y : Int), k ≤ 9 ∧ k ≤ n ∧ i = .int .i64 (k : Int) ∧ x = .int .u64 y ∧ 0 ≤ y ∧ y < 128 ^ k ∧ Hid (varR zs = varGo (zs.drop k) k y)) (fun _ i => n - (intOf i).toNat)
  case atStart => exact ⟨0, 0, by omega, by omega, rfl, rfl, by omega, by simp, rfl⟩
  case round =>
    obtain ⟨k, y, hk9, hkn, rfl, rfl, hy0, hy1, hrel'⟩ := hrel
    by_cases hlt : k < n
    · rcases hn with hn | ⟨b, off, rfl, hcell⟩
      · omega
      have hc := hcell k hlt
      obtain ⟨c, hcd⟩ : ∃ c, c = zs.getD k 0 := ⟨_, rfl⟩
      rw [← hcd] at hc
      have hdrop : zs.drop k = c :: zs.drop (k + 1) := by
        rw [List.drop_eq_getElem_cons (by omega), hcd]; simp [show k < zs.length from by omega]
      have hcb : 0 ≤ c ∧ c ≤ 255 := by apply hz; rw [hcd]; simp [show k < zs.length from by omega]
      obtain ⟨hc0, hc1⟩ := hcb
      have HD : Hid (varR zs = varGo (c :: zs.drop (k + 1)) k y) := by show _ = _; rw [← hdrop]; exact hrel'.out
      clear hdrop hcd hcell hz hrel'
      by_cases h9 : k = 9
      · subst h9
        by_cases hc2 : 1 < c
        · go_wp2
          go_ret2
          exact ⟨ret_two (by rw [HD.out, varGo_over _ _ _ _ ⟨rfl, hc2⟩]) (by rw [HD.out, varGo_over _ _ _ _ ⟨rfl, hc2⟩]), rfl⟩
        · by_cases hc3 : c = 0
          · subst hc3
            go_wp2
            go_ret2
            exact ⟨ret_two (by rw [HD.out, varGo_zero _ _ _ _ rfl (by omega)]) (by rw [HD.out, varGo_zero _ _ _ _ rfl (by omega)]), rfl⟩
          · obtain rfl : c = 1 := by omega
            have HO : Hid (bits BinOp.or IntKind.u64 y (IntKind.u64.wrap (IntKind.u64.wrap (bits BinOp.and IntKind.u8 1 127) * 9223372036854775808)) = y + 1 % 128 * 128 ^ 9) := by
              have := or_add y 1 9 (by omega) hy0 hy1 (by omega) (by omega) (by omega)
              show _ = _
              simpa using this
            go_wp2
            go_ret2
            exact ⟨ret_two (by rw [HD.out, varGo_last _ _ _ _ (by omega) (by omega) (by omega)]; exact HO.out) (by rw [HD.out, varGo_last _ _ _ _ (by omega) (by omega) (by omega)]; rfl), rfl⟩
      · have hk8 : ((k : Int) == 9) = false := by rw [beq_eq_false_iff_ne]; omega
        have hor := or_add y c k hk9 hy0 hy1 hc0 hc1 (by omega)
        have hac := acc_lt y c k hy0 hy1 hc0
        have HO : Hid (_ = _) := hor
        clear hor
        by_cases h128 : 128 ≤ c
        · go_wp2
          go_round
          case rel =>
            rw [HO.out]
            refine ⟨k + 1, _, by omega, by omega, by go_num, rfl, hac.1, hac.2, ?_⟩
            show _ = _
            rw [HD.out, varGo_big _ _ _ _ (by omega) h128]
          case measure => simp [intOf]; omega
        · by_cases hc3 : c = 0
          · by_cases hk0 : k = 0
            · subst hk0 hc3
              have hc' : w.cell? ⟨b, off, none⟩ = some (.int .u8 0) := by simpa using hc
              clear hc
              go_wp2
              go_ret2
              exact ⟨ret_two (by rw [HD.out, varGo_last _ _ _ _ (by omega) (by omega) (by omega)]; exact HO.out) (by rw [HD.out, varGo_last _ _ _ _ (by omega) (by omega) (by omega)]; rfl), rfl⟩
            · subst hc3
              have hkp : 0 < k := by omega
              go_wp2
              go_ret2
              exact ⟨ret_two (by rw [HD.out, varGo_zero _ _ _ _ rfl (by omega)]) (by rw [HD.out, varGo_zero _ _ _ _ rfl (by omega)]), rfl⟩
          · have hne : (c == 0) = false := by rw [beq_eq_false_iff_ne]; omega
            go_wp2
            go_ret2
            exact ⟨ret_two (by rw [HD.out, varGo_last _ _ _ _ (by omega) (by omega) (by omega)]; exact HO.out) (by rw [HD.out, varGo_last _ _ _ _ (by omega) (by omega) (by omega)]), rfl⟩
    · have HD : Hid (varR zs = (0, 0)) := by
        show _ = _
        rw [hrel'.out, List.drop_eq_nil_of_le (by omega)]; rfl
      clear hrel'
      go_wp2
      go_ret2
      exact ⟨ret_two (by rw [HD.out]) (by rw [HD.out]), rfl⟩
end Go.Proofs.Ytmoppmifhhnolaa
