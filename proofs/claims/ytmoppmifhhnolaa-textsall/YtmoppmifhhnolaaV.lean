/- Plain facts on what bytes say as a number: no Go in sight. -/
import Derived.Test.YtmoppmifhhnolaaP
namespace Go.Proofs.Ytmoppmifhhnolaa
set_option linter.unusedVariables false

/-- what bytes say, read from place i on with x so far -/
def varGo : List Int → Nat → Int → Int × Int
  | [], _, _ => (0, 0)
  | c :: r, i, x => if i = 9 ∧ 1 < c then (0, 0) else if 128 ≤ c then varGo r (i + 1) (x + c % 128 * 128 ^ i) else if c = 0 ∧ 0 < i then (0, 0) else (x + c % 128 * 128 ^ i, (i : Int) + 1)

/-- what bytes say -/
def varR (zs : List Int) : Int × Int := varGo zs 0 0

theorem pow128_pos (i : Nat) : (0 : Int) < 128 ^ i := Int.pow_pos (by omega)
theorem pow128_succ (i : Nat) : (128 : Int) ^ (i + 1) = 128 ^ i * 128 := Int.pow_succ ..
theorem pow128_mono (i j : Nat) (h : i ≤ j) : (128 : Int) ^ i ≤ 128 ^ j := by
  have : (128 : Nat) ^ i ≤ 128 ^ j := Nat.pow_le_pow_right (by omega) h
  have e : ∀ n : Nat, (128 : Int) ^ n = ((128 ^ n : Nat) : Int) := fun n => by simp
  rw [e i, e j]; omega

theorem split128 (y : Int) (i : Nat) : y % 128 * 128 ^ i + y / 128 * 128 ^ (i + 1) = y * 128 ^ i := by
  rw [pow128_succ]
  have h : y = y % 128 + y / 128 * 128 := by omega
  have e : y / 128 * (128 ^ i * 128) = y / 128 * 128 * 128 ^ i := by rw [Int.mul_comm (128 ^ i) 128, Int.mul_assoc]
  rw [e, ← Int.add_mul, ← h]

theorem mul_le_of {a b p : Int} (hp : 0 < p) (h : a ≤ b) : a * p ≤ b * p := Int.mul_le_mul_of_nonneg_right h (by omega)

/-- what was put is got, whatever is behind it -/
theorem varGo_put : ∀ (m : Nat) (y : Int) (rest : List Int) (i : Nat) (x : Int), y.toNat < m → 0 ≤ y → y * 128 ^ i ≤ 18446744073709551615 → (i = 0 ∨ 0 < y) → varGo (pv y ++ rest) i x = (x + y * 128 ^ i, (i : Int) + (pv y).length)
  | 0, y, rest, i, x, hm, h0, hb, hi => by omega
  | m + 1, y, rest, i, x, hm, h0, hb, hi => by
    have hp := pow128_pos i
    have h9 : i = 9 → y ≤ 1 := by
      rintro rfl
      have : (128 : Int) ^ 9 = 9223372036854775808 := by decide
      omega
    by_cases hy : y < 128
    · rw [pv_small hy]
      simp only [List.cons_append, List.nil_append, varGo, List.length_cons, List.length_nil]
      rw [if_neg (by omega), if_neg (by omega), if_neg (by omega), show y % 128 = y from by omega]
      simp
    · rw [pv_big hy]
      simp only [List.cons_append, varGo]
      have hs := split128 y i
      have hq : 0 ≤ y / 128 * 128 ^ (i + 1) := Int.mul_nonneg (by omega) (Int.le_of_lt (pow128_pos _))
      have hr : 0 ≤ y % 128 * 128 ^ i := Int.mul_nonneg (by omega) (by omega)
      rw [if_neg (by omega), if_pos (by omega), varGo_put m (y / 128) rest (i + 1) _ (by omega) (by omega) (by omega) (by omega)]
      have e : (y % 128 + 128) % 128 = y % 128 := by omega
      rw [e]
      simp only [Prod.mk.injEq, List.length_cons]
      constructor
      · omega
      · omega

theorem varR_put (y : Int) (rest : List Int) (h0 : 0 ≤ y) (h1 : y ≤ 18446744073709551615) : varR (pv y ++ rest) = (y, ((pv y).length : Int)) := by
  have := varGo_put (y.toNat + 1) y rest 0 0 (by omega) h0 (by simpa using h1) (.inl rfl)
  simpa [varR] using this

/-- what is told is put so -/
theorem varGo_back : ∀ (zs : List Int) (i : Nat) (x : Int), i ≤ 9 → (∀ z ∈ zs, 0 ≤ z ∧ z ≤ 255) → (varGo zs i x).2 ≠ 0 →
    ∃ y rest, zs = pv y ++ rest ∧ 0 ≤ y ∧ y * 128 ^ i ≤ 128 ^ 9 * 2 - 1 ∧ (i = 0 ∨ 0 < y) ∧ varGo zs i x = (x + y * 128 ^ i, (i : Int) + (pv y).length)
  | [], i, x, hi, hz, h => by simp [varGo] at h
  | c :: r, i, x, hi, hz, h => by
    have hc := hz c (List.mem_cons_self ..)
    have hp := pow128_pos i
    have h9 : (128 : Int) ^ 9 = 9223372036854775808 := by decide
    simp only [varGo] at h ⊢
    by_cases h1 : i = 9 ∧ 1 < c
    · rw [if_pos h1] at h; simp at h
    rw [if_neg h1] at h ⊢
    by_cases h2 : 128 ≤ c
    · rw [if_pos h2] at h ⊢
      have hi8 : i + 1 ≤ 9 := by omega
      obtain ⟨y, rest, hr, hy0, hyb, hy1, he⟩ := varGo_back r (i + 1) _ hi8 (fun z hz' => hz z (List.mem_cons_of_mem _ hz')) h
      have hy : 0 < y := by omega
      refine ⟨c - 128 + y * 128, rest, ?_, by omega, ?_, .inr (by omega), ?_⟩
      · rw [pv_big (by omega), show (c - 128 + y * 128) % 128 + 128 = c from by omega, show (c - 128 + y * 128) / 128 = y from by omega, hr]; rfl
      · have := split128 (c - 128 + y * 128) i
        rw [show (c - 128 + y * 128) % 128 = c - 128 from by omega, show (c - 128 + y * 128) / 128 = y from by omega] at this
        have h3 : (c - 128) * 128 ^ i ≤ 127 * 128 ^ i := mul_le_of hp (by omega)
        have h4 : 128 ^ i * 128 ≤ (128 : Int) ^ 9 := by rw [← pow128_succ]; exact pow128_mono _ _ hi8
        have h5 : y * 128 ^ (i + 1) ≤ 128 ^ 9 * 2 - 128 ^ (i + 1) := by
          have p1 := pow128_pos (i + 1)
          obtain ⟨d, hd⟩ : ∃ d, 9 = i + 1 + d := ⟨9 - (i + 1), by omega⟩
          have e9 : (128 : Int) ^ 9 * 2 = 128 ^ d * 2 * 128 ^ (i + 1) := by
            rw [hd, Int.pow_add, Int.mul_comm (128 ^ (i + 1)) (128 ^ d), Int.mul_assoc, Int.mul_assoc, Int.mul_comm 2]
          have : y * 128 ^ (i + 1) < 128 ^ d * 2 * 128 ^ (i + 1) := by omega
          have lt : y < 128 ^ d * 2 := Int.lt_of_mul_lt_mul_right this (by omega)
          have := mul_le_of p1 (show y + 1 ≤ 128 ^ d * 2 from by omega)
          rw [Int.add_mul, ← e9] at this
          omega
        rw [pow128_succ] at this h5
        omega
      · rw [he]
        have := split128 (c - 128 + y * 128) i
        rw [show (c - 128 + y * 128) % 128 = c - 128 from by omega, show (c - 128 + y * 128) / 128 = y from by omega] at this
        rw [pv_big (x := c - 128 + y * 128) (by omega), show (c - 128 + y * 128) / 128 = y from by omega, show c % 128 = c - 128 from by omega]
        simp only [Prod.mk.injEq, List.length_cons]
        constructor
        · omega
        · omega
    · rw [if_neg h2] at h ⊢
      by_cases h3 : c = 0 ∧ 0 < i
      · rw [if_pos h3] at h; simp at h
      rw [if_neg h3]
      refine ⟨c, r, by rw [pv_small (by omega)]; rfl, hc.1, ?_, by omega, ?_⟩
      · by_cases e : i = 9
        · subst e; have := mul_le_of hp (show c ≤ 1 from by omega); omega
        · have := mul_le_of hp (show c ≤ 127 from by omega)
          have h4 : 128 ^ i * 128 ≤ (128 : Int) ^ 9 := by rw [← pow128_succ]; exact pow128_mono _ _ (by omega)
          omega
      · rw [pv_small (by omega), show c % 128 = c from by omega]; rfl

theorem varR_back (zs : List Int) (hz : ∀ z ∈ zs, 0 ≤ z ∧ z ≤ 255) (h : (varR zs).2 ≠ 0) :
    ∃ y rest, zs = pv y ++ rest ∧ 0 ≤ y ∧ y ≤ 18446744073709551615 ∧ varR zs = (y, ((pv y).length : Int)) := by
  obtain ⟨y, rest, hr, h0, hb, _, he⟩ := varGo_back zs 0 0 (by omega) hz h
  have h9 : (128 : Int) ^ 9 = 9223372036854775808 := by decide
  refine ⟨y, rest, hr, h0, by omega, ?_⟩
  rw [varR, he]; simp

theorem varGo_none : ∀ (zs : List Int) (i : Nat) (x : Int), (varGo zs i x).2 = 0 → (varGo zs i x).1 = 0
  | [], i, x, h => rfl
  | c :: r, i, x, h => by
    simp only [varGo] at h ⊢
    split at h
    · rename_i h1; rw [if_pos h1]
    · rename_i h1
      rw [if_neg h1]
      split at h
      · rename_i h2; rw [if_pos h2]; exact varGo_none r _ _ h
      · rename_i h2
        rw [if_neg h2]
        split at h
        · rename_i h3; rw [if_pos h3]
        · simp at h; omega
theorem varR_none {zs : List Int} (h : (varR zs).2 = 0) : varR zs = (0, 0) := Prod.ext (varGo_none zs 0 0 h) h

/-- bounds of what is told -/
theorem varR_bd (zs : List Int) (hz : ∀ z ∈ zs, 0 ≤ z ∧ z ≤ 255) : 0 ≤ (varR zs).1 ∧ (varR zs).1 ≤ 18446744073709551615 ∧ 0 ≤ (varR zs).2 ∧ (varR zs).2 ≤ 10 ∧ (varR zs).2 ≤ zs.length := by
  by_cases h : (varR zs).2 = 0
  · rw [varR_none h]; simp; 
  · obtain ⟨y, rest, hr, h0, h1, he⟩ := varR_back zs hz h
    have := pv_len10 (x := y) (by omega)
    rw [he, hr]; simp; omega
end Go.Proofs.Ytmoppmifhhnolaa
