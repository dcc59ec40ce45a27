/- What the document's own Var says is what varR says: plain facts. -/
import Derived.Test.YtmoppmifhhnolaaV
namespace Go.Proofs.Ytmoppmifhhnolaa
set_option linter.unusedVariables false

def valTo (zs : List Int) : Nat → Int
  | 0 => 0
  | k + 1 => valTo zs k + zs.getD k 0 % 128 * 128 ^ k
theorem valTo_cons (c : Int) (zs : List Int) : ∀ k, valTo (c :: zs) (k + 1) = c % 128 + 128 * valTo zs k
  | 0 => by simp [valTo]
  | k + 1 => by
    have h := valTo_cons c zs k
    rw [valTo, h, valTo, Int.mul_add, pow128_succ]
    have e : (c :: zs).getD (k + 1) 0 = zs.getD k 0 := by simp
    rw [e, Int.add_assoc]
    congr 2
    rw [← Int.mul_assoc, Int.mul_comm]
theorem valTo_pv : ∀ (m : Nat) (y : Int) (rest : List Int), y.toNat < m → 0 ≤ y → valTo (pv y ++ rest) (pv y).length = y
  | 0, y, rest, hm, h0 => by omega
  | m + 1, y, rest, hm, h0 => by
    by_cases h : y < 128
    · rw [pv_small h]; simp [valTo]; omega
    · rw [pv_big h, List.cons_append, List.length_cons, valTo_cons, valTo_pv m (y / 128) rest (by omega) (by omega)]
      omega
theorem pv_digits : ∀ (m : Nat) (y : Int) (j : Nat), y.toNat < m → 0 ≤ y → j < (pv y).length → (j + 1 < (pv y).length → 128 ≤ (pv y).getD j 0) ∧ (j + 1 = (pv y).length → (pv y).getD j 0 < 128)
  | 0, y, j, hm, h0, hj => by omega
  | m + 1, y, j, hm, h0, hj => by
    by_cases h : y < 128
    · rw [pv_small h] at hj ⊢
      simp at hj
      subst hj
      simp; omega
    · rw [pv_big h] at hj ⊢
      have hp := pv_pos (y / 128)
      cases j with
      | zero =>
        refine ⟨fun _ => ?_, fun h' => ?_⟩
        · simp; omega
        · rw [List.length_cons] at h'; omega
      | succ j =>
        simp at hj
        have := pv_digits m (y / 128) j (by omega) (by omega) hj
        simpa using this
theorem get_app (l r : List Int) (j : Nat) (h : j < l.length) : (l ++ r).getD j 0 = l.getD j 0 := by
  simp [List.getD, List.getElem?_append_left h]

theorem rvar_none (zs : List Int) (k : Nat) (hz : ∀ z ∈ zs, 0 ≤ z ∧ z ≤ 255) (hb : ∀ j, j < k → 128 ≤ zs.getD j 0) (hk : zs.length ≤ k ∨ 10 ≤ k) : varR zs = (0, 0) := by
  by_cases h : (varR zs).2 = 0
  · exact varR_none h
  · obtain ⟨y, rest, he, hy0, hy1, hv⟩ := varR_back zs hz h
    have hp := pv_pos y
    have h10 := pv_len10 (x := y) (by omega)
    have hd := (pv_digits _ y ((pv y).length - 1) (Nat.lt_succ_self _) hy0 (by omega)).2 (by omega)
    have hl : (pv y).length ≤ zs.length := by rw [he]; simp
    have := hb ((pv y).length - 1) (by omega)
    rw [he, get_app _ _ _ (by omega)] at this
    omega
theorem rvar_some (zs : List Int) (k : Nat) (hz : ∀ z ∈ zs, 0 ≤ z ∧ z ≤ 255) (hk : k < zs.length) (hb : ∀ j, j < k → 128 ≤ zs.getD j 0) (hc : zs.getD k 0 < 128) :
    varR zs = if pv (valTo zs (k + 1) % 18446744073709551616) = zs.take (k + 1) then (valTo zs (k + 1) % 18446744073709551616, (k : Int) + 1) else (0, 0) := by
  split
  · rename_i he
    have h0 : 0 ≤ valTo zs (k + 1) % 18446744073709551616 := by omega
    have hs : zs = pv (valTo zs (k + 1) % 18446744073709551616) ++ zs.drop (k + 1) := by rw [he, List.take_append_drop]
    have := varR_put (valTo zs (k + 1) % 18446744073709551616) (zs.drop (k + 1)) h0 (by omega)
    rw [← hs, he] at this
    rw [this]
    simp; omega
  · rename_i hne
    by_cases h : (varR zs).2 = 0
    · exact varR_none h
    · exfalso
      obtain ⟨y, rest, he, hy0, hy1, hv⟩ := varR_back zs hz h
      have hp := pv_pos y
      have hl : (pv y).length = k + 1 := by
        rcases Nat.lt_trichotomy (pv y).length (k + 1) with h' | h' | h'
        · have hd := (pv_digits _ y ((pv y).length - 1) (Nat.lt_succ_self _) hy0 (by omega)).2 (by omega)
          have := hb ((pv y).length - 1) (by omega)
          rw [he, get_app _ _ _ (by omega)] at this
          omega
        · exact h'
        · have hd := (pv_digits _ y k (Nat.lt_succ_self _) hy0 (by omega)).1 h'
          rw [he, get_app _ _ _ (by omega)] at hc
          omega
      have hv := valTo_pv _ y rest (Nat.lt_succ_self _) hy0
      rw [← he, hl] at hv
      apply hne
      rw [hv, Int.emod_eq_of_lt hy0 (by omega), he, ← hl]
      simp
theorem val_step (zs : List Int) (k : Nat) (c : Int) (hc : c = zs.getD k 0) :
    (valTo zs k % 18446744073709551616 + c % 128 * (128 ^ k % 18446744073709551616) % 18446744073709551616) % 18446744073709551616 = valTo zs (k + 1) % 18446744073709551616 := by
  rw [valTo, ← hc, Int.add_emod (valTo zs k), Int.mul_emod (c % 128) (128 ^ k), Int.mul_emod (c % 128) (128 ^ k % 18446744073709551616), Int.emod_emod]
theorem scale_step (k : Nat) : 128 ^ k % 18446744073709551616 * 128 % 18446744073709551616 = (128 : Int) ^ (k + 1) % 18446744073709551616 := by
  rw [pow128_succ, Int.mul_emod (128 ^ k) 128, Int.mul_emod (128 ^ k % 18446744073709551616) 128, Int.emod_emod]
end Go.Proofs.Ytmoppmifhhnolaa
