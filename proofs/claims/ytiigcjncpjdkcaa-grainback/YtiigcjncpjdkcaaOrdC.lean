/- Texts that belong together, one behind the other: Q9d, Q9e. -/
import Derived.Test.YtiigcjncpjdkcaaOrdB
/- Rows that are put in order in place, in memory: two halves that are in order are merged: whatever they are. -/
namespace Go.Proofs.Ytiigcjncpjdkcaa
open Go.ChangeShapes Go.WideShapes Go.ChangeAt Go.RowKit
set_option linter.unusedVariables false
set_option maxRecDepth 4000

end Go.Proofs.Ytiigcjncpjdkcaa
/- Rows that are put in order in place, in memory: the whole: blocks of twenty, then twice as many, and so on. -/
namespace Go.Proofs.Ytiigcjncpjdkcaa
open Go.ChangeShapes Go.WideShapes Go.ChangeAt Go.RowKit
set_option linter.unusedVariables false
set_option maxRecDepth 4000

section
variable {c : Nat → Nat → Int}
/-- all blocks of z are in order -/
def BlS (c : Nat → Nat → Int) (t : Nat → Nat) (z n : Nat) : Prop := ∀ q, InS c t (q * z) (min n ((q + 1) * z))
/-- the first k blocks of z are in order -/
def DonS (c : Nat → Nat → Int) (t : Nat → Nat) (z k : Nat) : Prop := ∀ q, q < k → InS c t (q * z) ((q + 1) * z)
/-- the blocks of z from a on are in order -/
def RsS (c : Nat → Nat → Int) (t : Nat → Nat) (z a n : Nat) : Prop := ∀ q, InS c t (a + q * z) (min n (a + (q + 1) * z))
theorem DonS.zero (c : Nat → Nat → Int) (t : Nat → Nat) (z : Nat) : DonS c t z 0 := fun q h => by omega
theorem mul_up {q k z : Nat} (h : q < k) : (q + 1) * z ≤ k * z := Nat.mul_le_mul_right _ h
theorem DonS.step {t t' : Nat → Nat} {z k a b : Nat} (h : DonS c t z k) (ha : a = k * z) (hb : b = (k + 1) * z) (hm : MvS a b t t') (hi : InS c t' a b) : DonS c t' z (k + 1) := fun q hq => by
  by_cases e : q = k
  · subst e; rw [← ha, ← hb]; exact hi
  · have := mul_up (z := z) (show q < k by omega)
    exact (h q (by omega)).out hm (.inl (by omega))
theorem DonS.close {t : Nat → Nat} {z k a n : Nat} (h : DonS c t z k) (ha : a = k * z) (hi : InS c t a n) (hn : n ≤ (k + 1) * z) (hz : 0 < z) : BlS c t z n := fun q => by
  by_cases e : q < k
  · exact (h q e).mono (Nat.le_refl _) (Nat.min_le_right _ _)
  · by_cases e2 : q = k
    · subst e2; rw [← ha]; exact hi.mono (Nat.le_refl _) (Nat.min_le_left _ _)
    · have := mul_up (z := z) (show k < q by omega)
      refine InS.none _ _ ?_
      have := Nat.min_le_left n ((q + 1) * z)
      omega
theorem BlS.all {t : Nat → Nat} {z n : Nat} (h : BlS c t z n) (hz : n ≤ z) : InS c t 0 n := by
  have := h 0
  rw [Nat.zero_mul, Nat.zero_add, Nat.one_mul, Nat.min_eq_left hz] at this
  exact this
theorem RsS.start {t : Nat → Nat} {z n : Nat} (h : BlS c t z n) : RsS c t z 0 n := fun q => by rw [Nat.zero_add, Nat.zero_add]; exact h q
theorem RsS.step {t t' : Nat → Nat} {z a b n : Nat} (h : RsS c t z a n) (hb : b = a + 2 * z) (hm : MvS a b t t') : RsS c t' z b n := fun q => by
  have e1 : b + q * z = a + (q + 2) * z := by rw [Nat.add_mul, hb]; omega
  have e2 : b + (q + 1) * z = a + (q + 2 + 1) * z := by rw [Nat.add_mul (q + 2), Nat.add_mul q 2, Nat.add_mul q 1, hb]; omega
  rw [e1, e2]
  refine (h (q + 2)).out hm (.inr ?_)
  rw [Nat.add_mul]; omega
theorem RsS.one {t : Nat → Nat} {z a n : Nat} (h : RsS c t z a n) : InS c t a (min n (a + z)) := by
  have := h 0
  rw [Nat.zero_mul, Nat.add_zero, Nat.zero_add, Nat.one_mul] at this
  exact this
theorem RsS.two {t : Nat → Nat} {z a n : Nat} (h : RsS c t z a n) : InS c t (a + z) (min n (a + 2 * z)) := by
  have := h 1
  rw [Nat.one_mul] at this
  exact this
end
end Go.Proofs.Ytiigcjncpjdkcaa
