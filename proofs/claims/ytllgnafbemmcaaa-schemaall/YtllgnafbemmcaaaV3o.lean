/- ValueOrder: the walk. -/
import Derived.Test.YtllgnafbemmcaaaV3f
import Derived.Deep.DeepCutAuto
namespace Go.Proofs.Ytllgnafbemmcaaa
open Go.ChangeShapes Go.WideShapes Go.ChangeAt Go.RowKit
set_option linter.unusedVariables false

theorem cmpB : ∀ (a b : List UInt8), Lib.compareBytes a b = cmpL (a.map fun x => (x.toNat : Int)) (b.map fun x => (x.toNat : Int))
  | [], [] => rfl
  | [], _ :: _ => rfl
  | _ :: _, [] => rfl
  | a :: l, b :: r => by
    rw [Lib.compareBytes, List.map_cons, List.map_cons, cmpL, cmpB l r]
    have h1 : (a < b) ↔ ((a.toNat : Int) < (b.toNat : Int)) := by rw [UInt8.lt_iff_toNat_lt]; omega
    have h2 : (b < a) ↔ ((b.toNat : Int) < (a.toNat : Int)) := by rw [UInt8.lt_iff_toNat_lt]; omega
    by_cases c1 : a < b
    · rw [if_pos c1, if_pos (h1.1 c1)]
    · rw [if_neg c1, if_neg (fun h => c1 (h1.2 h))]
      by_cases c2 : b < a
      · rw [if_pos c2, if_pos (h2.1 c2)]
      · rw [if_neg c2, if_neg (fun h => c2 (h2.2 h))]
theorem cmp_nums (a b : ByteArray) : Lib.compareBytes a.data.toList b.data.toList = cmpL (nums a) (nums b) := cmpB _ _
theorem cmpI_range (a b : Int) : cmpI a b = -1 ∨ cmpI a b = 0 ∨ cmpI a b = 1 := by
  unfold cmpI
  split
  · simp
  · split <;> simp
theorem cmpI_eq (a b : Int) : cmpI a b = 0 ↔ a = b := by
  unfold cmpI
  split
  · constructor <;> intro h <;> omega
  · split <;> constructor <;> intro h <;> omega
theorem cmpI_anti (a b : Int) : cmpI b a = - cmpI a b := by
  unfold cmpI
  by_cases h1 : a < b
  · rw [if_neg (by omega), if_pos h1, if_pos h1]; rfl
  · by_cases h2 : b < a
    · rw [if_pos h2, if_neg h1, if_pos h2]
    · rw [if_neg h2, if_neg h1, if_neg h1, if_neg h2]; rfl
theorem cmpI_trans (a b c : Int) (h1 : cmpI a b ≤ 0) (h2 : cmpI b c ≤ 0) : cmpI a c ≤ 0 := by
  unfold cmpI at *
  by_cases e1 : b < a
  · rw [if_neg (by omega), if_pos e1] at h1; omega
  · by_cases e2 : c < b
    · rw [if_neg (by omega), if_pos e2] at h2; omega
    · by_cases e3 : a < c
      · rw [if_pos e3]; omega
      · rw [if_neg e3, if_neg (by omega)]; omega
/-- all that an order has, of three values -/
structure Ord3 (x y z x' : Int) (e : Prop) : Prop where
  range : x = -1 ∨ x = 0 ∨ x = 1
  same : x = 0 ↔ e
  anti : x' = - x
  down : x ≤ 0 → y ≤ 0 → z ≤ 0
  up : 0 ≤ x → 0 ≤ y → 0 ≤ z
  zero : x = 0 → z = y
theorem cmpV_all {k an bn cn : Int} {sa sb sc : ByteArray} (hk : k = 1 ∨ k = 2 ∨ k = 3) (ha : fitsB k an sa = true) (hb : fitsB k bn sb = true) (hc : fitsB k cn sc = true)
    (qa : -9223372036854775808 ≤ an ∧ an ≤ 9223372036854775807) (qb : -9223372036854775808 ≤ bn ∧ bn ≤ 9223372036854775807) :
    Ord3 (cmpV k an sa bn sb) (cmpV k bn sb cn sc) (cmpV k an sa cn sc) (cmpV k bn sb an sa) (an = bn ∧ sa = sb) := by
  have e1 := cmpV_is (s := sa) (r := sb) (n := an) (m := bn) (t := k) (by rw [ha, hb]; rfl)
  have e2 := cmpV_is (s := sb) (r := sc) (n := bn) (m := cn) (t := k) (by rw [hb, hc]; rfl)
  have e3 := cmpV_is (s := sa) (r := sc) (n := an) (m := cn) (t := k) (by rw [ha, hc]; rfl)
  have e4 := cmpV_is (s := sb) (r := sa) (n := bn) (m := an) (t := k) (by rw [hb, ha]; rfl)
  rw [e1, e2, e3, e4]
  have num : ∀ (f : Int → Int), (f an = f bn → an = bn) → (k = 1 ∨ k = 2) → Ord3 (cmpI (f an) (f bn)) (cmpI (f bn) (f cn)) (cmpI (f an) (f cn)) (cmpI (f bn) (f an)) (an = bn ∧ sa = sb) := by
    intro f hf hk2
    refine ⟨cmpI_range _ _, ?_, cmpI_anti _ _, cmpI_trans _ _ _, ?_, ?_⟩
    · rw [cmpI_eq]
      exact ⟨fun h => ⟨hf h, by rw [fits_empty hk2 ha, fits_empty hk2 hb]⟩, fun h => by rw [h.1]⟩
    · intro h1 h2
      have := cmpI_trans (f cn) (f bn) (f an) (by rw [cmpI_anti (f bn)]; omega) (by rw [cmpI_anti (f an)]; omega)
      rw [cmpI_anti (f an)] at this; omega
    · intro h; rw [(cmpI_eq _ _).1 h]
  rcases hk with rfl | rfl | rfl
  · simp only [if_true]; exact num id id (.inl rfl)
  · simp only [show ¬ ((2 : Int) = 1) by decide, if_false, if_true]
    exact num (fun n => IntKind.u64.wrap n) (by intro h; simp only [IntKind.wrap_u64] at h; omega) (.inr rfl)
  · simp only [show ¬ ((3 : Int) = 1) by decide, show ¬ ((3 : Int) = 2) by decide, if_false, cmp_nums]
    have n0 : ∀ {n : Int} {s : ByteArray}, fitsB 3 n s = true → n = 0 := by intro n s h; simp [fitsB] at h; exact h.1
    refine ⟨cmpL_range _ _, ?_, cmpL_anti _ _, cmpL_trans _ _ _, ?_, ?_⟩
    · rw [cmpL_eq]
      exact ⟨fun h => ⟨by rw [n0 ha, n0 hb], nums_inj h⟩, fun h => by rw [h.2]⟩
    · intro h1 h2
      have := cmpL_trans (nums sc) (nums sb) (nums sa) (by rw [cmpL_anti (nums sb)]; omega) (by rw [cmpL_anti (nums sa)]; omega)
      rw [cmpL_anti (nums sa)] at this; omega
    · intro h; rw [(cmpL_eq _ _).1 h]
theorem cmpV_rng (k an : Int) (sa : ByteArray) (bn : Int) (sb : ByteArray) : cmpV k an sa bn sb = -1 ∨ cmpV k an sa bn sb = 0 ∨ cmpV k an sa bn sb = 1 := by
  unfold cmpV
  split
  · split
    · exact cmpI_range _ _
    · split
      · exact cmpI_range _ _
      · rw [cmp_nums]; exact cmpL_range _ _
  · exact .inr (.inl rfl)
theorem ne_split {an bn : Int} {sa sb : ByteArray} (h : ¬ (an = bn ∧ sa = sb)) : (an == bn) = false ∨ (an = bn ∧ (sa.toList == sb.toList) = false) := by
  by_cases h1 : an = bn
  · refine .inr ⟨h1, ?_⟩
    cases hb : (sa.toList == sb.toList)
    · rfl
    · exact absurd ⟨h1, toList_inj (beq_iff_eq.1 hb)⟩ h
  · left; simp [h1]
end Go.Proofs.Ytllgnafbemmcaaa
