/- The document's own answers for layer 1: contracts. -/
import Derived.Test.YtmoppmifhhnolaaK
namespace Go.Proofs.Ytmoppmifhhnolaa
open Go.ChangeShapes Go.WideShapes Go.ChangeAt Go.RowKit
set_option linter.unusedVariables false

theorem BV.one (w : World) (c : Int) (h0 : 0 ≤ c) (h1 : c ≤ 255) : BV (w.alloc (.cells #[.int .u8 c] 5)) (some ⟨w.heap.size, 0, none⟩) 1 [c] := by
  refine ⟨rfl, by simp; omega, .inr ⟨_, _, rfl, fun i hi => ?_⟩⟩
  obtain rfl : i = 0 := by omega
  rw [World.cell?_alloc_at (hn := rfl)]; rfl

set_option maxHeartbeats 400000 in
theorem rputvar_any (x : Int) (w : World) (h1 : 0 ≤ x) (h2 : x ≤ 18446744073709551615) :
    Calls Try.prog 26 #[.int .u64 x] w fun e w' => ∃ v, e = .returned v ∧ OB w' w.heap.size v (pv x) ∧ Below w.heap.size w w' := by
  go_enter Try.func26, Try.ntmps26
  go_wp2
  go_loopw [0, 3] (fun a v wr => ∃ (y : Int) (pre : List Int), 0 ≤ y ∧ y ≤ 18446744073709551615 ∧ a = .int .u64 y ∧ Hid (pv x = pre ++ pv y) ∧ OB wr w.heap.size v pre ∧ Below w.heap.size w wr) (fun a _ _ => (intOf a).toNat)
  case atStart => exact ⟨x, [], h1, h2, rfl, rfl, OB.empty w _ (Nat.le_refl _) _ rfl, (Below.refl _ _).alloc (Nat.le_refl _) _⟩
  case round =>
    obtain ⟨y, pre, hy1, hy2, rfl, hp, hown, hbel⟩ := hrel
    have hlen : pre.length + (pv y).length ≤ 10 := by
      have := pv_len10 (x := x) (by omega)
      rw [hp.out] at this; simpa using this
    have hpos := pv_pos y
    have hsz := hbel.size
    by_cases hlt : y < 128
    · go_wp2_with (at_builtin; refine append_bv rfl (.tmp 16) (.tmp 19) rfl w.heap.size _ pre rfl (hown.alloc _) _ _ _ [y] rfl (BV.one _ y hy1 (by omega)) (by intro h; cases h) (by simp only [List.length_cons, List.length_nil]; omega) (by rw [heap_alloc]; omega) ?_; intro v' w1 ho hb)
      have e : pre ++ [y] = pv x := by rw [hp.out, pv_small hlt]
      rw [e] at ho
      go_ret
      exact ⟨_, rfl, ho, (hbel.alloc hsz _).trans hb⟩
    · go_wp2_with (at_builtin; refine append_bv rfl (.tmp 7) (.tmp 12) rfl w.heap.size _ pre rfl (hown.alloc _) _ _ _ [y % 128 + 128] rfl (BV.one _ (y % 128 + 128) (by omega) (by omega)) (by intro h; cases h) (by simp only [List.length_cons, List.length_nil]; omega) (by rw [heap_alloc]; omega) ?_; intro v' w1 ho hb)
      go_roundw
      case rel =>
        refine ⟨y / 128, pre ++ [y % 128 + 128], by omega, by omega, rfl, ?_, ho, (hbel.alloc hsz _).trans hb⟩
        show _ = _
        rw [hp.out, pv_big hlt]; simp
      case measure => simp [intOf]; omega

theorem w8_snoc (x : Int) (k : Nat) (hk : k < 8) : (w8 x).take (k + 1) = (w8 x).take k ++ [x / 2 ^ (8 * k) % 256] := by
  rw [List.take_succ_eq_append_getElem (by rw [w8_len]; exact hk)]
  simp [w8, d8]
theorem div_step (x : Int) (k : Nat) : x / 2 ^ (8 * k) / 256 = x / 2 ^ (8 * (k + 1)) := by
  rw [Int.ediv_ediv_of_nonneg (Int.le_of_lt (Int.pow_pos (by omega))), show 8 * (k + 1) = 8 * k + 8 from by omega, Int.pow_add]; rfl
theorem div_bd (x : Int) (k : Nat) (h0 : 0 ≤ x) (h1 : x ≤ 18446744073709551615) : 0 ≤ x / 2 ^ (8 * k) ∧ x / 2 ^ (8 * k) ≤ 18446744073709551615 := by
  have hp : (0 : Int) < 2 ^ (8 * k) := Int.pow_pos (by omega)
  exact ⟨Int.ediv_nonneg h0 (by omega), Int.le_trans (Int.ediv_le_self _ h0) h1⟩

theorem acc8_top (zs : List Int) (m : Nat) (y c : Int) (h : c = zs.getD m 0) : acc8 zs (m + 1) + y * 2 ^ (8 * (m + 1)) = acc8 zs m + (y * 256 + c) * 2 ^ (8 * m) := by
  have e : (2 : Int) ^ (8 * (m + 1)) = 256 * 2 ^ (8 * m) := by rw [show 8 * (m + 1) = 8 + 8 * m from by omega, Int.pow_add]; rfl
  rw [acc8, ← h, e, Int.add_mul, ← Int.mul_assoc]; omega
end Go.Proofs.Ytmoppmifhhnolaa
