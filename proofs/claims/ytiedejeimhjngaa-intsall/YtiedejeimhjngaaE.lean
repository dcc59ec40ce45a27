/- The document's own answers for layer 1: contracts. -/
import Derived.Test.YtiedejeimhjngaaK
namespace Go.Proofs.Ytiedejeimhjngaa
open Go.ChangeShapes Go.WideShapes Go.ChangeAt Go.RowKit
set_option linter.unusedVariables false

theorem BV.one (w : World) (c : Int) (h0 : 0 ≤ c) (h1 : c ≤ 255) : BV (w.alloc (.cells #[.int .u8 c] 5)) (some ⟨w.heap.size, 0, none⟩) 1 [c] := by
  refine ⟨rfl, by simp; omega, .inr ⟨_, _, rfl, fun i hi => ?_⟩⟩
  obtain rfl : i = 0 := by omega
  rw [World.cell?_alloc_at (hn := rfl)]; rfl

set_option maxHeartbeats 400000 in
theorem rputvar_any (x : Int) (w : World) (h1 : 0 ≤ x) (h2 : x ≤ 18446744073709551615) :
    Calls Try.prog 29 #[.int .u64 x] w fun e w' => ∃ v, e = .returned v ∧ OB w' w.heap.size v (pv x) ∧ Below w.heap.size w w' := by
  go_enter Try.func29, Try.ntmps29
  go_wp2
  go_loopw [0, 3] (fun a v wr => ∃ (y : Int) (pre : List Int), 0 ≤ y ∧ y ≤ 18446744073709551615 ∧ a = .int .u64 y ∧ Hid (pv x = pre ++ pv y) ∧ OB wr w.heap.size v pre ∧ Below w.heap.size w wr) (fun a _ _ => (intOf a).toNat)
  case atStart => exact ⟨x, [], h1, h2, rfl, rfl, OB.empty w _ (Nat.le_refl _) _ rfl, (Below.refl _ _).alloc (Nat.le_refl _) _⟩
  case round =>
    obtain ⟨y, pre, hy1, hy2, rfl, hp, hown, hbel⟩ := hrel
    have hlen : pre.length + (pv y).length ≤ 10 := by
      have := pv_len10 (x := x) (by omega)
      rw [hp.out] at this; simpa using this
    have hpos := pv_pos y
    have hsz := hbel.size
    by_cases hlt : y < 128
    · go_wp2_with (at_builtin; refine append_bv rfl (.tmp 16) (.tmp 19) rfl w.heap.size _ pre rfl (hown.alloc _) _ _ _ [y] rfl (BV.one _ y hy1 (by omega)) (by intro h; cases h) (by simp only [List.length_cons, List.length_nil]; omega) (by rw [heap_alloc]; omega) ?_; intro v' w1 ho hb)
      have e : pre ++ [y] = pv x := by rw [hp.out, pv_small hlt]
      rw [e] at ho
      go_ret
      exact ⟨_, rfl, ho, (hbel.alloc hsz _).trans hb⟩
    · go_wp2_with (at_builtin; refine append_bv rfl (.tmp 7) (.tmp 12) rfl w.heap.size _ pre rfl (hown.alloc _) _ _ _ [y % 128 + 128] rfl (BV.one _ (y % 128 + 128) (by omega) (by omega)) (by intro h; cases h) (by simp only [List.length_cons, List.length_nil]; omega) (by rw [heap_alloc]; omega) ?_; intro v' w1 ho hb)
      go_roundw
      case rel =>
        refine ⟨y / 128, pre ++ [y % 128 + 128], by omega, by omega, rfl, ?_, ho, (hbel.alloc hsz _).trans hb⟩
        show _ = _
        rw [hp.out, pv_big hlt]; simp
      case measure => simp [intOf]; omega

theorem w8_snoc (x : Int) (k : Nat) (hk : k < 8) : (w8 x).take (k + 1) = (w8 x).take k ++ [x / 2 ^ (8 * k) % 256] := by
  rw [List.take_succ_eq_append_getElem (by rw [w8_len]; exact hk)]
  simp [w8, d8]
theorem div_step (x : Int) (k : Nat) : x / 2 ^ (8 * k) / 256 = x / 2 ^ (8 * (k + 1)) := by
  rw [Int.ediv_ediv_of_nonneg (Int.le_of_lt (Int.pow_pos (by omega))), show 8 * (k + 1) = 8 * k + 8 from by omega, Int.pow_add]; rfl
theorem div_bd (x : Int) (k : Nat) (h0 : 0 ≤ x) (h1 : x ≤ 18446744073709551615) : 0 ≤ x / 2 ^ (8 * k) ∧ x / 2 ^ (8 * k) ≤ 18446744073709551615 := by
  have hp : (0 : Int) < 2 ^ (8 * k) := Int.pow_pos (by omega)
  exact ⟨Int.ediv_nonneg h0 (by omega), Int.le_trans (Int.ediv_le_self _ h0) h1⟩

set_option maxHeartbeats 400000 in
theorem rput64_any (x : Int) (w : World) (h1 : 0 ≤ x) (h2 : x ≤ 18446744073709551615) :
    Calls Try.prog 26 #[.int .u64 x] w fun e w' => ∃ v, e = .returned v ∧ OB w' w.heap.size v (w8 x) ∧ Below w.heap.size w w' := by
  go_enter Try.func26, Try.ntmps26
  go_wp2
  go_loopw [0, 3, 4] (fun a v i wr => ∃ (k : Nat) (y : Int) (bs : List Int), k ≤ 8 ∧ i = .int .i64 (k : Int) ∧ a = .int .u64 y ∧ 0 ≤ y ∧ y ≤ 18446744073709551615 ∧ Hid (y = x / 2 ^ (8 * k)) ∧ Hid (bs = (w8 x).take k) ∧ bs.length ≤ 8 ∧ OB wr w.heap.size v bs ∧ Below w.heap.size w wr) (fun _ _ i _ => 8 - (intOf i).toNat)
  case atStart => exact ⟨0, x, [], by omega, rfl, rfl, h1, h2, (show _ = _ by simp), rfl, by simp, OB.empty w _ (Nat.le_refl _) _ rfl, (Below.refl _ _).alloc (Nat.le_refl _) _⟩
  case round =>
    obtain ⟨k, y, bs, hk, rfl, rfl, hy0, hy1, HY, HB, hbl, hown, hbel⟩ := hrel
    have hsz := hbel.size
    by_cases hlt : k < 8
    · go_wp2_with (at_builtin; refine append_bv rfl (.tmp 10) (.tmp 14) rfl w.heap.size _ bs rfl (hown.alloc _) _ _ _ [y % 256] rfl (BV.one _ (y % 256) (by omega) (by omega)) (by intro h; cases h) (by simp only [List.length_cons, List.length_nil]; omega) (by rw [heap_alloc]; omega) ?_; intro v' w1 ho hb)
      go_roundw
      case rel =>
        have e : bs ++ [y % 256] = (w8 x).take (k + 1) := by rw [w8_snoc x k hlt, HB.out, HY.out]
        refine ⟨k + 1, y / 256, _, by omega, by go_num, rfl, by omega, by omega, ?_, e, ?_, ho, (hbel.alloc hsz _).trans hb⟩
        · show _ = _; rw [HY.out, div_step]
        · rw [e]; simp; omega
      case measure => simp [intOf]; omega
    · obtain rfl : k = 8 := by omega
      have e : bs = w8 x := by rw [HB.out]; rfl
      rw [e] at hown
      go_wp2
      go_ret
      exact ⟨_, rfl, hown, hbel⟩
set_option maxHeartbeats 400000 in
theorem rzig_neg (a : Int) (w : World) (h1 : -9223372036854775808 ≤ a) (h2 : a < 0) :
    Calls Try.prog 30 #[.int .i64 a] w fun e w' => e = .returned (.int .u64 (-2*a-1)) ∧ w' = w := by
  go_enter Try.func30, Try.ntmps30
  go_wp2
  go_ret
  exact ⟨ret_int (by omega), rfl⟩
set_option maxHeartbeats 400000 in
theorem rzig_pos (a : Int) (w : World) (h1 : 0 ≤ a) (h2 : a ≤ 9223372036854775807) :
    Calls Try.prog 30 #[.int .i64 a] w fun e w' => e = .returned (.int .u64 (2*a)) ∧ w' = w := by
  go_enter Try.func30, Try.ntmps30
  go_wp2
  go_ret
  exact ⟨rfl, rfl⟩
set_option maxHeartbeats 400000 in
theorem rzag_odd (a : Int) (w : World) (h1 : 0 ≤ a) (h2 : a ≤ 18446744073709551615) (ho : a % 2 = 1) :
    Calls Try.prog 24 #[.int .u64 a] w fun e w' => e = .returned (.int .i64 (- (a / 2) - 1)) ∧ w' = w := by
  have hb : (a % 2 == 1) = true := by rw [ho]; rfl
  clear ho
  go_enter Try.func24, Try.ntmps24
  go_wp2
  go_ret
  exact ⟨rfl, rfl⟩
set_option maxHeartbeats 400000 in
theorem rzag_even (a : Int) (w : World) (h1 : 0 ≤ a) (h2 : a ≤ 18446744073709551615) (ho : a % 2 = 0) :
    Calls Try.prog 24 #[.int .u64 a] w fun e w' => e = .returned (.int .i64 (a / 2)) ∧ w' = w := by
  have hb : (a % 2 == 1) = false := by rw [ho]; rfl
  clear ho
  go_enter Try.func24, Try.ntmps24
  go_wp2
  go_ret
  exact ⟨rfl, rfl⟩

set_option maxHeartbeats 400000 in
theorem rget64_few (a : Option Addr) (n cap : Nat) (w : World) (hn : n < 8) :
    Calls Try.prog 23 #[.slice a n cap] w fun e w' => e = .returned (.tuple #[.int .u64 0, .bool false]) ∧ w' = w := by
  go_enter Try.func23, Try.ntmps23
  go_wp2
  go_ret2
  exact ⟨rfl, rfl⟩
theorem acc8_top (zs : List Int) (m : Nat) (y c : Int) (h : c = zs.getD m 0) : acc8 zs (m + 1) + y * 2 ^ (8 * (m + 1)) = acc8 zs m + (y * 256 + c) * 2 ^ (8 * m) := by
  have e : (2 : Int) ^ (8 * (m + 1)) = 256 * 2 ^ (8 * m) := by rw [show 8 * (m + 1) = 8 + 8 * m from by omega, Int.pow_add]; rfl
  rw [acc8, ← h, e, Int.add_mul, ← Int.mul_assoc]; omega
set_option maxHeartbeats 400000 in
theorem rget64_many (a : Option Addr) (n cap : Nat) (zs : List Int) (w : World) (hv : BV w a n zs) (hn : 8 ≤ n) :
    Calls Try.prog 23 #[.slice a n cap] w fun e w' => e = .returned (.tuple #[.int .u64 (acc8 zs 8), .bool true]) ∧ w' = w := by
  obtain ⟨hl, hz, hc⟩ := hv
  rcases hc with hc | ⟨b, off, rfl, hcell⟩
  · omega
  have hn8 : ¬ (n : Int) < 8 := by omega
  go_enter Try.func23, Try.ntmps23
  go_wp2
  go_loop [4, 5] (fun x i => ∃ (m : Nat) (y : Int), m ≤ 8 ∧ i = .int .i64 ((m : Int) - 1) ∧ x = .int .u64 y ∧ 0 ≤ y ∧ y < 2 ^ (8 * (8 - m)) ∧ Hid (acc8 zs 8 = acc8 zs m + y * 2 ^ (8 * m))) (fun _ i => (intOf i + 1).toNat)
  case atStart => exact ⟨8, 0, by omega, rfl, rfl, by omega, by simp, (show _ = _ by simp)⟩
  case round =>
    obtain ⟨m, y, hm, rfl, rfl, hy0, hy1, HY⟩ := hrel
    by_cases hlt : 0 < m
    · obtain ⟨k, rfl⟩ : ∃ k, m = k + 1 := ⟨m - 1, by omega⟩
      have hck := hcell k (by omega)
      obtain ⟨c, hcd⟩ : ∃ c, c = zs.getD k 0 := ⟨_, rfl⟩
      rw [← hcd] at hck
      obtain ⟨hc0, hc1⟩ : 0 ≤ c ∧ c ≤ 255 := by apply hz; rw [hcd]; simp [show k < zs.length from by omega]
      have ek : (((k + 1 : Nat) : Int) - 1) = (k : Int) := by omega
      rw [ek]
      have hp : (2 : Int) ^ (8 * (8 - k)) = 2 ^ (8 * (8 - (k + 1))) * 256 := by rw [show 8 * (8 - k) = 8 * (8 - (k + 1)) + 8 from by omega, Int.pow_add]; rfl
      have hq : y * 256 + c < 2 ^ (8 * (8 - k)) := by rw [hp]; omega
      have hq2 : (2 : Int) ^ (8 * (8 - k)) ≤ 18446744073709551616 := by
        have e : (2 : Int) ^ (8 * (8 - k)) = ((2 ^ (8 * (8 - k)) : Nat) : Int) := by simp
        have : 2 ^ (8 * (8 - k)) ≤ 2 ^ 64 := Nat.pow_le_pow_right (by omega) (by omega)
        omega
      have hq3 : y * 256 + c ≤ 18446744073709551615 := by omega
      have HT := acc8_top zs k y c hcd
      have HY' : Hid (acc8 zs 8 = acc8 zs k + (y * 256 + c) * 2 ^ (8 * k)) := by show _ = _; rw [HY.out, HT]
      have HQ : Hid (y * 256 + c < 2 ^ (8 * (8 - k))) := hq
      clear HT hcd hp hq hq2 hy1 hz HY
      go_wp2
      go_round
      case rel => exact ⟨k, y * 256 + c, by omega, rfl, rfl, by omega, HQ.out, HY'⟩
      case measure => simp [intOf]
    · obtain rfl : m = 0 := by omega
      have HR : Hid (acc8 zs 8 = y) := by show _ = _; rw [HY.out]; simp [acc8]
      clear HY
      go_wp2
      go_ret2
      exact ⟨ret_ub HR.out.symm rfl, rfl⟩
end Go.Proofs.Ytiedejeimhjngaa
