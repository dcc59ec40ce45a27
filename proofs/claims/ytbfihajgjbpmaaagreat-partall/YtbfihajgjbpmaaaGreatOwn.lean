/- Texts that belong together, one behind the other: E, Q, F. -/
import Derived.Test.YtbfihajgjbpmaaaGreatBase
/- The document's own answers for layer 1: contracts. -/
namespace Go.Proofs.YtbfihajgjbpmaaaGreat
open Go.ChangeShapes Go.WideShapes Go.ChangeAt Go.RowKit
set_option linter.unusedVariables false
set_option maxRecDepth 4000

theorem BV.one (w : World) (c : Int) (h0 : 0 ≤ c) (h1 : c ≤ 255) : BV (w.alloc (.cells #[.int .u8 c] 5)) (some ⟨w.heap.size, 0, none⟩) 1 [c] := by
  refine ⟨rfl, by simp; omega, .inr ⟨_, _, rfl, fun i hi => ?_⟩⟩
  obtain rfl : i = 0 := by omega
  rw [World.cell?_alloc_at (hn := rfl)]; rfl

set_option maxHeartbeats 400000 in
theorem rputvar_any (x : Int) (w : World) (h1 : 0 ≤ x) (h2 : x ≤ 18446744073709551615) :
    Calls Tryz.prog 62 #[.int .u64 x] w fun e w' => ∃ v, e = .returned v ∧ OB w' w.heap.size v (pv x) ∧ Below w.heap.size w w' := by
  go_enter Tryz.func62, Tryz.ntmps62
  go_wp2
  go_loopw [0, 3] (fun a v wr => ∃ (y : Int) (pre : List Int), 0 ≤ y ∧ y ≤ 18446744073709551615 ∧ a = .int .u64 y ∧ Hid (pv x = pre ++ pv y) ∧ OB wr w.heap.size v pre ∧ Below w.heap.size w wr) (fun a _ _ => (intOf a).toNat)
  case atStart => exact ⟨x, [], h1, h2, rfl, rfl, OB.empty w _ (Nat.le_refl _) _ rfl, (Below.refl _ _).alloc (Nat.le_refl _) _⟩
  case round =>
    obtain ⟨y, pre, hy1, hy2, rfl, hp, hown, hbel⟩ := hrel
    have hlen : pre.length + (pv y).length ≤ 10 := by
      have := pv_len10 (x := x) (by omega)
      rw [hp.out] at this; simpa using this
    have hpos := pv_pos y
    have hsz := hbel.size
    by_cases hlt : y < 128
    · go_wp2_with (at_builtin; refine append_bv rfl (.tmp 16) (.tmp 19) rfl w.heap.size _ pre rfl (hown.alloc _) _ _ _ [y] rfl (BV.one _ y hy1 (by omega)) (by intro h; cases h) (by simp only [List.length_cons, List.length_nil]; omega) (by rw [heap_alloc]; omega) ?_; intro v' w1 ho hb)
      have e : pre ++ [y] = pv x := by rw [hp.out, pv_small hlt]
      rw [e] at ho
      go_ret
      exact ⟨_, rfl, ho, (hbel.alloc hsz _).trans hb⟩
    · go_wp2_with (at_builtin; refine append_bv rfl (.tmp 7) (.tmp 12) rfl w.heap.size _ pre rfl (hown.alloc _) _ _ _ [y % 128 + 128] rfl (BV.one _ (y % 128 + 128) (by omega) (by omega)) (by intro h; cases h) (by simp only [List.length_cons, List.length_nil]; omega) (by rw [heap_alloc]; omega) ?_; intro v' w1 ho hb)
      go_roundw
      case rel =>
        refine ⟨y / 128, pre ++ [y % 128 + 128], by omega, by omega, rfl, ?_, ho, (hbel.alloc hsz _).trans hb⟩
        show _ = _
        rw [hp.out, pv_big hlt]; simp
      case measure => simp [intOf]; omega

theorem w8_snoc (x : Int) (k : Nat) (hk : k < 8) : (w8 x).take (k + 1) = (w8 x).take k ++ [x / 2 ^ (8 * k) % 256] := by
  rw [List.take_succ_eq_append_getElem (by rw [w8_len]; exact hk)]
  simp [w8, d8]
theorem div_step (x : Int) (k : Nat) : x / 2 ^ (8 * k) / 256 = x / 2 ^ (8 * (k + 1)) := by
  rw [Int.ediv_ediv_of_nonneg (Int.le_of_lt (Int.pow_pos (by omega))), show 8 * (k + 1) = 8 * k + 8 from by omega, Int.pow_add]; rfl
set_option maxHeartbeats 400000 in
theorem rput64_any (x : Int) (w : World) (h1 : 0 ≤ x) (h2 : x ≤ 18446744073709551615) :
    Calls Tryz.prog 38 #[.int .u64 x] w fun e w' => ∃ v, e = .returned v ∧ OB w' w.heap.size v (w8 x) ∧ Below w.heap.size w w' := by
  go_enter Tryz.func38, Tryz.ntmps38
  go_wp2
  go_loopw [0, 3, 4] (fun a v i wr => ∃ (k : Nat) (y : Int) (bs : List Int), k ≤ 8 ∧ i = .int .i64 (k : Int) ∧ a = .int .u64 y ∧ 0 ≤ y ∧ y ≤ 18446744073709551615 ∧ Hid (y = x / 2 ^ (8 * k)) ∧ Hid (bs = (w8 x).take k) ∧ bs.length ≤ 8 ∧ OB wr w.heap.size v bs ∧ Below w.heap.size w wr) (fun _ _ i _ => 8 - (intOf i).toNat)
  case atStart => exact ⟨0, x, [], by omega, rfl, rfl, h1, h2, (show _ = _ by simp), rfl, by simp, OB.empty w _ (Nat.le_refl _) _ rfl, (Below.refl _ _).alloc (Nat.le_refl _) _⟩
  case round =>
    obtain ⟨k, y, bs, hk, rfl, rfl, hy0, hy1, HY, HB, hbl, hown, hbel⟩ := hrel
    have hsz := hbel.size
    by_cases hlt : k < 8
    · go_wp2_with (at_builtin; refine append_bv rfl (.tmp 10) (.tmp 14) rfl w.heap.size _ bs rfl (hown.alloc _) _ _ _ [y % 256] rfl (BV.one _ (y % 256) (by omega) (by omega)) (by intro h; cases h) (by simp only [List.length_cons, List.length_nil]; omega) (by rw [heap_alloc]; omega) ?_; intro v' w1 ho hb)
      go_roundw
      case rel =>
        have e : bs ++ [y % 256] = (w8 x).take (k + 1) := by rw [w8_snoc x k hlt, HB.out, HY.out]
        refine ⟨k + 1, y / 256, _, by omega, by go_num, rfl, by omega, by omega, ?_, e, ?_, ho, (hbel.alloc hsz _).trans hb⟩
        · show _ = _; rw [HY.out, div_step]
        · rw [e]; simp; omega
      case measure => simp [intOf]; omega
    · obtain rfl : k = 8 := by omega
      have e : bs = w8 x := by rw [HB.out]; rfl
      rw [e] at hown
      go_wp2
      go_ret
      exact ⟨_, rfl, hown, hbel⟩
set_option maxHeartbeats 400000 in
theorem rzig_neg (a : Int) (w : World) (h1 : -9223372036854775808 ≤ a) (h2 : a < 0) :
    Calls Tryz.prog 108 #[.int .i64 a] w fun e w' => e = .returned (.int .u64 (-2*a-1)) ∧ w' = w := by
  go_enter Tryz.func108, Tryz.ntmps108
  go_wp2
  go_ret
  exact ⟨ret_int (by omega), rfl⟩
set_option maxHeartbeats 400000 in
theorem rzig_pos (a : Int) (w : World) (h1 : 0 ≤ a) (h2 : a ≤ 9223372036854775807) :
    Calls Tryz.prog 108 #[.int .i64 a] w fun e w' => e = .returned (.int .u64 (2*a)) ∧ w' = w := by
  go_enter Tryz.func108, Tryz.ntmps108
  go_wp2
  go_ret
  exact ⟨rfl, rfl⟩
set_option maxHeartbeats 400000 in
theorem rzag_odd (a : Int) (w : World) (h1 : 0 ≤ a) (h2 : a ≤ 18446744073709551615) (ho : a % 2 = 1) :
    Calls Tryz.prog 127 #[.int .u64 a] w fun e w' => e = .returned (.int .i64 (- (a / 2) - 1)) ∧ w' = w := by
  have hb : (a % 2 == 1) = true := by rw [ho]; rfl
  clear ho
  go_enter Tryz.func127, Tryz.ntmps127
  go_wp2
  go_ret
  exact ⟨rfl, rfl⟩
set_option maxHeartbeats 400000 in
theorem rzag_even (a : Int) (w : World) (h1 : 0 ≤ a) (h2 : a ≤ 18446744073709551615) (ho : a % 2 = 0) :
    Calls Tryz.prog 127 #[.int .u64 a] w fun e w' => e = .returned (.int .i64 (a / 2)) ∧ w' = w := by
  have hb : (a % 2 == 1) = false := by rw [ho]; rfl
  clear ho
  go_enter Tryz.func127, Tryz.ntmps127
  go_wp2
  go_ret
  exact ⟨rfl, rfl⟩

set_option maxHeartbeats 400000 in
theorem rget64_few (a : Option Addr) (n cap : Nat) (w : World) (hn : n < 8) :
    Calls Tryz.prog 75 #[.slice a n cap] w fun e w' => e = .returned (.tuple #[.int .u64 0, .bool false]) ∧ w' = w := by
  go_enter Tryz.func75, Tryz.ntmps75
  go_wp2
  go_ret2
  exact ⟨rfl, rfl⟩
theorem acc8_top (zs : List Int) (m : Nat) (y c : Int) (h : c = zs.getD m 0) : acc8 zs (m + 1) + y * 2 ^ (8 * (m + 1)) = acc8 zs m + (y * 256 + c) * 2 ^ (8 * m) := by
  have e : (2 : Int) ^ (8 * (m + 1)) = 256 * 2 ^ (8 * m) := by rw [show 8 * (m + 1) = 8 + 8 * m from by omega, Int.pow_add]; rfl
  rw [acc8, ← h, e, Int.add_mul, ← Int.mul_assoc]; omega
set_option maxHeartbeats 400000 in
theorem rget64_many (a : Option Addr) (n cap : Nat) (zs : List Int) (w : World) (hv : BV w a n zs) (hn : 8 ≤ n) :
    Calls Tryz.prog 75 #[.slice a n cap] w fun e w' => e = .returned (.tuple #[.int .u64 (acc8 zs 8), .bool true]) ∧ w' = w := by
  obtain ⟨hl, hz, hc⟩ := hv
  rcases hc with hc | ⟨b, off, rfl, hcell⟩
  · omega
  have hn8 : ¬ (n : Int) < 8 := by omega
  go_enter Tryz.func75, Tryz.ntmps75
  go_wp2
  go_loop [4, 5] (fun x i => ∃ (m : Nat) (y : Int), m ≤ 8 ∧ i = .int .i64 ((m : Int) - 1) ∧ x = .int .u64 y ∧ 0 ≤ y ∧ y < 2 ^ (8 * (8 - m)) ∧ Hid (acc8 zs 8 = acc8 zs m + y * 2 ^ (8 * m))) (fun _ i => (intOf i + 1).toNat)
  case atStart => exact ⟨8, 0, by omega, rfl, rfl, by omega, by simp, (show _ = _ by simp)⟩
  case round =>
    obtain ⟨m, y, hm, rfl, rfl, hy0, hy1, HY⟩ := hrel
    by_cases hlt : 0 < m
    · obtain ⟨k, rfl⟩ : ∃ k, m = k + 1 := ⟨m - 1, by omega⟩
      have hck := hcell k (by omega)
      obtain ⟨c, hcd⟩ : ∃ c, c = zs.getD k 0 := ⟨_, rfl⟩
      rw [← hcd] at hck
      obtain ⟨hc0, hc1⟩ : 0 ≤ c ∧ c ≤ 255 := by apply hz; rw [hcd]; simp [show k < zs.length from by omega]
      have ek : (((k + 1 : Nat) : Int) - 1) = (k : Int) := by omega
      rw [ek]
      have hp : (2 : Int) ^ (8 * (8 - k)) = 2 ^ (8 * (8 - (k + 1))) * 256 := by rw [show 8 * (8 - k) = 8 * (8 - (k + 1)) + 8 from by omega, Int.pow_add]; rfl
      have hq : y * 256 + c < 2 ^ (8 * (8 - k)) := by rw [hp]; omega
      have hq2 : (2 : Int) ^ (8 * (8 - k)) ≤ 18446744073709551616 := by
        have e : (2 : Int) ^ (8 * (8 - k)) = ((2 ^ (8 * (8 - k)) : Nat) : Int) := by simp
        have : 2 ^ (8 * (8 - k)) ≤ 2 ^ 64 := Nat.pow_le_pow_right (by omega) (by omega)
        omega
      have hq3 : y * 256 + c ≤ 18446744073709551615 := by omega
      have HT := acc8_top zs k y c hcd
      have HY' : Hid (acc8 zs 8 = acc8 zs k + (y * 256 + c) * 2 ^ (8 * k)) := by show _ = _; rw [HY.out, HT]
      have HQ : Hid (y * 256 + c < 2 ^ (8 * (8 - k))) := hq
      clear HT hcd hp hq hq2 hy1 hz HY
      go_wp2
      go_round
      case rel => exact ⟨k, y * 256 + c, by omega, rfl, rfl, by omega, HQ.out, HY'⟩
      case measure => simp [intOf]
    · obtain rfl : m = 0 := by omega
      have HR : Hid (acc8 zs 8 = y) := by show _ = _; rw [HY.out]; simp [acc8]
      clear HY
      go_wp2
      go_ret2
      exact ⟨ret_ub HR.out.symm rfl, rfl⟩
end Go.Proofs.YtbfihajgjbpmaaaGreat
/- What the document's own Var says is what varR says: plain facts. -/
namespace Go.Proofs.YtbfihajgjbpmaaaGreat
set_option linter.unusedVariables false
set_option maxRecDepth 4000

def valTo (zs : List Int) : Nat → Int
  | 0 => 0
  | k + 1 => valTo zs k + zs.getD k 0 % 128 * 128 ^ k
theorem valTo_cons (c : Int) (zs : List Int) : ∀ k, valTo (c :: zs) (k + 1) = c % 128 + 128 * valTo zs k
  | 0 => by simp [valTo]
  | k + 1 => by
    have h := valTo_cons c zs k
    rw [valTo, h, valTo, Int.mul_add, pow128_succ]
    have e : (c :: zs).getD (k + 1) 0 = zs.getD k 0 := by simp
    rw [e, Int.add_assoc]
    congr 2
    rw [← Int.mul_assoc, Int.mul_comm]
theorem valTo_pv : ∀ (m : Nat) (y : Int) (rest : List Int), y.toNat < m → 0 ≤ y → valTo (pv y ++ rest) (pv y).length = y
  | 0, y, rest, hm, h0 => by omega
  | m + 1, y, rest, hm, h0 => by
    by_cases h : y < 128
    · rw [pv_small h]; simp [valTo]; omega
    · rw [pv_big h, List.cons_append, List.length_cons, valTo_cons, valTo_pv m (y / 128) rest (by omega) (by omega)]
      omega
theorem pv_digits : ∀ (m : Nat) (y : Int) (j : Nat), y.toNat < m → 0 ≤ y → j < (pv y).length → (j + 1 < (pv y).length → 128 ≤ (pv y).getD j 0) ∧ (j + 1 = (pv y).length → (pv y).getD j 0 < 128)
  | 0, y, j, hm, h0, hj => by omega
  | m + 1, y, j, hm, h0, hj => by
    by_cases h : y < 128
    · rw [pv_small h] at hj ⊢
      simp at hj
      subst hj
      simp; omega
    · rw [pv_big h] at hj ⊢
      have hp := pv_pos (y / 128)
      cases j with
      | zero =>
        refine ⟨fun _ => ?_, fun h' => ?_⟩
        · simp; omega
        · rw [List.length_cons] at h'; omega
      | succ j =>
        simp at hj
        have := pv_digits m (y / 128) j (by omega) (by omega) hj
        simpa using this
theorem get_app (l r : List Int) (j : Nat) (h : j < l.length) : (l ++ r).getD j 0 = l.getD j 0 := by
  simp [List.getD, List.getElem?_append_left h]

theorem rvar_none (zs : List Int) (k : Nat) (hz : ∀ z ∈ zs, 0 ≤ z ∧ z ≤ 255) (hb : ∀ j, j < k → 128 ≤ zs.getD j 0) (hk : zs.length ≤ k ∨ 10 ≤ k) : varR zs = (0, 0) := by
  by_cases h : (varR zs).2 = 0
  · exact varR_none h
  · obtain ⟨y, rest, he, hy0, hy1, hv⟩ := varR_back zs hz h
    have hp := pv_pos y
    have h10 := pv_len10 (x := y) (by omega)
    have hd := (pv_digits _ y ((pv y).length - 1) (Nat.lt_succ_self _) hy0 (by omega)).2 (by omega)
    have hl : (pv y).length ≤ zs.length := by rw [he]; simp
    have := hb ((pv y).length - 1) (by omega)
    rw [he, get_app _ _ _ (by omega)] at this
    omega
theorem rvar_some (zs : List Int) (k : Nat) (hz : ∀ z ∈ zs, 0 ≤ z ∧ z ≤ 255) (hk : k < zs.length) (hb : ∀ j, j < k → 128 ≤ zs.getD j 0) (hc : zs.getD k 0 < 128) :
    varR zs = if pv (valTo zs (k + 1) % 18446744073709551616) = zs.take (k + 1) then (valTo zs (k + 1) % 18446744073709551616, (k : Int) + 1) else (0, 0) := by
  split
  · rename_i he
    have h0 : 0 ≤ valTo zs (k + 1) % 18446744073709551616 := by omega
    have hs : zs = pv (valTo zs (k + 1) % 18446744073709551616) ++ zs.drop (k + 1) := by rw [he, List.take_append_drop]
    have := varR_put (valTo zs (k + 1) % 18446744073709551616) (zs.drop (k + 1)) h0 (by omega)
    rw [← hs, he] at this
    rw [this]
    simp; omega
  · rename_i hne
    by_cases h : (varR zs).2 = 0
    · exact varR_none h
    · exfalso
      obtain ⟨y, rest, he, hy0, hy1, hv⟩ := varR_back zs hz h
      have hp := pv_pos y
      have hl : (pv y).length = k + 1 := by
        rcases Nat.lt_trichotomy (pv y).length (k + 1) with h' | h' | h'
        · have hd := (pv_digits _ y ((pv y).length - 1) (Nat.lt_succ_self _) hy0 (by omega)).2 (by omega)
          have := hb ((pv y).length - 1) (by omega)
          rw [he, get_app _ _ _ (by omega)] at this
          omega
        · exact h'
        · have hd := (pv_digits _ y k (Nat.lt_succ_self _) hy0 (by omega)).1 h'
          rw [he, get_app _ _ _ (by omega)] at hc
          omega
      have hv := valTo_pv _ y rest (Nat.lt_succ_self _) hy0
      rw [← he, hl] at hv
      apply hne
      rw [hv, Int.emod_eq_of_lt hy0 (by omega), he, ← hl]
      simp
theorem val_step (zs : List Int) (k : Nat) (c : Int) (hc : c = zs.getD k 0) :
    (valTo zs k % 18446744073709551616 + c % 128 * (128 ^ k % 18446744073709551616) % 18446744073709551616) % 18446744073709551616 = valTo zs (k + 1) % 18446744073709551616 := by
  rw [valTo, ← hc, Int.add_emod (valTo zs k), Int.mul_emod (c % 128) (128 ^ k), Int.mul_emod (c % 128) (128 ^ k % 18446744073709551616), Int.emod_emod]
theorem scale_step (k : Nat) : 128 ^ k % 18446744073709551616 * 128 % 18446744073709551616 = (128 : Int) ^ (k + 1) % 18446744073709551616 := by
  rw [pow128_succ, Int.mul_emod (128 ^ k) 128, Int.mul_emod (128 ^ k % 18446744073709551616) 128, Int.emod_emod]
end Go.Proofs.YtbfihajgjbpmaaaGreat
/- The document's own Var: its contract. -/
namespace Go.Proofs.YtbfihajgjbpmaaaGreat
open Go.ChangeShapes Go.WideShapes Go.ChangeAt Go.RowKit
set_option linter.unusedVariables false
set_option maxRecDepth 4000

set_option maxHeartbeats 1000000 in
theorem rvar_any (a : Option Addr) (n cap : Nat) (zs : List Int) (w : World) (hv : BV w a n zs) (hcap : n ≤ cap) :
    Calls Tryz.prog 99 #[.slice a n cap] w fun e w' => e = .returned (.tuple #[.int .u64 (varR zs).1, .int .i64 (varR zs).2]) ∧ Below w.heap.size w w' := by
  have hv0 := hv
  obtain ⟨hlen, hz, hn⟩ := hv
  go_enter Tryz.func99, Tryz.ntmps99
  go_wp2
  go_loop [4, 5, 6] (fun x s i => ∃ (k : Nat) (y t : Int), k ≤ 10 ∧ k ≤ n ∧ i = .int .i64 (k : Int) ∧ x = .int .u64 y ∧ s = .int .u64 t ∧ Hid (y = valTo zs k % 18446744073709551616) ∧ Hid (t = 128 ^ k % 18446744073709551616) ∧ Hid (∀ j, j < k → 128 ≤ zs.getD j 0)) (fun _ _ i => n - (intOf i).toNat)
  case atStart => exact ⟨0, 0, 1, by omega, by omega, rfl, rfl, rfl, rfl, rfl, (show ∀ j, j < 0 → _ from fun j hj => by omega)⟩
  case round =>
    obtain ⟨k, y, t, hk10, hkn, rfl, rfl, rfl, HY, HT, HB⟩ := hrel
    by_cases hlt : k < n ∧ k < 10
    · obtain ⟨hlt1, hlt2⟩ := hlt
      rcases hn with hn | ⟨b, off, rfl, hcell⟩
      · omega
      have hc := hcell k hlt1
      obtain ⟨c, hcd⟩ : ∃ c, c = zs.getD k 0 := ⟨_, rfl⟩
      rw [← hcd] at hc
      have hcb : 0 ≤ c ∧ c ≤ 255 := by apply hz; rw [hcd]; simp [show k < zs.length from by omega]
      obtain ⟨hc0, hc1⟩ := hcb
      have hy0 : 0 ≤ y ∧ y ≤ 18446744073709551615 := by rw [HY.out]; omega
      have ht0 : 0 ≤ t ∧ t ≤ 18446744073709551615 := by rw [HT.out]; omega
      obtain ⟨hy0, hy1⟩ := hy0
      obtain ⟨ht0, ht1⟩ := ht0
      have HC : Hid (c = zs.getD k 0) := hcd
      clear hcd hcell
      have hX : IntKind.u64.wrap (y + IntKind.u64.wrap (c % 128 * t)) = valTo zs (k + 1) % 18446744073709551616 := by
        rw [IntKind.wrap_u64, IntKind.wrap_u64, HY.out, HT.out]; exact val_step zs k c HC.out
      have hXb : 0 ≤ IntKind.u64.wrap (y + IntKind.u64.wrap (c % 128 * t)) ∧ IntKind.u64.wrap (y + IntKind.u64.wrap (c % 128 * t)) ≤ 18446744073709551615 := by rw [hX]; omega
      have HX : Hid (_ = _) := hX
      by_cases h128 : c < 128
      · have hvar := rvar_some zs k hz (by omega) HB.out (by rw [← HC.out]; exact h128)
        rw [← hX] at hvar
        have HV : Hid (_ = _) := hvar
        clear hX hvar
        go_wp2
        generalize IntKind.u64.wrap (y + IntKind.u64.wrap (c % 128 * t)) = X at *
        obtain ⟨hX0, hX1⟩ := hXb
        have hwr : IntKind.i64.wrap ((k : Int) + 1) = (k : Int) + 1 := by rw [IntKind.wrap_i64]; omega
        have hs0 : (0 : Int) ≤ (k : Int) + 1 := by omega
        have hs1 : (k : Int) + 1 ≤ (cap : Int) := by omega
        have hst : ((k : Int) + 1).toNat = k + 1 := by omega
        have hT := hv0.take (k + 1) (by omega)
        clear hv0 hz HB HY HT hc HX HC
        by_cases heq : pv X = zs.take (k + 1)
        · rw [← heq] at hT
          have HR : Hid (varR zs = (X, (k : Int) + 1)) := by show _ = _; rw [HV.out, if_pos heq]
          clear heq HV
          refine wp_region_noPanic ?_
          refine wp_region_held_drew (S := Ext (World.drew _)) (by kernel_rfl) (Ext.refl _) (fun hS => ?_)
          refine take_at (i := 0) (v := ?_) (some 34) rfl (by kernel_rfl) (by kernel_rfl) (by kernel_rfl) rfl (fun _ _ _ h => h) (Or.inl ⟨by rfl, ?_⟩) hS ?_
          rotate_left
          · (intro wq hq; go_simp); first | done | with_reducible rfl
          try simp only [Act.put, List.setIfInBounds_toArray, List.set_cons_zero, List.set_cons_succ]
          refine take_at (i := 3) (v := ?_) (some 37) rfl (by kernel_rfl) (by kernel_rfl) (by kernel_rfl) rfl (fun _ _ _ h => h) (Or.inl ⟨by rfl, ?_⟩) hS ?_
          rotate_left
          · (intro wq hq; go_simp); first | done | with_reducible rfl
          try simp only [Act.put, List.setIfInBounds_toArray, List.set_cons_zero, List.set_cons_succ]
          refine take_at (i := 4) (v := ?_) (some 38) rfl (by kernel_rfl) (by kernel_rfl) (by kernel_rfl) rfl (fun _ _ _ h => h) (Or.inl ⟨by rfl, ?_⟩) hS ?_
          rotate_left
          · (intro wq hq; go_simp); first | done | with_reducible rfl
          try simp only [Act.put, List.setIfInBounds_toArray, List.set_cons_zero, List.set_cons_succ]
          refine take_at (i := 5) (v := ?_) (some 39) rfl (by kernel_rfl) (by kernel_rfl) (by kernel_rfl) rfl (fun _ _ _ h => h) (Or.inl ⟨by rfl, ?_⟩) hS ?_
          rotate_left
          · (intro wq hq; go_simp); first | done | with_reducible rfl
          try simp only [Act.put, List.setIfInBounds_toArray, List.set_cons_zero, List.set_cons_succ]
          refine take_at (i := 6) (v := ?_) (some 40) rfl (by kernel_rfl) (by kernel_rfl) (by kernel_rfl) rfl (fun _ _ _ h => h) (Or.inl ⟨by rfl, ?_⟩) hS ?_
          rotate_left
          · (intro wq hq; go_simp); first | done | with_reducible rfl
          try simp only [Act.put, List.setIfInBounds_toArray, List.set_cons_zero, List.set_cons_succ]
          refine take_at (i := 7) (v := ?_) (some 41) rfl (by kernel_rfl) (by kernel_rfl) (by kernel_rfl) rfl (fun _ _ _ h => h) (Or.inl ⟨by rfl, ?_⟩) hS ?_
          rotate_left
          · (intro wq hq; have hk := conv_any (hT.ext hq) cap; go_simp); first | done | with_reducible rfl
          try simp only [Act.put, List.setIfInBounds_toArray, List.set_cons_zero, List.set_cons_succ]
          refine wpAnyH_ready (rs := [1]) (by kernel_rfl) (by simp) ?_
          refine AllReadyH.cons rfl (fun K hK => ?_) AllReadyH.nil
          go_simp
          refine (rputvar_any X _ hX0 hX1).mono ?_
          rintro e w1 ⟨v, rfl, hob, hbel⟩
          obtain ⟨av, cv, rfl, -, hbv, -⟩ := hob.bv (pv_bytes hX0)
          clear hob
          have hbw : Below w.heap.size w w1 := (Below.refl _ _).drew.trans hbel
          refine hK.out _ _ (Ext.below hbel) (fun hS0 => ?_)
          clear hK K
          try simp only [Act.put, List.setIfInBounds_toArray, List.set_cons_zero, List.set_cons_succ]
          clear hS
          refine held_now hS0 (fun hS => ?_)
          clear hS0
          clear hbel
          refine take_at (i := 2) (v := ?_) (some 36) rfl (by kernel_rfl) (by kernel_rfl) (by kernel_rfl) rfl (fun _ _ _ h => h) (Or.inl ⟨by rfl, ?_⟩) hS ?_
          rotate_left
          · (intro wq hq; have hk := conv_any (hbv.ext hq) cv; go_simp); first | done | with_reducible rfl
          try simp only [Act.put, List.setIfInBounds_toArray, List.set_cons_zero, List.set_cons_succ]
          refine take_at (i := 8) (v := ?_) (some 42) rfl (by kernel_rfl) (by kernel_rfl) (by kernel_rfl) rfl (fun _ _ _ h => h) (Or.inl ⟨by rfl, ?_⟩) hS ?_
          rotate_left
          · (intro wq hq; go_simp); first | done | with_reducible rfl
          try simp only [Act.put, List.setIfInBounds_toArray, List.set_cons_zero, List.set_cons_succ]
          refine wpAnyH_done (by kernel_rfl) (NoPanic.normal ?_) _
          clear hbv hT hS
          go_wp2
          go_ret2
          exact ⟨ret_two (by rw [HR.out]) (by rw [HR.out]), hbw⟩
        · have HR : Hid (varR zs = (0, 0)) := by show _ = _; rw [HV.out, if_neg heq]
          have hstr : strOfNums (pv X) ≠ strOfNums (zs.take (k + 1)) := fun h => heq (strOfNums_inj (pv_bytes hX0) hT.2.1 h)
          have hbne : ((strOfNums (pv X)).toList == (strOfNums (zs.take (k + 1))).toList) = false := by
            rw [beq_eq_false_iff_ne]
            exact fun h => hstr (toList_inj h)
          clear heq HV hstr
          generalize zs.take (k + 1) = T at *
          refine wp_region_noPanic ?_
          refine wp_region_held_drew (S := Ext (World.drew _)) (by kernel_rfl) (Ext.refl _) (fun hS => ?_)
          refine take_at (i := 0) (v := ?_) (some 34) rfl (by kernel_rfl) (by kernel_rfl) (by kernel_rfl) rfl (fun _ _ _ h => h) (Or.inl ⟨by rfl, ?_⟩) hS ?_
          rotate_left
          · (intro wq hq; go_simp); first | done | with_reducible rfl
          try simp only [Act.put, List.setIfInBounds_toArray, List.set_cons_zero, List.set_cons_succ]
          refine take_at (i := 3) (v := ?_) (some 37) rfl (by kernel_rfl) (by kernel_rfl) (by kernel_rfl) rfl (fun _ _ _ h => h) (Or.inl ⟨by rfl, ?_⟩) hS ?_
          rotate_left
          · (intro wq hq; go_simp); first | done | with_reducible rfl
          try simp only [Act.put, List.setIfInBounds_toArray, List.set_cons_zero, List.set_cons_succ]
          refine take_at (i := 4) (v := ?_) (some 38) rfl (by kernel_rfl) (by kernel_rfl) (by kernel_rfl) rfl (fun _ _ _ h => h) (Or.inl ⟨by rfl, ?_⟩) hS ?_
          rotate_left
          · (intro wq hq; go_simp); first | done | with_reducible rfl
          try simp only [Act.put, List.setIfInBounds_toArray, List.set_cons_zero, List.set_cons_succ]
          refine take_at (i := 5) (v := ?_) (some 39) rfl (by kernel_rfl) (by kernel_rfl) (by kernel_rfl) rfl (fun _ _ _ h => h) (Or.inl ⟨by rfl, ?_⟩) hS ?_
          rotate_left
          · (intro wq hq; go_simp); first | done | with_reducible rfl
          try simp only [Act.put, List.setIfInBounds_toArray, List.set_cons_zero, List.set_cons_succ]
          refine take_at (i := 6) (v := ?_) (some 40) rfl (by kernel_rfl) (by kernel_rfl) (by kernel_rfl) rfl (fun _ _ _ h => h) (Or.inl ⟨by rfl, ?_⟩) hS ?_
          rotate_left
          · (intro wq hq; go_simp); first | done | with_reducible rfl
          try simp only [Act.put, List.setIfInBounds_toArray, List.set_cons_zero, List.set_cons_succ]
          refine take_at (i := 7) (v := ?_) (some 41) rfl (by kernel_rfl) (by kernel_rfl) (by kernel_rfl) rfl (fun _ _ _ h => h) (Or.inl ⟨by rfl, ?_⟩) hS ?_
          rotate_left
          · (intro wq hq; have hk := conv_any (hT.ext hq) cap; go_simp); first | done | with_reducible rfl
          try simp only [Act.put, List.setIfInBounds_toArray, List.set_cons_zero, List.set_cons_succ]
          refine wpAnyH_ready (rs := [1]) (by kernel_rfl) (by simp) ?_
          refine AllReadyH.cons rfl (fun K hK => ?_) AllReadyH.nil
          go_simp
          refine (rputvar_any X _ hX0 hX1).mono ?_
          rintro e w1 ⟨v, rfl, hob, hbel⟩
          obtain ⟨av, cv, rfl, -, hbv, -⟩ := hob.bv (pv_bytes hX0)
          clear hob
          have hbw : Below w.heap.size w w1 := (Below.refl _ _).drew.trans hbel
          refine hK.out _ _ (Ext.below hbel) (fun hS0 => ?_)
          clear hK K
          try simp only [Act.put, List.setIfInBounds_toArray, List.set_cons_zero, List.set_cons_succ]
          clear hS
          refine held_now hS0 (fun hS => ?_)
          clear hS0
          clear hbel
          refine take_at (i := 2) (v := ?_) (some 36) rfl (by kernel_rfl) (by kernel_rfl) (by kernel_rfl) rfl (fun _ _ _ h => h) (Or.inl ⟨by rfl, ?_⟩) hS ?_
          rotate_left
          · (intro wq hq; have hk := conv_any (hbv.ext hq) cv; go_simp); first | done | with_reducible rfl
          try simp only [Act.put, List.setIfInBounds_toArray, List.set_cons_zero, List.set_cons_succ]
          refine take_at (i := 8) (v := ?_) (some 42) rfl (by kernel_rfl) (by kernel_rfl) (by kernel_rfl) rfl (fun _ _ _ h => h) (Or.inl ⟨by rfl, ?_⟩) hS ?_
          rotate_left
          · (intro wq hq; go_simp); first | done | with_reducible rfl
          try simp only [Act.put, List.setIfInBounds_toArray, List.set_cons_zero, List.set_cons_succ]
          refine wpAnyH_done (by kernel_rfl) (NoPanic.normal ?_) _
          clear hbv hT hS
          go_wp2
          go_ret2
          exact ⟨ret_two (by rw [HR.out]) (by rw [HR.out]), hbw⟩
      · clear hX
        go_wp2
        go_round
        case rel =>
          refine ⟨k + 1, _, _, by omega, by omega, by go_num, rfl, rfl, HX.out, ?_, ?_⟩
          · show _ = _
            rw [IntKind.wrap_u64, HT.out]; exact scale_step k
          · show ∀ j, j < k + 1 → _
            intro j hj
            by_cases hjk : j = k
            · rw [hjk, ← HC.out]; omega
            · exact HB.out j (by omega)
        case measure => simp [intOf]; omega
    · have HR : Hid (varR zs = (0, 0)) := rvar_none zs k hz HB.out (by omega)
      by_cases hlt1 : k < n
      · have h10 : 10 ≤ k := by omega
        go_wp2
        go_ret2
        exact ⟨ret_two (by rw [HR.out]) (by rw [HR.out]), Below.refl _ _⟩
      · go_wp2
        go_ret2
        exact ⟨ret_two (by rw [HR.out]) (by rw [HR.out]), Below.refl _ _⟩
end Go.Proofs.YtbfihajgjbpmaaaGreat
