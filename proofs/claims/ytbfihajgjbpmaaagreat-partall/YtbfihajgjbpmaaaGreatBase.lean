/- Texts that belong together, one behind the other: P, A, V, B, C, R, O, D, K, K2, H0, G, G2, G3, G4, G5, H1, H2, G6, H3, Nm, G7, H4, H5, R2, V3p, S4p, H6, G8, Kp. -/
import Derived.Laws.BitsAll
import Derived.Test.YtbfihajgjbpmaaaGreatRows
import Derived.WalkKit
import Derived.ProofKit
import Derived.OpenShut
import Derived.Below
import Derived.WalkSpells
import Derived.WalkLawsBesides
import Derived.Laws.BytesArg
import Derived.Deep.RegionHeld3
import Derived.OwnWalk
import Derived.Laws.OwnMore
import Derived.Laws.CopyOwn
import Derived.Laws.AppendOwnNone
import Derived.Deep.AppendSrc
import Derived.Lib.SmallJoins
import Derived.Lib.Hide
import Derived.Deep.SlicePairs
import Derived.OneCell
import Derived.Deep.OwnRows
/- Plain facts on numbers as bytes: no Go in sight. -/
namespace Go.Proofs.YtbfihajgjbpmaaaGreat
set_option linter.unusedVariables false
set_option maxRecDepth 4000

/-- the bytes of a number, seven bits each, the lowest first; the first argument: how many more there may be -/
def pvF : Nat → Int → List Int
  | 0, x => [x]
  | n + 1, x => if x < 128 then [x] else (x % 128 + 128) :: pvF n (x / 128)
/-- the bytes of a number, seven bits each, the lowest first -/
def pv (x : Int) : List Int := pvF x.toNat x

theorem pvF_enough : ∀ (n m : Nat) (x : Int), x.toNat ≤ n → x.toNat ≤ m → pvF n x = pvF m x
  | 0, 0, x, _, _ => rfl
  | 0, m + 1, x, h, _ => by rw [pvF, pvF, if_pos (by omega)]
  | n + 1, 0, x, _, h => by rw [pvF, pvF, if_pos (by omega)]
  | n + 1, m + 1, x, h1, h2 => by
    rw [pvF, pvF]
    by_cases h : x < 128
    · rw [if_pos h, if_pos h]
    · rw [if_neg h, if_neg h, pvF_enough n m (x / 128) (by omega) (by omega)]
theorem pv_eq (x : Int) : pv x = if x < 128 then [x] else (x % 128 + 128) :: pv (x / 128) := by
  unfold pv
  by_cases h : x < 128
  · rw [if_pos h, pvF_enough x.toNat (x.toNat + 1) x (Nat.le_refl _) (by omega), pvF, if_pos h]
  · rw [if_neg h, pvF_enough x.toNat (x.toNat + 1) x (Nat.le_refl _) (by omega), pvF, if_neg h, pvF_enough x.toNat (x / 128).toNat (x / 128) (by omega) (Nat.le_refl _)]
theorem pv_small {x : Int} (h : x < 128) : pv x = [x] := by rw [pv_eq, if_pos h]
theorem pv_big {x : Int} (h : ¬ x < 128) : pv x = (x % 128 + 128) :: pv (x / 128) := by rw [pv_eq, if_neg h]
theorem pv_pos (x : Int) : 1 ≤ (pv x).length := by rw [pv_eq]; split <;> simp

theorem pv_len : ∀ (n : Nat) (x : Int), x < 128 ^ (n + 1) → (pv x).length ≤ n + 1
  | 0, x, h => by rw [pv_small (by simpa using h)]; simp
  | n + 1, x, h => by
    by_cases h1 : x < 128
    · rw [pv_small h1]; simp
    · rw [pv_big h1]
      have h2 : x / 128 < 128 ^ (n + 1) := by
        have : (128 : Int) ^ (n + 1 + 1) = 128 ^ (n + 1) * 128 := Int.pow_succ ..
        omega
      have := pv_len n (x / 128) h2
      simp; omega

theorem pv_len10 {x : Int} (h : x < 18446744073709551616) : (pv x).length ≤ 10 := pv_len 9 x (by omega)

theorem u8_or_more (y : Int) (h0 : 0 ≤ y) : bits .or .u8 (IntKind.u8.wrap y) 128 = y % 128 + 128 := by
  have e : IntKind.u8.wrap y = y % 256 := IntKind.wrap_u8' y
  rw [e]
  by_cases h : y % 256 < 128
  · rw [u8_or _ _ (by omega) (by omega) (by omega) (by omega), Nat.or_comm]
    have := nat_join 7 128 (y % 256).toNat (by decide) (by omega)
    simp only [show (128 : Int).toNat = 128 from rfl] at *
    rw [this]; omega
  · have : bits .or .u8 (y % 256) 128 = y % 256 := by
      rw [u8_or _ _ (by omega) (by omega) (by omega) (by omega)]
      have a : (y % 256).toNat = 128 + ((y % 256).toNat - 128) := by omega
      have j := nat_join 7 128 ((y % 256).toNat - 128) (by decide) (by omega)
      have : (y % 256).toNat ||| 128 = (y % 256).toNat := by
        conv => lhs; rw [a, ← j]
        rw [Nat.or_comm, ← Nat.or_assoc, Nat.or_self, j]; omega
      simp only [show (128 : Int).toNat = 128 from rfl]
      rw [this]; omega
    rw [this]; omega

theorem not_u64 (a : Nat) (ha : a < 18446744073709551616) : bits .xor .u64 18446744073709551615 (a : Int) = 18446744073709551615 - (a : Int) := by
  show IntKind.u64.wrap ((BitVec.ofInt 64 18446744073709551615 ^^^ BitVec.ofInt 64 (a : Int)).toNat : Int) = _
  have h1 : BitVec.ofInt 64 18446744073709551615 = BitVec.allOnes 64 := by decide
  rw [h1, BitVec.allOnes_xor, BitVec.toNat_not, ofInt_u64 a ha]
  simp [IntKind.wrap, IntKind.bits, IntKind.signed]
  omega
theorem not_i64 (a : Nat) (ha : a < 9223372036854775808) : bits .xor .i64 (-1) (a : Int) = - (a : Int) - 1 := by
  have h1 : BitVec.ofInt 64 (-1) = BitVec.allOnes 64 := by decide
  show IntKind.i64.wrap ((BitVec.ofInt 64 (-1) ^^^ BitVec.ofInt 64 (a : Int)).toNat : Int) = _
  rw [h1, BitVec.allOnes_xor, BitVec.toNat_not, ofInt_u64 a (by omega)]
  simp [IntKind.wrap, IntKind.bits, IntKind.signed]
  omega
end Go.Proofs.YtbfihajgjbpmaaaGreat
/- Contracts of the functions of package num, over this seat's translation. -/
namespace Go.Proofs.YtbfihajgjbpmaaaGreat
open Go.ChangeShapes Go.WideShapes Go.ChangeAt Go.RowKit
set_option linter.unusedVariables false
set_option maxRecDepth 4000

theorem ret_int {k : IntKind} {a b : Int} (h : a = b) : Ending.returned (.int k a) = .returned (.int k b) := by rw [h]

theorem zig_neg_arith (a : Int) (h1 : -9223372036854775808 ≤ a) (h2 : a < 0) : bits BinOp.xor IntKind.u64 IntKind.u64.max (IntKind.u64.wrap (IntKind.u64.wrap a * 2)) = -2 * a - 1 := by
  have e1 : IntKind.u64.max = 18446744073709551615 := by decide
  have e2 : IntKind.u64.wrap (IntKind.u64.wrap a * 2) = (((2 * a + 18446744073709551616).toNat : Nat) : Int) := by
    simp only [IntKind.wrap_u64]; omega
  rw [e1, e2, not_u64 _ (by omega)]; omega

set_option maxHeartbeats 400000 in
theorem zig_neg (a : Int) (w : World) (h1 : -9223372036854775808 ≤ a) (h2 : a < 0) :
    Calls Tryz.prog 147 #[.int .i64 a] w fun e w' => e = .returned (.int .u64 (-2*a-1)) ∧ w' = w := by
  go_enter Tryz.func147, Tryz.ntmps147
  go_wp2
  go_ret
  exact ⟨ret_int (zig_neg_arith a h1 h2), rfl⟩
set_option maxHeartbeats 400000 in
theorem zig_pos (a : Int) (w : World) (h1 : 0 ≤ a) (h2 : a ≤ 9223372036854775807) :
    Calls Tryz.prog 147 #[.int .i64 a] w fun e w' => e = .returned (.int .u64 (2*a)) ∧ w' = w := by
  go_enter Tryz.func147, Tryz.ntmps147
  go_wp2
  go_ret
  exact ⟨ret_int (Int.mul_comm _ _), rfl⟩

theorem and1 (a : Int) (h1 : 0 ≤ a) (h2 : a ≤ 18446744073709551615) : bits BinOp.and IntKind.u64 a 1 = a % 2 := and_one_u64 a h1 h2
theorem zag_arith (a : Int) (h1 : 0 ≤ a) (h2 : a ≤ 18446744073709551615) : bits BinOp.xor IntKind.i64 (-1) (a / 2) = - (a / 2) - 1 := by
  have := not_i64 (a / 2).toNat (by omega)
  rw [show (((a / 2).toNat : Nat) : Int) = a / 2 from by omega] at this
  exact this

set_option maxHeartbeats 400000 in
theorem zag_odd (a : Int) (w : World) (h1 : 0 ≤ a) (h2 : a ≤ 18446744073709551615) (ho : a % 2 = 1) :
    Calls Tryz.prog 156 #[.int .u64 a] w fun e w' => e = .returned (.int .i64 (- (a / 2) - 1)) ∧ w' = w := by
  have H : Hid (a % 2 = 1) := ho
  have hb : (bits BinOp.and IntKind.u64 a 1 == 1) = true := by rw [and1 a h1 h2, ho]; rfl
  clear ho
  go_enter Tryz.func156, Tryz.ntmps156
  go_wp2
  go_ret
  exact ⟨ret_int (zag_arith a h1 h2), rfl⟩
set_option maxHeartbeats 400000 in
theorem zag_even (a : Int) (w : World) (h1 : 0 ≤ a) (h2 : a ≤ 18446744073709551615) (ho : a % 2 = 0) :
    Calls Tryz.prog 156 #[.int .u64 a] w fun e w' => e = .returned (.int .i64 (a / 2)) ∧ w' = w := by
  have H : Hid (a % 2 = 0) := ho
  have hb : (bits BinOp.and IntKind.u64 a 1 == 1) = false := by rw [and1 a h1 h2, ho]; rfl
  clear ho
  go_enter Tryz.func156, Tryz.ntmps156
  go_wp2
  go_ret
  exact ⟨rfl, rfl⟩

/-- the array of ten bytes whose first ones are 'pre' -/
def pre10 (pre : List Int) : Array Value := (pre.map (Value.int .u8) ++ List.replicate (10 - pre.length) (Value.int .u8 0)).toArray
theorem pre10_nil : #[Value.int IntKind.u8 0, Value.int IntKind.u8 0, Value.int IntKind.u8 0, Value.int IntKind.u8 0,
      Value.int IntKind.u8 0, Value.int IntKind.u8 0, Value.int IntKind.u8 0, Value.int IntKind.u8 0,
      Value.int IntKind.u8 0, Value.int IntKind.u8 0] = pre10 [] := rfl
theorem pre10_set (pre : List Int) (v : Int) (h : pre.length < 10) : (pre10 pre).setIfInBounds pre.length (.int .u8 v) = pre10 (pre ++ [v]) := by
  unfold pre10
  simp only [List.setIfInBounds_toArray]
  congr 1
  have : 10 - pre.length = (10 - (pre ++ [v]).length) + 1 := by simp; omega
  rw [this, List.replicate_succ, List.set_append_right _ _ (by simp)]
  simp
theorem pre10_at (pre : List Int) (i : Nat) (h : i < 10) : ∃ v, (pre10 pre)[i]? = some v := by
  have : i < (pre10 pre).size := by simp [pre10]; omega
  exact ⟨_, Array.getElem?_eq_getElem this⟩

theorem u43 : Tryz.prog.underlying 129 = some (.array (Tryz.prog.arrayLen 129) (Tryz.prog.elem 129)) := by kernel_rfl
theorem len43 : Tryz.prog.arrayLen 129 = 10 := by kernel_rfl
theorem size5 (w : World) : (sizeOf (Tryz.prog.elem 129)).run Tryz.prog w = .ok 1 w := by kernel_rfl
theorem slice43 (b : Nat) (h : Int) (h0 : 0 ≤ h) (h1 : h ≤ 10) (w : World) :
    (Instr.sliceAt 129 (.pointer (some ⟨b, 0, none⟩)) none (some (.int .i64 h)) none).run Tryz.prog w = .ok (.slice (some ⟨b, 0, none⟩) h.toNat 10) w := by
  rw [run_sliceAt_array_h w 129 _ u43 .i64 h h0 (by rw [len43]; exact h1), size5]
  simp [Result.andThen, slicedAt, len43, Addr.add]
theorem ret_slice {a : Option Addr} {n m c : Nat} (h : n = m) : Ending.returned (.slice a n c) = .returned (.slice a m c) := by rw [h]
theorem u8_or_more' (y : Int) (h0 : 0 ≤ y) : bits .or .u8 (y % 256) 128 = y % 128 + 128 := by
  rw [← IntKind.wrap_u8']; exact u8_or_more y h0

/-- the block that PutVar makes -/
def pvObj (x : Int) : Obj := .cells (pre10 (pv x)) 129
set_option maxHeartbeats 400000 in
theorem putvar_any (x : Int) (w : World) (h1 : 0 ≤ x) (h2 : x ≤ 18446744073709551615) :
    Calls Tryz.prog 86 #[.int .u64 x] w fun e w' => e = .returned (.slice (some ⟨w.heap.size, 0, none⟩) (pv x).length 10) ∧ w' = w.alloc (pvObj x) := by
  go_enter Tryz.func86, Tryz.ntmps86
  go_wp2
  rw [pre10_nil]
  go_loopw [0, 4] (fun a n wr => ∃ (y : Int) (pre : List Int), 0 ≤ y ∧ y ≤ 18446744073709551615 ∧ a = .int .u64 y ∧ n = .int .i64 (pre.length : Int) ∧ Hid (pv x = pre ++ pv y) ∧ wr = w.alloc (.cells (pre10 pre) 129)) (fun a _ _ => (intOf a).toNat)
  case atStart => exact ⟨x, [], h1, h2, rfl, rfl, rfl, rfl⟩
  case round =>
    obtain ⟨y, pre, hy1, hy2, rfl, rfl, hp, rfl⟩ := hrel
    have hlen : pre.length + (pv y).length ≤ 10 := by
      have := pv_len10 (x := x) (by omega)
      rw [hp.out] at this; simpa using this
    have hpos := pv_pos y
    obtain ⟨v, hv⟩ := pre10_at pre pre.length (by omega)
    by_cases hlt : y < 128
    · have hsl := fun wx => slice43 w.heap.size ((pre.length : Int) + 1) (by omega) (by omega) wx
      go_wp2
      go_ret
      have e : pv x = pre ++ [y] := by rw [hp.out, pv_small hlt]
      refine ⟨ret_slice (by rw [e]; simp), ?_⟩
      rw [pvObj, e, pre10_set _ _ (by omega)]
    · go_wp2
      go_roundw
      case rel =>
        refine ⟨y / 128, pre ++ [y % 128 + 128], by omega, by omega, rfl, by simp, ?_, ?_⟩
        · show _ = _
          rw [hp.out, pv_big hlt]; simp
        · rw [u8_or_more' y hy1, pre10_set _ _ (by omega)]
      case measure => simp [intOf]; omega
theorem pre10_get (pre : List Int) (i : Nat) (h : i < pre.length) : (pre10 pre)[i]? = some (.int .u8 (pre.getD i 0)) := by
  unfold pre10
  rw [List.getElem?_toArray, List.getElem?_append_left (by simpa using h)]
  simp [h]

theorem pvObj_cell (x : Int) (w : World) (i : Nat) (h : i < (pv x).length) : (w.alloc (pvObj x)).cell? ⟨w.heap.size, i, none⟩ = some (.int .u8 ((pv x).getD i 0)) := by
  rw [pvObj, World.cell?_alloc_at (hn := rfl)]
  exact pre10_get _ _ h
end Go.Proofs.YtbfihajgjbpmaaaGreat
/- Plain facts on what bytes say as a number: no Go in sight. -/
namespace Go.Proofs.YtbfihajgjbpmaaaGreat
set_option linter.unusedVariables false
set_option maxRecDepth 4000

/-- what bytes say, read from place i on with x so far -/
def varGo : List Int → Nat → Int → Int × Int
  | [], _, _ => (0, 0)
  | c :: r, i, x => if i = 9 ∧ 1 < c then (0, 0) else if 128 ≤ c then varGo r (i + 1) (x + c % 128 * 128 ^ i) else if c = 0 ∧ 0 < i then (0, 0) else (x + c % 128 * 128 ^ i, (i : Int) + 1)

/-- what bytes say -/
def varR (zs : List Int) : Int × Int := varGo zs 0 0

theorem pow128_pos (i : Nat) : (0 : Int) < 128 ^ i := Int.pow_pos (by omega)
theorem pow128_succ (i : Nat) : (128 : Int) ^ (i + 1) = 128 ^ i * 128 := Int.pow_succ ..
theorem pow128_mono (i j : Nat) (h : i ≤ j) : (128 : Int) ^ i ≤ 128 ^ j := by
  have : (128 : Nat) ^ i ≤ 128 ^ j := Nat.pow_le_pow_right (by omega) h
  have e : ∀ n : Nat, (128 : Int) ^ n = ((128 ^ n : Nat) : Int) := fun n => by simp
  rw [e i, e j]; omega

theorem split128 (y : Int) (i : Nat) : y % 128 * 128 ^ i + y / 128 * 128 ^ (i + 1) = y * 128 ^ i := by
  rw [pow128_succ]
  have h : y = y % 128 + y / 128 * 128 := by omega
  have e : y / 128 * (128 ^ i * 128) = y / 128 * 128 * 128 ^ i := by rw [Int.mul_comm (128 ^ i) 128, Int.mul_assoc]
  rw [e, ← Int.add_mul, ← h]

theorem mul_le_of {a b p : Int} (hp : 0 < p) (h : a ≤ b) : a * p ≤ b * p := Int.mul_le_mul_of_nonneg_right h (by omega)

/-- what was put is got, whatever is behind it -/
theorem varGo_put : ∀ (m : Nat) (y : Int) (rest : List Int) (i : Nat) (x : Int), y.toNat < m → 0 ≤ y → y * 128 ^ i ≤ 18446744073709551615 → (i = 0 ∨ 0 < y) → varGo (pv y ++ rest) i x = (x + y * 128 ^ i, (i : Int) + (pv y).length)
  | 0, y, rest, i, x, hm, h0, hb, hi => by omega
  | m + 1, y, rest, i, x, hm, h0, hb, hi => by
    have hp := pow128_pos i
    have h9 : i = 9 → y ≤ 1 := by
      rintro rfl
      have : (128 : Int) ^ 9 = 9223372036854775808 := by decide
      omega
    by_cases hy : y < 128
    · rw [pv_small hy]
      simp only [List.cons_append, List.nil_append, varGo, List.length_cons, List.length_nil]
      rw [if_neg (by omega), if_neg (by omega), if_neg (by omega), show y % 128 = y from by omega]
      simp
    · rw [pv_big hy]
      simp only [List.cons_append, varGo]
      have hs := split128 y i
      have hq : 0 ≤ y / 128 * 128 ^ (i + 1) := Int.mul_nonneg (by omega) (Int.le_of_lt (pow128_pos _))
      have hr : 0 ≤ y % 128 * 128 ^ i := Int.mul_nonneg (by omega) (by omega)
      rw [if_neg (by omega), if_pos (by omega), varGo_put m (y / 128) rest (i + 1) _ (by omega) (by omega) (by omega) (by omega)]
      have e : (y % 128 + 128) % 128 = y % 128 := by omega
      rw [e]
      simp only [Prod.mk.injEq, List.length_cons]
      constructor
      · omega
      · omega

theorem varR_put (y : Int) (rest : List Int) (h0 : 0 ≤ y) (h1 : y ≤ 18446744073709551615) : varR (pv y ++ rest) = (y, ((pv y).length : Int)) := by
  have := varGo_put (y.toNat + 1) y rest 0 0 (by omega) h0 (by simpa using h1) (.inl rfl)
  simpa [varR] using this

/-- what is told is put so -/
theorem varGo_back : ∀ (zs : List Int) (i : Nat) (x : Int), i ≤ 9 → (∀ z ∈ zs, 0 ≤ z ∧ z ≤ 255) → (varGo zs i x).2 ≠ 0 →
    ∃ y rest, zs = pv y ++ rest ∧ 0 ≤ y ∧ y * 128 ^ i ≤ 128 ^ 9 * 2 - 1 ∧ (i = 0 ∨ 0 < y) ∧ varGo zs i x = (x + y * 128 ^ i, (i : Int) + (pv y).length)
  | [], i, x, hi, hz, h => by simp [varGo] at h
  | c :: r, i, x, hi, hz, h => by
    have hc := hz c (List.mem_cons_self ..)
    have hp := pow128_pos i
    have h9 : (128 : Int) ^ 9 = 9223372036854775808 := by decide
    simp only [varGo] at h ⊢
    by_cases h1 : i = 9 ∧ 1 < c
    · rw [if_pos h1] at h; simp at h
    rw [if_neg h1] at h ⊢
    by_cases h2 : 128 ≤ c
    · rw [if_pos h2] at h ⊢
      have hi8 : i + 1 ≤ 9 := by omega
      obtain ⟨y, rest, hr, hy0, hyb, hy1, he⟩ := varGo_back r (i + 1) _ hi8 (fun z hz' => hz z (List.mem_cons_of_mem _ hz')) h
      have hy : 0 < y := by omega
      refine ⟨c - 128 + y * 128, rest, ?_, by omega, ?_, .inr (by omega), ?_⟩
      · rw [pv_big (by omega), show (c - 128 + y * 128) % 128 + 128 = c from by omega, show (c - 128 + y * 128) / 128 = y from by omega, hr]; rfl
      · have := split128 (c - 128 + y * 128) i
        rw [show (c - 128 + y * 128) % 128 = c - 128 from by omega, show (c - 128 + y * 128) / 128 = y from by omega] at this
        have h3 : (c - 128) * 128 ^ i ≤ 127 * 128 ^ i := mul_le_of hp (by omega)
        have h4 : 128 ^ i * 128 ≤ (128 : Int) ^ 9 := by rw [← pow128_succ]; exact pow128_mono _ _ hi8
        have h5 : y * 128 ^ (i + 1) ≤ 128 ^ 9 * 2 - 128 ^ (i + 1) := by
          have p1 := pow128_pos (i + 1)
          obtain ⟨d, hd⟩ : ∃ d, 9 = i + 1 + d := ⟨9 - (i + 1), by omega⟩
          have e9 : (128 : Int) ^ 9 * 2 = 128 ^ d * 2 * 128 ^ (i + 1) := by
            rw [hd, Int.pow_add, Int.mul_comm (128 ^ (i + 1)) (128 ^ d), Int.mul_assoc, Int.mul_assoc, Int.mul_comm 2]
          have : y * 128 ^ (i + 1) < 128 ^ d * 2 * 128 ^ (i + 1) := by omega
          have lt : y < 128 ^ d * 2 := Int.lt_of_mul_lt_mul_right this (by omega)
          have := mul_le_of p1 (show y + 1 ≤ 128 ^ d * 2 from by omega)
          rw [Int.add_mul, ← e9] at this
          omega
        rw [pow128_succ] at this h5
        omega
      · rw [he]
        have := split128 (c - 128 + y * 128) i
        rw [show (c - 128 + y * 128) % 128 = c - 128 from by omega, show (c - 128 + y * 128) / 128 = y from by omega] at this
        rw [pv_big (x := c - 128 + y * 128) (by omega), show (c - 128 + y * 128) / 128 = y from by omega, show c % 128 = c - 128 from by omega]
        simp only [Prod.mk.injEq, List.length_cons]
        constructor
        · omega
        · omega
    · rw [if_neg h2] at h ⊢
      by_cases h3 : c = 0 ∧ 0 < i
      · rw [if_pos h3] at h; simp at h
      rw [if_neg h3]
      refine ⟨c, r, by rw [pv_small (by omega)]; rfl, hc.1, ?_, by omega, ?_⟩
      · by_cases e : i = 9
        · subst e; have := mul_le_of hp (show c ≤ 1 from by omega); omega
        · have := mul_le_of hp (show c ≤ 127 from by omega)
          have h4 : 128 ^ i * 128 ≤ (128 : Int) ^ 9 := by rw [← pow128_succ]; exact pow128_mono _ _ (by omega)
          omega
      · rw [pv_small (by omega), show c % 128 = c from by omega]; rfl

theorem varR_back (zs : List Int) (hz : ∀ z ∈ zs, 0 ≤ z ∧ z ≤ 255) (h : (varR zs).2 ≠ 0) :
    ∃ y rest, zs = pv y ++ rest ∧ 0 ≤ y ∧ y ≤ 18446744073709551615 ∧ varR zs = (y, ((pv y).length : Int)) := by
  obtain ⟨y, rest, hr, h0, hb, _, he⟩ := varGo_back zs 0 0 (by omega) hz h
  have h9 : (128 : Int) ^ 9 = 9223372036854775808 := by decide
  refine ⟨y, rest, hr, h0, by omega, ?_⟩
  rw [varR, he]; simp

theorem varGo_none : ∀ (zs : List Int) (i : Nat) (x : Int), (varGo zs i x).2 = 0 → (varGo zs i x).1 = 0
  | [], i, x, h => rfl
  | c :: r, i, x, h => by
    simp only [varGo] at h ⊢
    split at h
    · rename_i h1; rw [if_pos h1]
    · rename_i h1
      rw [if_neg h1]
      split at h
      · rename_i h2; rw [if_pos h2]; exact varGo_none r _ _ h
      · rename_i h2
        rw [if_neg h2]
        split at h
        · rename_i h3; rw [if_pos h3]
        · simp at h; omega
theorem varR_none {zs : List Int} (h : (varR zs).2 = 0) : varR zs = (0, 0) := Prod.ext (varGo_none zs 0 0 h) h

/-- bounds of what is told -/
theorem varR_bd (zs : List Int) (hz : ∀ z ∈ zs, 0 ≤ z ∧ z ≤ 255) : 0 ≤ (varR zs).1 ∧ (varR zs).1 ≤ 18446744073709551615 ∧ 0 ≤ (varR zs).2 ∧ (varR zs).2 ≤ 10 ∧ (varR zs).2 ≤ zs.length := by
  by_cases h : (varR zs).2 = 0
  · rw [varR_none h]; simp; 
  · obtain ⟨y, rest, hr, h0, h1, he⟩ := varR_back zs hz h
    have := pv_len10 (x := y) (by omega)
    rw [he, hr]; simp; omega
end Go.Proofs.YtbfihajgjbpmaaaGreat
/- A slice of bytes in memory, and the contract of Var. -/
namespace Go.Proofs.YtbfihajgjbpmaaaGreat
open Go.ChangeShapes Go.WideShapes Go.ChangeAt Go.RowKit
set_option linter.unusedVariables false
set_option maxRecDepth 4000

/-- the slice at a of n elements holds the bytes zs -/
def BV (w : World) (a : Option Addr) (n : Nat) (zs : List Int) : Prop :=
  zs.length = n ∧ (∀ z ∈ zs, 0 ≤ z ∧ z ≤ 255) ∧ (n = 0 ∨ ∃ b off, a = some ⟨b, off, none⟩ ∧ ∀ i, i < n → w.cell? ⟨b, off + i, none⟩ = some (.int .u8 (zs.getD i 0)))

theorem or_add (x c : Int) (k : Nat) (hk : k ≤ 9) (h0 : 0 ≤ x) (h1 : x < 128 ^ k) (hc0 : 0 ≤ c) (hc1 : c ≤ 255) (hc9 : k = 9 → c ≤ 1) :
    bits BinOp.or IntKind.u64 x (IntKind.u64.wrap (IntKind.u64.wrap (bits BinOp.and IntKind.u8 c 127) * 2 ^ (7 * k))) = x + c % 128 * 128 ^ k := by
  have e1 : bits BinOp.and IntKind.u8 c 127 = c % 128 := by
    rw [u8_and _ _ hc0 (by omega) (by omega) (by omega), show (127 : Int).toNat = 127 from rfl, nat_mask7]; omega
  have e2 : IntKind.u64.wrap (c % 128) = c % 128 := by rw [IntKind.wrap_u64]; omega
  have e3 : (2 : Int) ^ (7 * k) = ((2 ^ (7 * k) : Nat) : Int) := by simp
  have e4 : (128 : Int) ^ k = ((2 ^ (7 * k) : Nat) : Int) := by rw [Nat.pow_mul]; simp
  have hp : 0 < 2 ^ (7 * k) := Nat.pow_pos (by omega)
  have hl : c % 128 * (128 : Int) ^ k ≤ 9223372036854775808 := by
    by_cases e : k = 9
    · subst e
      have := mul_le_of (pow128_pos 9) (show c % 128 ≤ 1 from by have := hc9 rfl; omega)
      have h9 : (128 : Int) ^ 9 = 9223372036854775808 := by decide
      omega
    · have := mul_le_of (pow128_pos k) (show c % 128 ≤ 127 from by omega)
      have h4 : 128 ^ k * 128 ≤ (128 : Int) ^ 9 := by rw [← pow128_succ]; exact pow128_mono _ _ (by omega)
      have h9 : (128 : Int) ^ 9 = 9223372036854775808 := by decide
      have := pow128_pos k
      omega
  have hm : 0 ≤ c % 128 * (128 : Int) ^ k := Int.mul_nonneg (by omega) (Int.le_of_lt (pow128_pos k))
  have hxl : x < 18446744073709551616 := by
    have := pow128_mono k 9 hk
    have h9 : (128 : Int) ^ 9 = 9223372036854775808 := by decide
    omega
  rw [e1, e2, e3, ← e4, IntKind.wrap_u64, Int.emod_eq_of_lt hm (by omega)]
  rw [u64_or _ _ h0 (by omega) hm (by omega), Nat.or_comm, nat_join (7 * k) _ _ ?_ (by omega)]
  · omega
  · have : (c % 128 * (128 : Int) ^ k).toNat = (c % 128).toNat * 2 ^ (7 * k) := by
      obtain ⟨m, hm'⟩ : ∃ m : Nat, c % 128 = m := ⟨(c % 128).toNat, by omega⟩
      rw [hm', e4, ← Int.natCast_mul, Int.toNat_natCast, Int.toNat_natCast]
    rw [this, Nat.mul_mod_left]

theorem acc_lt (x c : Int) (k : Nat) (h0 : 0 ≤ x) (h1 : x < 128 ^ k) (hc0 : 0 ≤ c) : 0 ≤ x + c % 128 * 128 ^ k ∧ x + c % 128 * 128 ^ k < 128 ^ (k + 1) := by
  have hm : 0 ≤ c % 128 * (128 : Int) ^ k := Int.mul_nonneg (by omega) (Int.le_of_lt (pow128_pos k))
  have := mul_le_of (pow128_pos k) (show c % 128 ≤ 127 from by omega)
  rw [pow128_succ]
  omega

theorem ret_two {a b c d : Int} (h1 : a = b) (h2 : c = d) : Ending.returned (.tuple #[.int .u64 a, .int .i64 c]) = .returned (.tuple #[.int .u64 b, .int .i64 d]) := by rw [h1, h2]

theorem varGo_big (c : Int) (r : List Int) (i : Nat) (x : Int) (h1 : ¬ (i = 9 ∧ 1 < c)) (h2 : 128 ≤ c) : varGo (c :: r) i x = varGo r (i + 1) (x + c % 128 * 128 ^ i) := by
  rw [varGo, if_neg h1, if_pos h2]
theorem varGo_last (c : Int) (r : List Int) (i : Nat) (x : Int) (h1 : ¬ (i = 9 ∧ 1 < c)) (h2 : c < 128) (h3 : ¬ (c = 0 ∧ 0 < i)) : varGo (c :: r) i x = (x + c % 128 * 128 ^ i, (i : Int) + 1) := by
  rw [varGo, if_neg h1, if_neg (by omega), if_neg h3]
theorem varGo_zero (c : Int) (r : List Int) (i : Nat) (x : Int) (h2 : c = 0) (h3 : 0 < i) : varGo (c :: r) i x = (0, 0) := by
  rw [varGo, if_neg (by omega), if_neg (by omega), if_pos ⟨h2, h3⟩]
theorem varGo_over (c : Int) (r : List Int) (i : Nat) (x : Int) (h1 : i = 9 ∧ 1 < c) : varGo (c :: r) i x = (0, 0) := by
  rw [varGo, if_pos h1]

set_option maxHeartbeats 1000000 in
theorem var_any (a : Option Addr) (n cap : Nat) (zs : List Int) (w : World) (hv : BV w a n zs) :
    Calls Tryz.prog 95 #[.slice a n cap] w fun e w' => e = .returned (.tuple #[.int .u64 (varR zs).1, .int .i64 (varR zs).2]) ∧ w' = w := by
  obtain ⟨hlen, hz, hn⟩ := hv
  go_enter Tryz.func95, Tryz.ntmps95
  go_wp2
  go_loop [4, 9] (fun x i => ∃ (k : Nat) (y : Int), k ≤ 9 ∧ k ≤ n ∧ i = .int .i64 (k : Int) ∧ x = .int .u64 y ∧ 0 ≤ y ∧ y < 128 ^ k ∧ Hid (varR zs = varGo (zs.drop k) k y)) (fun _ i => n - (intOf i).toNat)
  case atStart => exact ⟨0, 0, by omega, by omega, rfl, rfl, by omega, by simp, rfl⟩
  case round =>
    obtain ⟨k, y, hk9, hkn, rfl, rfl, hy0, hy1, hrel'⟩ := hrel
    by_cases hlt : k < n
    · rcases hn with hn | ⟨b, off, rfl, hcell⟩
      · omega
      have hc := hcell k hlt
      obtain ⟨c, hcd⟩ : ∃ c, c = zs.getD k 0 := ⟨_, rfl⟩
      rw [← hcd] at hc
      have hdrop : zs.drop k = c :: zs.drop (k + 1) := by
        rw [List.drop_eq_getElem_cons (by omega), hcd]; simp [show k < zs.length from by omega]
      have hcb : 0 ≤ c ∧ c ≤ 255 := by apply hz; rw [hcd]; simp [show k < zs.length from by omega]
      obtain ⟨hc0, hc1⟩ := hcb
      have HD : Hid (varR zs = varGo (c :: zs.drop (k + 1)) k y) := by show _ = _; rw [← hdrop]; exact hrel'.out
      clear hdrop hcd hcell hz hrel'
      by_cases h9 : k = 9
      · subst h9
        by_cases hc2 : 1 < c
        · go_wp2
          go_ret2
          exact ⟨ret_two (by rw [HD.out, varGo_over _ _ _ _ ⟨rfl, hc2⟩]) (by rw [HD.out, varGo_over _ _ _ _ ⟨rfl, hc2⟩]), rfl⟩
        · by_cases hc3 : c = 0
          · subst hc3
            go_wp2
            go_ret2
            exact ⟨ret_two (by rw [HD.out, varGo_zero _ _ _ _ rfl (by omega)]) (by rw [HD.out, varGo_zero _ _ _ _ rfl (by omega)]), rfl⟩
          · obtain rfl : c = 1 := by omega
            have HO : Hid (bits BinOp.or IntKind.u64 y (IntKind.u64.wrap (IntKind.u64.wrap (bits BinOp.and IntKind.u8 1 127) * 9223372036854775808)) = y + 1 % 128 * 128 ^ 9) := by
              have := or_add y 1 9 (by omega) hy0 hy1 (by omega) (by omega) (by omega)
              show _ = _
              simpa using this
            go_wp2
            go_ret2
            exact ⟨ret_two (by rw [HD.out, varGo_last _ _ _ _ (by omega) (by omega) (by omega)]; exact HO.out) (by rw [HD.out, varGo_last _ _ _ _ (by omega) (by omega) (by omega)]; rfl), rfl⟩
      · have hk8 : ((k : Int) == 9) = false := by rw [beq_eq_false_iff_ne]; omega
        have hor := or_add y c k hk9 hy0 hy1 hc0 hc1 (by omega)
        have hac := acc_lt y c k hy0 hy1 hc0
        have HO : Hid (_ = _) := hor
        clear hor
        by_cases h128 : 128 ≤ c
        · go_wp2
          go_round
          case rel =>
            rw [HO.out]
            refine ⟨k + 1, _, by omega, by omega, by go_num, rfl, hac.1, hac.2, ?_⟩
            show _ = _
            rw [HD.out, varGo_big _ _ _ _ (by omega) h128]
          case measure => simp [intOf]; omega
        · by_cases hc3 : c = 0
          · by_cases hk0 : k = 0
            · subst hk0 hc3
              have hc' : w.cell? ⟨b, off, none⟩ = some (.int .u8 0) := by simpa using hc
              clear hc
              go_wp2
              go_ret2
              exact ⟨ret_two (by rw [HD.out, varGo_last _ _ _ _ (by omega) (by omega) (by omega)]; exact HO.out) (by rw [HD.out, varGo_last _ _ _ _ (by omega) (by omega) (by omega)]; rfl), rfl⟩
            · subst hc3
              have hkp : 0 < k := by omega
              go_wp2
              go_ret2
              exact ⟨ret_two (by rw [HD.out, varGo_zero _ _ _ _ rfl (by omega)]) (by rw [HD.out, varGo_zero _ _ _ _ rfl (by omega)]), rfl⟩
          · have hne : (c == 0) = false := by rw [beq_eq_false_iff_ne]; omega
            go_wp2
            go_ret2
            exact ⟨ret_two (by rw [HD.out, varGo_last _ _ _ _ (by omega) (by omega) (by omega)]; exact HO.out) (by rw [HD.out, varGo_last _ _ _ _ (by omega) (by omega) (by omega)]), rfl⟩
    · have HD : Hid (varR zs = (0, 0)) := by
        show _ = _
        rw [hrel'.out, List.drop_eq_nil_of_le (by omega)]; rfl
      clear hrel'
      go_wp2
      go_ret2
      exact ⟨ret_two (by rw [HD.out]) (by rw [HD.out]), rfl⟩
end Go.Proofs.YtbfihajgjbpmaaaGreat
/- Slices of bytes: how they stand the growth of memory, how they are cut, and turned into texts; the contract of 'short'. -/
namespace Go.Proofs.YtbfihajgjbpmaaaGreat
open Go.ChangeShapes Go.WideShapes Go.ChangeAt Go.RowKit
set_option linter.unusedVariables false
set_option maxRecDepth 4000

theorem BV.mono {w w' : World} {a : Option Addr} {n : Nat} {zs : List Int} (h : BV w a n zs) (hc : ∀ b o v, w.cell? ⟨b, o, none⟩ = some v → w'.cell? ⟨b, o, none⟩ = some v) : BV w' a n zs := by
  obtain ⟨h1, h2, h3⟩ := h
  refine ⟨h1, h2, ?_⟩
  rcases h3 with h3 | ⟨b, off, rfl, hcell⟩
  · exact .inl h3
  · exact .inr ⟨b, off, rfl, fun i hi => hc _ _ _ (hcell i hi)⟩
theorem cell_lt {w : World} {b o : Nat} {v : Value} (h : w.cell? ⟨b, o, none⟩ = some v) : b < w.heap.size := by
  rcases Nat.lt_or_ge b w.heap.size with h' | h'
  · exact h'
  · simp [World.cell?, Array.getElem?_eq_none h'] at h
theorem cell_alloc (w : World) (o : Obj) {b i : Nat} {v : Value} (h : w.cell? ⟨b, i, none⟩ = some v) : (w.alloc o).cell? ⟨b, i, none⟩ = some v := by
  have := cell_lt h
  rw [World.cell?_of_block (w := w) (a := ⟨b, i, none⟩)]
  · exact h
  · show (w.heap.push o)[b]? = _
    rw [Array.getElem?_push]; simp; omega
theorem BV.alloc {w : World} {a : Option Addr} {n : Nat} {zs : List Int} (h : BV w a n zs) (o : Obj) : BV (w.alloc o) a n zs := h.mono fun _ _ _ hc => cell_alloc w o hc
theorem BV.drew {w : World} {a : Option Addr} {n : Nat} {zs : List Int} (h : BV w a n zs) : BV w.drew a n zs := h
theorem BV.below {w w' : World} {a : Option Addr} {n : Nat} {zs : List Int} (h : BV w a n zs) (hb : Below w.heap.size w w') : BV w' a n zs :=
  h.mono fun b o v hc => by rw [hb.cell (p := ⟨b, o, none⟩) (cell_lt hc)]; exact hc
theorem BV.take {w : World} {a : Option Addr} {n : Nat} {zs : List Int} (h : BV w a n zs) (m : Nat) (hm : m ≤ n) : BV w a m (zs.take m) := by
  obtain ⟨h1, h2, h3⟩ := h
  refine ⟨by simp; omega, fun z hz => h2 z (List.mem_of_mem_take hz), ?_⟩
  rcases h3 with h3 | ⟨b, off, rfl, hcell⟩
  · exact .inl (by omega)
  · refine .inr ⟨b, off, rfl, fun i hi => ?_⟩
    rw [hcell i (by omega)]
    simp [hi]
theorem pv_range : ∀ (m : Nat) (x : Int), x.toNat < m → 0 ≤ x → ∀ z ∈ pv x, 0 ≤ z ∧ z ≤ 255
  | 0, x, hm, h0, z, hz => by omega
  | m + 1, x, hm, h0, z, hz => by
    by_cases h : x < 128
    · rw [pv_small h] at hz; simp at hz; omega
    · rw [pv_big h] at hz
      rcases List.mem_cons.1 hz with hz | hz
      · omega
      · exact pv_range m (x / 128) (by omega) (by omega) z hz
theorem pv_bytes {x : Int} (h0 : 0 ≤ x) : ∀ z ∈ pv x, 0 ≤ z ∧ z ≤ 255 := pv_range _ x (Nat.lt_succ_self _) h0
theorem BV.pv {x : Int} (w : World) (h0 : 0 ≤ x) : BV (w.alloc (pvObj x)) (some ⟨w.heap.size, 0, none⟩) (Go.Proofs.YtbfihajgjbpmaaaGreat.pv x).length (Go.Proofs.YtbfihajgjbpmaaaGreat.pv x) :=
  ⟨rfl, pv_bytes h0, .inr ⟨_, _, rfl, fun i hi => by rw [Nat.zero_add]; exact pvObj_cell x w i hi⟩⟩
/-- a slice of bytes that came in -/
theorem bv_of {w : World} {a : Option Addr} {len cap : Nat} {zs : List Int}
    (h : (a = none ∧ len = 0 ∧ cap = 0 ∧ zs = []) ∨ ∃ x, a = some x ∧ len ≤ cap ∧ cap ≤ maxLen ∧ zs.length = cap ∧ (∀ i, i < zs.length → w.cell? (x.add i) = some (.int .u8 (zs.getD i 0))) ∧ ∀ n ∈ zs, (Lit.int .u8 n).wf = true) :
    BV w a len (zs.take len) ∧ len ≤ cap ∧ cap ≤ maxLen := by
  rcases h with ⟨rfl, rfl, rfl, rfl⟩ | ⟨x, rfl, hl, hm, hz, hcell, hwz⟩
  · exact ⟨⟨rfl, by simp, .inl rfl⟩, Nat.le_refl _, Nat.zero_le _⟩
  · refine ⟨⟨by simp; omega, fun z hz' => bounds_u8 (hwz z (List.mem_of_mem_take hz')), ?_⟩, hl, hm⟩
    by_cases h0 : len = 0
    · exact .inl h0
    · obtain ⟨b, off, spot⟩ := x
      have hc := hcell 0 (by omega)
      have hspot : spot = none := by simpa [Addr.add] using World.cell?_spot hc
      subst hspot
      refine .inr ⟨b, off, rfl, fun i hi => ?_⟩
      have := hcell i (by omega)
      have ha : (⟨b, off, none⟩ : Addr).add i = ⟨b, off + i, none⟩ := by unfold Addr.add; split <;> simp_all
      rw [ha] at this
      simp [hi]
      simpa using this

/-- a slice of bytes as a text -/
theorem conv_any {w : World} {a : Option Addr} {n : Nat} {zs : List Int} (h : BV w a n zs) (cap : Nat) : (convert 26 9 (.slice a n cap)).run Tryz.prog w = .ok (.string (strOfNums zs)) w := by
  obtain ⟨h1, h2, h3⟩ := h
  rcases h3 with h3 | ⟨b, off, rfl, hcell⟩
  · subst h3
    have hz : zs = [] := List.eq_nil_of_length_eq_zero h1
    subst hz
    cases a with
    | none => exact run_convert_bytes_nil w 26 5 Tryz.underlying26 Tryz.underlying5 0 cap 9 Tryz.underlying9
    | some x =>
      rw [run_convert_bytes_string w 26 9 5 _ 0 cap Tryz.underlying26 Tryz.underlying5 Tryz.underlying9, run_bytesToString w _ 0 cap []]
      · rfl
      · exact run_loadCells_list w x [] (by simp)
  · exact run_convert_bytes_arg w 26 5 Tryz.underlying26 Tryz.underlying5 b off n cap zs h1 hcell 9 Tryz.underlying9

end Go.Proofs.YtbfihajgjbpmaaaGreat
/- Regions that leave their order open: memory only grows in them. -/
namespace Go.Proofs.YtbfihajgjbpmaaaGreat
open Go.ChangeShapes Go.WideShapes Go.ChangeAt Go.RowKit
set_option linter.unusedVariables false
set_option maxRecDepth 4000

/-- w has all that V had -/
def Ext (V w : World) : Prop := ∀ b i v, V.cell? ⟨b, i, none⟩ = some v → w.cell? ⟨b, i, none⟩ = some v
theorem Ext.refl (V : World) : Ext V V := fun _ _ _ h => h
theorem Ext.trans {a b c : World} (h1 : Ext a b) (h2 : Ext b c) : Ext a c := fun x i v h => h2 x i v (h1 x i v h)
theorem Ext.alloc {V w : World} (h : Ext V w) (o : Obj) : Ext V (w.alloc o) := fun x i v hc => cell_alloc w o (h x i v hc)
theorem Ext.drew {V w : World} (h : Ext V w) : Ext V w.drew := h
theorem BV.ext {V w : World} {a : Option Addr} {n : Nat} {zs : List Int} (h : BV V a n zs) (he : Ext V w) : BV w a n zs := h.mono he

theorem held_mono {P : Program} {md : Region.Mode} {ops : Array Oper} {Q : Exit → Act → World → Prop} {S S' : World → Prop} (hS : ∀ w, S' w → S w) :
    ∀ (fuel : Nat) (listed : Array Bool) (a : Act) (w : World), wpAnyH P md ops Q S' fuel listed a w → wpAnyH P md ops Q S fuel listed a w
  | 0, _, _, _, h => h
  | fuel + 1, _, _, _, h => ⟨h.1, fun i hi => wpOp_mono (fun a' w' h' => ⟨hS _ h'.1, held_mono hS fuel _ a' w' h'.2⟩) (h.2 i hi)⟩

/-- from here on memory has at least what it has now -/
theorem held_now {P : Program} {md : Region.Mode} {ops : Array Oper} {Q : Exit → Act → World → Prop} {V : World} {fuel : Nat} {listed : Array Bool} {a : Act} {w : World}
    (he : Ext V w) (h : Ext w w → wpAnyH P md ops Q (Ext w) fuel listed a w) : wpAnyH P md ops Q (Ext V) fuel listed a w :=
  held_mono (fun _ h' => he.trans h') fuel listed a w (h (Ext.refl w))

/-- an operation that yields now is taken first; d: where it lays its value -/
theorem take_at {P : Program} {md : Region.Mode} {ops : Array Oper} {Q : Exit → Act → World → Prop} {S : World → Prop} {i : Nat} {oi : Oper} {v : Value} {fuel : Nat} {listed : Array Bool} {a : Act} {w : World}
    (d : Option Tmp) (hi : ops[i]? = some oi) (hs : Region.noSelect ops = true) (hf : Region.free md ops listed i = true) (hr : (Region.ready md ops listed).contains i = true) (hd : oi.dst = d)
    (hQ : ∀ c a w, Q (.panic c) (a.put d v) w → Q (.panic c) a w) (hy : YieldsIf P ops S oi v a) (hS : S w)
    (h : wpAnyH P md ops Q S fuel (listed.setIfInBounds i true) (a.put d v) w) : wpAnyH P md ops Q S (fuel + 1) listed a w := by
  subst hd
  exact wpAnyH_take hi hs hf hr hQ hy hS h
theorem Ext.below {V w : World} (h : Below V.heap.size V w) : Ext V w := fun b i v hc => by rw [h.cell (p := ⟨b, i, none⟩) (cell_lt hc)]; exact hc
theorem strOfNums_inj {a b : List Int} (ha : ∀ z ∈ a, 0 ≤ z ∧ z ≤ 255) (hb : ∀ z ∈ b, 0 ≤ z ∧ z ≤ 255) (h : strOfNums a = strOfNums b) : a = b := by
  have h1 : (a.map fun n => UInt8.ofNat n.toNat) = b.map fun n => UInt8.ofNat n.toNat := by rw [← strOfNums_data, ← strOfNums_data, h]
  clear h
  induction a generalizing b with
  | nil => cases b with
    | nil => rfl
    | cons y b => simp at h1
  | cons x a ih => cases b with
    | nil => simp at h1
    | cons y b =>
      simp only [List.map_cons, List.cons.injEq] at h1
      have hx := ha x (List.mem_cons_self ..)
      have hy := hb y (List.mem_cons_self ..)
      have e : x.toNat = y.toNat := by
        have := congrArg UInt8.toNat h1.1
        simp at this; omega
      rw [show x = y from by omega, ih (fun z hz => ha z (List.mem_cons_of_mem _ hz)) (fun z hz => hb z (List.mem_cons_of_mem _ hz)) h1.2]

theorem toList_inj {a b : ByteArray} (h : a.toList = b.toList) : a = b := by
  rw [ByteArray.toList_eq, ByteArray.toList_eq] at h
  obtain ⟨⟨l⟩⟩ := a
  obtain ⟨⟨m⟩⟩ := b
  have h' : l = m := h
  rw [h']
end Go.Proofs.YtbfihajgjbpmaaaGreat
/- Bytes that the call itself gathers: slices of its own that it appends to. -/
namespace Go.Proofs.YtbfihajgjbpmaaaGreat
open Go.ChangeShapes Go.WideShapes Go.ChangeAt Go.RowKit
set_option linter.unusedVariables false
set_option maxRecDepth 4000

/-- v holds the bytes bs, in memory of the call's own, from block number base on -/
def OB (w : World) (base : Nat) (v : Value) (bs : List Int) : Prop := w.ownsRow base 5 1 v bs.length (bs.map (Value.int .u8))

theorem info5 : (Tryz.prog.info? 5).map (fun i => (i.zero, i.size, i.bytes)) = some (some (.int .u8 0), 1, 1) := by kernel_rfl

theorem heap_alloc (w : World) (o : Obj) : (w.alloc o).heap.size = w.heap.size + 1 := by show (w.heap.push o).size = _; simp
theorem OB.empty (w : World) (base : Nat) (hb : base ≤ w.heap.size) (g : Nat) (hg : g = w.heap.size) : OB (w.alloc (.cells #[] 5)) base (.slice (some ⟨g, 0, none⟩) 0 0) [] := by
  subst hg
  refine ⟨rfl, .inr ⟨w.heap.size, 0, #[], rfl, hb, ?_, Nat.le_refl _, Nat.zero_le _, rfl, rfl⟩⟩
  show (w.heap.push _)[w.heap.size]? = _
  simp
theorem OB.alloc {w : World} {base : Nat} {v : Value} {bs : List Int} (h : OB w base v bs) (o : Obj) : OB (w.alloc o) base v bs := World.ownsRow.alloc h o
theorem OB.drew {w : World} {base : Nat} {v : Value} {bs : List Int} (h : OB w base v bs) : OB w.drew base v bs := h
theorem OB.lt {w : World} {base : Nat} {v : Value} {bs : List Int} (h : OB w base v bs) : ∀ k, v.ownBlock = some k → base ≤ k := fun k hk => (World.ownsRow.lt h k hk).1

/-- what is owned is a slice of bytes -/
theorem OB.bv {w : World} {base : Nat} {v : Value} {bs : List Int} (h : OB w base v bs) (hb : ∀ z ∈ bs, 0 ≤ z ∧ z ≤ 255) :
    ∃ a cap, v = .slice a bs.length cap ∧ bs.length ≤ cap ∧ BV w a bs.length bs ∧ ∀ x, a = some x → base ≤ x.block := by
  have h' := h
  rcases h.2 with ⟨rfl, h0⟩ | ⟨g, cap, cur, rfl, hg, hh, hl, hm, hs, ht⟩
  · refine ⟨none, 0, by rw [h0], by omega, ⟨rfl, hb, .inl h0⟩, fun x hx => by cases hx⟩
  · refine ⟨_, cap, rfl, hl, ⟨rfl, hb, .inr ⟨g, 0, rfl, fun i hi => ?_⟩⟩, fun x hx => by cases hx; exact hg⟩
    unfold OB at h'
    rw [Nat.zero_add, World.ownsRow.cellAt h' i (by omega)]
    simp [hi]

theorem OB.bvn {w : World} {base : Nat} {v : Value} {bs : List Int} (h : OB w base v bs) (hb : ∀ z ∈ bs, 0 ≤ z ∧ z ≤ 255) (n : Nat) (hn : bs.length = n) :
    ∃ a cap, v = .slice a n cap ∧ n ≤ cap ∧ BV w a n bs ∧ (∀ x, a = some x → base ≤ x.block) := by
  subst hn; exact h.bv hb
theorem BV.cells {w : World} {b n : Nat} {zs : List Int} (h : BV w (some ⟨b, 0, none⟩) n zs) : ∀ j u, (zs.map (Value.int .u8))[j]? = some u → w.cell? ((⟨b, 0, none⟩ : Addr).add j) = some u := by
  intro j u hj
  obtain ⟨h1, h2, h3⟩ := h
  have hjl : j < zs.length := by
    rcases Nat.lt_or_ge j zs.length with h | h
    · exact h
    · simp [List.getElem?_eq_none h] at hj
  rcases h3 with h3 | ⟨b', off, hb, hcell⟩
  · omega
  · cases hb
    have ha : (⟨b, 0, none⟩ : Addr).add j = ⟨b, 0 + j, none⟩ := by unfold Addr.add; split <;> simp_all
    rw [ha, hcell j (by omega)]
    simp [hjl] at hj ⊢
    exact hj
theorem oneCells (zs : List Int) : ∀ u ∈ zs.map (Value.int .u8), u.oneCell' = true := by
  intro u hu
  obtain ⟨z, _, rfl⟩ := List.mem_map.1 hu
  rfl
theorem BV.drop {w : World} {b off n : Nat} {zs : List Int} (h : BV w (some ⟨b, off, none⟩) n zs) (k : Nat) (hk : k ≤ n) : BV w (some ⟨b, off + k, none⟩) (n - k) (zs.drop k) := by
  obtain ⟨h1, h2, h3⟩ := h
  refine ⟨by simp; omega, fun z hz => h2 z (List.mem_of_mem_drop hz), ?_⟩
  rcases h3 with h3 | ⟨b', off', hb, hcell⟩
  · exact .inl (by omega)
  · cases hb
    refine .inr ⟨b, off + k, rfl, fun i hi => ?_⟩
    have := hcell (k + i) (by omega)
    rw [show off + k + i = off + (k + i) from by omega, this]
    simp [List.getD]
/-- a slice that is cut from k on, as the walk writes it -/
theorem BV.cut {w : World} {b off n : Nat} {zs : List Int} (h : BV w (some ⟨b, off, none⟩) n zs) (k c : Nat) (hk : k ≤ n) (hc : n ≤ c) :
    BV w (if c = k then some ⟨b, off, none⟩ else some ⟨b, off + k, none⟩) (n - k) (zs.drop k) := by
  split
  · have := h.drop k hk
    exact ⟨this.1, this.2.1, .inl (by omega)⟩
  · exact h.drop k hk
end Go.Proofs.YtbfihajgjbpmaaaGreat
/- Put64 and Get64: plain facts and contracts. -/
namespace Go.Proofs.YtbfihajgjbpmaaaGreat
open Go.ChangeShapes Go.WideShapes Go.ChangeAt Go.RowKit
set_option linter.unusedVariables false
set_option maxRecDepth 4000

/-- byte number i of x -/
def d8 (x : Int) (i : Nat) : Int := x / 2 ^ (8 * i) % 256
/-- x as eight bytes -/
def w8 (x : Int) : List Int := (List.range 8).map (d8 x)
theorem d8_bd (x : Int) (i : Nat) : 0 ≤ d8 x i ∧ d8 x i ≤ 255 := by unfold d8; omega
theorem w8_len (x : Int) : (w8 x).length = 8 := rfl
theorem w8_bytes (x : Int) : ∀ z ∈ w8 x, 0 ≤ z ∧ z ≤ 255 := by
  intro z hz
  obtain ⟨i, _, rfl⟩ := List.mem_map.1 hz
  exact d8_bd x i

/-- the array of eight bytes whose first k are x's -/
def pre8 (x : Int) (k : Nat) : Array Value := ((List.range k).map (fun i => Value.int .u8 (d8 x i)) ++ List.replicate (8 - k) (Value.int .u8 0)).toArray
theorem pre8_zero (x : Int) : #[Value.int IntKind.u8 0, Value.int IntKind.u8 0, Value.int IntKind.u8 0, Value.int IntKind.u8 0,
      Value.int IntKind.u8 0, Value.int IntKind.u8 0, Value.int IntKind.u8 0, Value.int IntKind.u8 0] = pre8 x 0 := rfl
theorem pre8_set (x : Int) (k : Nat) (h : k < 8) : (pre8 x k).setIfInBounds k (.int .u8 (d8 x k)) = pre8 x (k + 1) := by
  unfold pre8
  simp only [List.setIfInBounds_toArray]
  congr 1
  have : 8 - k = (8 - (k + 1)) + 1 := by omega
  rw [this, List.replicate_succ, List.set_append_right _ _ (by simp), List.range_succ, List.map_append]
  simp
theorem pre8_at (x : Int) (k i : Nat) (h : i < 8) (hk : k ≤ 8) : ∃ v, (pre8 x k)[i]? = some v := by
  have : i < (pre8 x k).size := by simp [pre8]; omega
  exact ⟨_, Array.getElem?_eq_getElem this⟩
theorem pre8_get (x : Int) (i : Nat) (h : i < 8) : (pre8 x 8)[i]? = some (.int .u8 ((w8 x).getD i 0)) := by
  unfold pre8 w8
  rw [List.getElem?_toArray, List.getElem?_append_left (by simpa using h)]
  simp [h]

theorem u42 : Tryz.prog.underlying 122 = some (.array (Tryz.prog.arrayLen 122) (Tryz.prog.elem 122)) := by kernel_rfl
theorem len42 : Tryz.prog.arrayLen 122 = 8 := by kernel_rfl
theorem size42 (w : World) : (sizeOf (Tryz.prog.elem 122)).run Tryz.prog w = .ok 1 w := by kernel_rfl
theorem slice42 (b : Nat) (w : World) :
    (Instr.sliceAt 122 (.pointer (some ⟨b, 0, none⟩)) none none none).run Tryz.prog w = .ok (.slice (some ⟨b, 0, none⟩) 8 8) w := by
  rw [run_sliceAt_array_all w 122 _ u42, size42]
  simp [Result.andThen, slicedAt, len42, Addr.add]
/-- the block that Put64 makes -/
def p64Obj (x : Int) : Obj := .cells (pre8 x 8) 122
set_option maxHeartbeats 400000 in
theorem put64_any (x : Int) (w : World) (h1 : 0 ≤ x) (h2 : x ≤ 18446744073709551615) :
    Calls Tryz.prog 60 #[.int .u64 x] w fun e w' => e = .returned (.slice (some ⟨w.heap.size, 0, none⟩) 8 8) ∧ w' = w.alloc (p64Obj x) := by
  have hsl := fun wx => slice42 w.heap.size wx
  go_enter Tryz.func60, Tryz.ntmps60
  go_wp2
  rw [pre8_zero x]
  go_loopw [5] (fun i wr => ∃ k : Nat, k ≤ 8 ∧ i = .int .i64 (k : Int) ∧ wr = w.alloc (.cells (pre8 x k) 122)) (fun i _ => 8 - (intOf i).toNat)
  case atStart => exact ⟨0, by omega, rfl, rfl⟩
  case round =>
    obtain ⟨k, hk, rfl, rfl⟩ := hrel
    by_cases hlt : k < 8
    · obtain ⟨v, hv⟩ := pre8_at x k k hlt hk
      go_wp2
      go_roundw
      case rel =>
        refine ⟨k + 1, by omega, by go_num, ?_⟩
        rw [← pre8_set x k hlt]
        rfl
      case measure => simp [intOf]; omega
    · obtain rfl : k = 8 := by omega
      go_wp2
      go_ret
      exact ⟨rfl, rfl⟩
theorem p64Obj_cell (x : Int) (w : World) (i : Nat) (h : i < 8) : (w.alloc (p64Obj x)).cell? ⟨w.heap.size, i, none⟩ = some (.int .u8 ((w8 x).getD i 0)) := by
  rw [p64Obj, World.cell?_alloc_at (hn := rfl)]
  exact pre8_get _ _ h
theorem BV.w8 (x : Int) (w : World) : BV (w.alloc (p64Obj x)) (some ⟨w.heap.size, 0, none⟩) 8 (Go.Proofs.YtbfihajgjbpmaaaGreat.w8 x) :=
  ⟨rfl, w8_bytes x, .inr ⟨_, _, rfl, fun i hi => by rw [Nat.zero_add]; exact p64Obj_cell x w i hi⟩⟩
/-- the number of the first k bytes -/
def acc8 (zs : List Int) : Nat → Int
  | 0 => 0
  | k + 1 => acc8 zs k + zs.getD k 0 * 2 ^ (8 * k)
theorem acc8_bd (zs : List Int) (hz : ∀ z ∈ zs, 0 ≤ z ∧ z ≤ 255) : ∀ k, k ≤ zs.length → 0 ≤ acc8 zs k ∧ acc8 zs k < 2 ^ (8 * k)
  | 0, _ => by simp [acc8]
  | k + 1, h => by
    obtain ⟨h1, h2⟩ := acc8_bd zs hz k (by omega)
    have hb : 0 ≤ zs.getD k 0 ∧ zs.getD k 0 ≤ 255 := by apply hz; simp [show k < zs.length from by omega]
    have hp : (0 : Int) < 2 ^ (8 * k) := Int.pow_pos (by omega)
    have e : (2 : Int) ^ (8 * (k + 1)) = 2 ^ (8 * k) * 256 := by rw [show 8 * (k + 1) = 8 * k + 8 from by omega, Int.pow_add]; rfl
    have m1 : 0 ≤ zs.getD k 0 * 2 ^ (8 * k) := Int.mul_nonneg hb.1 (by omega)
    have m2 := mul_le_of hp hb.2
    rw [e, acc8]; omega
theorem or_add8 (x c : Int) (k : Nat) (hk : k < 8) (h0 : 0 ≤ x) (h1 : x < 2 ^ (8 * k)) (hc0 : 0 ≤ c) (hc1 : c ≤ 255) :
    bits BinOp.or IntKind.u64 x (IntKind.u64.wrap (c * 2 ^ (8 * k))) = x + c * 2 ^ (8 * k) := by
  have e3 : (2 : Int) ^ (8 * k) = ((2 ^ (8 * k) : Nat) : Int) := by simp
  have hp : 0 < 2 ^ (8 * k) := Nat.pow_pos (by omega)
  have hq : 2 ^ (8 * k) ≤ 2 ^ 56 := Nat.pow_le_pow_right (by omega) (by omega)
  have hm : 0 ≤ c * (2 : Int) ^ (8 * k) := Int.mul_nonneg hc0 (by omega)
  have hl := mul_le_of (a := c) (b := 255) (p := (2 : Int) ^ (8 * k)) (by omega) hc1
  rw [IntKind.wrap_u64, Int.emod_eq_of_lt hm (by omega)]
  rw [u64_or _ _ h0 (by omega) hm (by omega), Nat.or_comm, nat_join (8 * k) _ _ ?_ (by omega)]
  · omega
  · obtain ⟨m, rfl⟩ : ∃ m : Nat, c = m := ⟨c.toNat, by omega⟩
    rw [e3, ← Int.natCast_mul, Int.toNat_natCast, Nat.mul_mod_left]
theorem acc8_w8 (x : Int) (h0 : 0 ≤ x) : ∀ k, k ≤ 8 → acc8 (w8 x) k = x % 2 ^ (8 * k)
  | 0, _ => by simp [acc8, Int.emod_one]
  | k + 1, h => by
    have e : (2 : Int) ^ (8 * (k + 1)) = 2 ^ (8 * k) * 256 := by rw [show 8 * (k + 1) = 8 * k + 8 from by omega, Int.pow_add]; rfl
    have g : (w8 x).getD k 0 = x / 2 ^ (8 * k) % 256 := by simp [w8, d8, show k < 8 from by omega]
    rw [acc8, acc8_w8 x h0 k (by omega), g, e]
    obtain ⟨n, rfl⟩ : ∃ n : Nat, x = n := ⟨x.toNat, by omega⟩
    have e3 : (2 : Int) ^ (8 * k) = ((2 ^ (8 * k) : Nat) : Int) := by simp
    rw [e3]
    have := Nat.mod_mul (a := 2 ^ (8 * k)) (b := 256) (x := n)
    rw [Nat.mul_comm (2 ^ (8 * k)) (n / 2 ^ (8 * k) % 256)] at this
    clear e e3 g
    generalize 2 ^ (8 * k) = p at this ⊢
    have t := congrArg (fun m : Nat => (m : Int)) this
    simp only [Int.natCast_add, Int.natCast_mul, Int.natCast_emod, Int.natCast_ediv] at t
    exact t.symm

theorem index42 (cs : Array Value) (k : Nat) (hk : k < 8) (v : Value) (hv : cs[k]? = some v) (h1 : v.oneCell' = true) (w : World) :
    (Instr.index 122 (.agg cs) (.int .i64 (k : Int))).run Tryz.prog w = .ok v w := by
  have h : (0 : Int) ≤ k ∧ (k : Int) < (8 : Nat) := by omega
  have hu : Tryz.prog.underlying 122 = some (.array 8 5) := by kernel_rfl
  simp [Instr.index, run_underlying hu, asIntOf, go_sem]
  rw [if_pos hk, hv]
  rfl
theorem info42 : (Tryz.prog.info? 122).map (·.size) = some 8 := by kernel_rfl
theorem info5s : (Tryz.prog.info? 5).map (·.size) = some 1 := by kernel_rfl

theorem ret_ub {a b : Int} {c d : Bool} (h1 : a = b) (h2 : c = d) : Ending.returned (.tuple #[.int .u64 a, .bool c]) = .returned (.tuple #[.int .u64 b, .bool d]) := by rw [h1, h2]
def zero8 : List Value := List.replicate 8 (Value.int .u8 0)

/-- what copy brings into an array of eight bytes -/
theorem copy_src {w : World} {a : Option Addr} {n : Nat} {zs : List Int} (hv : BV w a n zs) : ∃ src : List Value, src = (zs.take 8).map (Value.int .u8) ∧ src.length = n.min 8 ∧
    (0 < src.length → some (⟨w.heap.size, 0, none⟩ : Addr) = some ⟨w.heap.size, 0, none⟩ ∧ ∃ ad, a = some ad ∧ ∀ j v, src[j]? = some v → (w.alloc (.cells zero8.toArray 122)).cell? (ad.add j) = some v) ∧
    0 + src.length ≤ zero8.length ∧ ∀ v ∈ src, v.oneCell' = true := by
  obtain ⟨h1, h2, h3⟩ := hv
  refine ⟨_, rfl, by show _ = min n 8; simp; omega, fun hp => ⟨rfl, ?_⟩, by simp [zero8]; omega, ?_⟩
  · rcases h3 with h3 | ⟨b, off, rfl, hcell⟩
    · have : zs = [] := List.eq_nil_of_length_eq_zero (by omega)
      subst this; simp at hp
    · refine ⟨_, rfl, fun j v hj => ?_⟩
      have hjl : j < (zs.take 8).length := by
        rcases Nat.lt_or_ge j (zs.take 8).length with h | h
        · exact h
        · rw [List.getElem?_eq_none (by simpa using h)] at hj; cases hj
      have hj8 : j < 8 := by simp at hjl; omega
      have hjn : j < zs.length := by simp at hjl; omega
      have ha : (⟨b, off, none⟩ : Addr).add j = ⟨b, off + j, none⟩ := by unfold Addr.add; split <;> simp_all
      rw [ha, cell_alloc w _ (hcell j (by omega))]
      rw [List.getElem?_map, List.getElem?_take_of_lt hj8, List.getElem?_eq_getElem hjn] at hj
      simpa [hjn] using hj
  · intro v hv
    obtain ⟨z, _, rfl⟩ := List.mem_map.1 hv
    rfl
set_option maxHeartbeats 400000 in
theorem get64_few (a : Option Addr) (n cap : Nat) (zs : List Int) (w : World) (hv : BV w a n zs) (hn : n < 8) :
    Calls Tryz.prog 70 #[.slice a n cap] w fun e w' => e = .returned (.tuple #[.int .u64 0, .bool false]) ∧ Below w.heap.size w w' := by
  have hsl := fun wx => slice42 w.heap.size wx
  obtain ⟨src, -, hs1, hs2, hs3, hs4⟩ := copy_src hv
  have hlt : (src.length : Int) < 8 := by rw [hs1, show n.min 8 = min n 8 from rfl]; omega
  have H1 : Hid (src.length = n.min 8) := hs1
  have H2 : Hid _ := hs2
  clear hs1 hs2 hv
  have hz8 : #[Value.int IntKind.u8 0, Value.int IntKind.u8 0, Value.int IntKind.u8 0, Value.int IntKind.u8 0,
      Value.int IntKind.u8 0, Value.int IntKind.u8 0, Value.int IntKind.u8 0, Value.int IntKind.u8 0] = zero8.toArray := rfl
  go_enter Tryz.func70, Tryz.ntmps70
  go_wp2_with (refine wpList_copy_splice rfl (.tmp 8) (.tmp 9) 26 26 rfl 5 Tryz.underlying26 info5s (some ⟨w.heap.size, 0, none⟩) a 8 8 n cap rfl rfl w.heap.size 0 zero8 122 (heap_alloc_new _ _) src H1.out H2.out hs3 hs4 w.heap.size w ((Below.refl _ _).alloc (Nat.le_refl _) _) (Nat.le_refl _) ?_; intro w1 hrow hbel)
  go_ret2
  exact ⟨rfl, hbel⟩

set_option maxHeartbeats 400000 in
theorem get64_many (a : Option Addr) (n cap : Nat) (zs : List Int) (w : World) (hv : BV w a n zs) (hn : 8 ≤ n) :
    Calls Tryz.prog 70 #[.slice a n cap] w fun e w' => e = .returned (.tuple #[.int .u64 (acc8 zs 8), .bool true]) ∧ Below w.heap.size w w' := by
  have hsl := fun wx => slice42 w.heap.size wx
  obtain ⟨src, hsrc, hs1, hs2, hs3, hs4⟩ := copy_src hv
  have hzl : zs.length = n := hv.1
  have hz := hv.2.1
  have hlt : ¬ (src.length : Int) < 8 := by rw [hs1, show n.min 8 = min n 8 from rfl]; omega
  have hl8 : src.length = 8 := by rw [hs1, show n.min 8 = min n 8 from rfl]; omega
  have hat : ∀ k, k < 8 → src.toArray[k]? = some (.int .u8 (zs.getD k 0)) := fun k hk => by
    rw [hsrc]; simp [hk, show k < zs.length from by omega]
  have hspl : splice zero8 0 src = src := by
    unfold splice; simp [zero8, hl8]
  have H1 : Hid (src.length = n.min 8) := hs1
  have H2 : Hid _ := hs2
  have H3 : Hid (src.length = 8) := hl8
  have H4 : Hid (splice zero8 0 src = src) := hspl
  have H5 : Hid _ := hat
  clear hs1 hs2 hv hl8 hspl hsrc hat
  have hz8 : #[Value.int IntKind.u8 0, Value.int IntKind.u8 0, Value.int IntKind.u8 0, Value.int IntKind.u8 0,
      Value.int IntKind.u8 0, Value.int IntKind.u8 0, Value.int IntKind.u8 0, Value.int IntKind.u8 0] = zero8.toArray := rfl
  go_enter Tryz.func70, Tryz.ntmps70
  go_wp2_with (first | (refine wpList_copy_splice rfl (.tmp 8) (.tmp 9) 26 26 rfl 5 Tryz.underlying26 info5s (some ⟨w.heap.size, 0, none⟩) a 8 8 n cap rfl rfl w.heap.size 0 zero8 122 (heap_alloc_new _ _) src H1.out H2.out hs3 hs4 w.heap.size w ((Below.refl _ _).alloc (Nat.le_refl _) _) (Nat.le_refl _) ?_; intro w1 hrow hbel; rw [H4.out] at hrow) | (refine wpList_load_row rfl 122 (.tmp 4) rfl w.heap.size rfl 122 src.toArray (0, 0) _ hrow.out u42 rfl (by rw [info42]; simp [H3.out]) ?_))
  go_loop [5, 13] (fun x i => ∃ k : Nat, k ≤ 8 ∧ i = .int .i64 (k : Int) ∧ x = .int .u64 (acc8 zs k)) (fun _ i => 8 - (intOf i).toNat)
  case atStart => exact ⟨0, by omega, rfl, rfl⟩
  case round =>
    obtain ⟨k, hk, rfl, rfl⟩ := hrel
    by_cases hlt' : k < 8
    · have hix := fun wx => index42 src.toArray k hlt' _ (H5.out k hlt') rfl wx
      obtain ⟨c, hcd⟩ : ∃ c, c = zs.getD k 0 := ⟨_, rfl⟩
      rw [← hcd] at hix
      obtain ⟨hc0, hc1⟩ : 0 ≤ c ∧ c ≤ 255 := by apply hz; rw [hcd]; simp [show k < zs.length from by omega]
      obtain ⟨ha0, ha1⟩ := acc8_bd zs hz k (by omega)
      have HA : Hid (acc8 zs (k + 1) = acc8 zs k + c * 2 ^ (8 * k)) := by show _ = _; rw [hcd]; rfl
      have HO : Hid (_ = _) := or_add8 (acc8 zs k) c k hlt' ha0 ha1 hc0 hc1
      clear hcd hz
      go_wp2
      go_round
      case rel => exact ⟨k + 1, by omega, by go_num, by rw [HA.out]; exact congrArg _ HO.out⟩
      case measure => simp [intOf]; omega
    · obtain rfl : k = 8 := by omega
      go_wp2
      go_ret2
      exact ⟨rfl, hbel⟩

theorem get64_any (a : Option Addr) (n cap : Nat) (zs : List Int) (w : World) (hv : BV w a n zs) :
    Calls Tryz.prog 70 #[.slice a n cap] w fun e w' => e = .returned (.tuple #[.int .u64 (if n < 8 then 0 else acc8 zs 8), .bool (!decide (n < 8))]) ∧ Below w.heap.size w w' := by
  by_cases h : n < 8
  · simp only [h, if_true, decide_true, Bool.not_true]
    exact get64_few a n cap zs w hv h
  · simp only [h, if_false, decide_false, Bool.not_false]
    exact get64_many a n cap zs w hv (by omega)
end Go.Proofs.YtbfihajgjbpmaaaGreat
/- 'append(own, bytes...)' for whatever slice of bytes. -/
namespace Go.Proofs.YtbfihajgjbpmaaaGreat
open Go.ChangeShapes Go.WideShapes Go.ChangeAt Go.RowKit
set_option linter.unusedVariables false
set_option maxRecDepth 4000

theorem append_bv {w : World} {ops : Array Oper} {rest : List Oper} {o : Oper} {act : Act} {Q : Exit → Act → World → Prop} (hgd : o.guard = none) (s x : Operand)
    (ho : o.op = .call { callee := .builtin .append, args := #[s, x], argTypes := #[26, 26] })
    (base : Nat) (v : Value) (bs : List Int) (hs : act.eval s = v) (hown : OB w base v bs) (ad : Option Addr) (m c : Nat) (zs : List Int) (hx : act.eval x = .slice ad m c) (hb : BV w ad m zs) (hnil : ad = none → c = 0)
    (hlen : bs.length + zs.length ≤ 140737488355328) (hbase : base ≤ w.heap.size)
    (h : ∀ v' w', OB w' base v' (bs ++ zs) → Below base w w' → wpList Tryz.prog ops Q rest (act.put o.dst v') w') : wpList Tryz.prog ops Q (o :: rest) act w := by
  obtain ⟨i0, hi, hz0, hz1, hz2⟩ := info_parts info5
  obtain ⟨h1, h2, h3⟩ := hb
  have hlt := hown.lt
  cases ad with
  | none =>
    have hm : m = 0 := by
      rcases h3 with h3 | ⟨b, off, hb, _⟩
      · exact h3
      · cases hb
    subst hm
    have hz : zs = [] := List.eq_nil_of_length_eq_zero h1
    subst hz
    obtain rfl := hnil rfl
    refine wpList_append_own_none hgd s x 26 ho base 5 i0 1 Tryz.underlying26 hi v _ _ hs hown hx ?_
    exact h v w (by rw [List.append_nil]; exact hown) (Below.refl _ _)
  | some ad =>
    refine wpList_append_own _ hgd s x 26 ho base 5 i0 (.int .u8 0) 1 1 Tryz.underlying26 hi hz0 hz1 hz2 rfl (by decide) v _ _ hs hown ad m c (zs.map (Value.int .u8)) hx (by simp; omega) ?_ (oneCells _) (by unfold maxLen; omega) (by omega) hbase ?_
    · intro j u hj
      rcases h3 with h3 | ⟨b, off, hb, hcell⟩
      · have hz : zs = [] := List.eq_nil_of_length_eq_zero (by omega)
        subst hz; simp at hj
      · cases hb
        have hjl : j < zs.length := by
          rcases Nat.lt_or_ge j zs.length with h | h
          · exact h
          · simp [List.getElem?_eq_none h] at hj
        have ha : (⟨b, off, none⟩ : Addr).add j = ⟨b, off + j, none⟩ := by unfold Addr.add; split <;> simp_all
        rw [ha, hcell j (by omega)]
        simp [hjl] at hj ⊢
        exact hj
    · intro v' w' ho' hg _
      refine h v' w' ?_ ((Below.refl _ _).grown hg hbase hlt)
      unfold OB
      rw [List.length_append, List.map_append, h1]
      exact ho'

theorem acc8_app (x : Int) (zs : List Int) : ∀ k, k ≤ 8 → acc8 (w8 x ++ zs) k = acc8 (w8 x) k
  | 0, _ => rfl
  | k + 1, h => by
    rw [acc8, acc8, acc8_app x zs k (by omega)]
    have : (w8 x ++ zs).getD k 0 = (w8 x).getD k 0 := by simp [List.getD, List.getElem?_append_left (show k < (w8 x).length from by rw [w8_len]; omega)]
    rw [this]
theorem acc8_put (x : Int) (zs : List Int) (h0 : 0 ≤ x) (h1 : x ≤ 18446744073709551615) : acc8 (w8 x ++ zs) 8 = x := by
  rw [acc8_app x zs 8 (by omega), acc8_w8 x h0 8 (by omega)]
  omega
end Go.Proofs.YtbfihajgjbpmaaaGreat
/- 'append(own, bytes...)' where what is owned lies in an array of whatever type. -/
namespace Go.Proofs.YtbfihajgjbpmaaaGreat
open Go.ChangeShapes Go.WideShapes Go.ChangeAt Go.RowKit
set_option linter.unusedVariables false
set_option maxRecDepth 4000

/-- v holds the bytes bs, in memory of the call's own, from block number base on, in a block of whatever type -/
def OW (w : World) (base : Nat) (v : Value) (bs : List Int) : Prop :=
  (v = .slice none 0 0 ∧ bs = []) ∨ ∃ g cap cur T, v = .slice (some ⟨g, 0, none⟩) bs.length cap ∧ base ≤ g ∧ w.heap[g]? = some (.cells cur T (0, 0)) ∧ bs.length ≤ cap ∧ cap ≤ maxLen ∧ cur.size = cap ∧ cur.toList.take bs.length = bs.map (Value.int .u8)

theorem OB.ow {w : World} {base : Nat} {v : Value} {bs : List Int} (h : OB w base v bs) : OW w base v bs := by
  rcases h.2 with ⟨rfl, h0⟩ | ⟨g, cap, cur, rfl, hg, hh, hl, hm, hs, ht⟩
  · exact .inl ⟨rfl, List.eq_nil_of_length_eq_zero h0⟩
  · exact .inr ⟨g, cap, cur, 5, rfl, hg, hh, hl, hm, by omega, by rw [Nat.mul_one] at ht; exact ht⟩
theorem OW.empty (w : World) (base : Nat) (hb : base ≤ w.heap.size) (g : Nat) (hg : g = w.heap.size) : OW (w.alloc (.cells #[] 5)) base (.slice (some ⟨g, 0, none⟩) 0 0) [] := (OB.empty w base hb g hg).ow
theorem heap_alloc_lt {w : World} {k : Nat} {x : Obj} (o : Obj) (h : w.heap[k]? = some x) : (w.alloc o).heap[k]? = some x := by
  have hk : k < w.heap.size := by
    rcases Nat.lt_or_ge k w.heap.size with h' | h'
    · exact h'
    · rw [Array.getElem?_eq_none h'] at h; cases h
  show (w.heap.push o)[k]? = _
  rw [Array.getElem?_push, if_neg (by omega)]; exact h
theorem OW.alloc {w : World} {base : Nat} {v : Value} {bs : List Int} (h : OW w base v bs) (o : Obj) : OW (w.alloc o) base v bs := by
  rcases h with h | ⟨g, cap, cur, T, h1, h2, h3, h4⟩
  · exact .inl h
  · exact .inr ⟨g, cap, cur, T, h1, h2, heap_alloc_lt o h3, h4⟩
theorem OW.drew {w : World} {base : Nat} {v : Value} {bs : List Int} (h : OW w base v bs) : OW w.drew base v bs := h
theorem OW.mono {w : World} {base base' : Nat} {v : Value} {bs : List Int} (h : OW w base v bs) (hb : base' ≤ base) : OW w base' v bs := by
  rcases h with h | ⟨g, cap, cur, T, h1, h2, h3⟩
  · exact .inl h
  · exact .inr ⟨g, cap, cur, T, h1, by omega, h3⟩
/-- what is owned stays, whatever is done to younger blocks -/
theorem OW.below {w w' : World} {base : Nat} {v : Value} {bs : List Int} (h : OW w base v bs) (hb : Below w.heap.size w w') : OW w' base v bs := by
  rcases h with h | ⟨g, cap, cur, T, h1, h2, h3, h4⟩
  · exact .inl h
  · refine .inr ⟨g, cap, cur, T, h1, h2, ?_, h4⟩
    have hk : g < w.heap.size := by
      rcases Nat.lt_or_ge g w.heap.size with h' | h'
      · exact h'
      · rw [Array.getElem?_eq_none h'] at h3; cases h3
    rw [hb.block g hk]; exact h3
theorem OW.bvn {w : World} {base : Nat} {v : Value} {bs : List Int} (h : OW w base v bs) (hb : ∀ z ∈ bs, 0 ≤ z ∧ z ≤ 255) (n : Nat) (hn : bs.length = n) :
    ∃ a cap, v = .slice a n cap ∧ n ≤ cap ∧ cap ≤ maxLen ∧ BV w a n bs ∧ (∀ x, a = some x → base ≤ x.block) := by
  subst hn
  rcases h with ⟨rfl, rfl⟩ | ⟨g, cap, cur, T, rfl, hg, hh, hl, hm, hs, ht⟩
  · exact ⟨none, 0, rfl, Nat.le_refl _, Nat.zero_le _, ⟨rfl, hb, .inl rfl⟩, fun x hx => by cases hx⟩
  · refine ⟨_, cap, rfl, hl, hm, ⟨rfl, hb, .inr ⟨g, 0, rfl, fun i hi => ?_⟩⟩, fun x hx => by cases hx; exact hg⟩
    have e : cur[i]? = some (.int .u8 (bs.getD i 0)) := by
      have h1 : (cur.toList.take bs.length)[i]? = some (.int .u8 (bs.getD i 0)) := by rw [ht]; simp [hi]
      rw [List.getElem?_take_of_lt hi] at h1
      simpa using h1
    rw [Nat.zero_add]
    simp only [World.cell?, hh, e]; rfl

theorem src_bv {w : World} {ad : Option Addr} {m : Nat} {zs : List Int} (h : BV w ad m zs) (c : Nat) : Src Tryz.prog 1 26 (.slice ad m c) m (zs.map (Value.int .u8)) w := by
  obtain ⟨h1, h2, h3⟩ := h
  cases ad with
  | none =>
    have hm : m = 0 := by
      rcases h3 with h3 | ⟨b, off, hb, _⟩
      · exact h3
      · cases hb
    subst hm
    have hz : zs = [] := List.eq_nil_of_length_eq_zero h1
    subst hz
    exact Src.ofNil w Tryz.underlying26 c
  | some ad =>
    refine Src.ofSlice w Tryz.underlying26 ad m c _ (by simp; omega) ?_ (oneCells _)
    intro j u hj
    rcases h3 with h3 | ⟨b, off, hb, hcell⟩
    · have hz : zs = [] := List.eq_nil_of_length_eq_zero (by omega)
      subst hz; simp at hj
    · cases hb
      have hjl : j < zs.length := by
        rcases Nat.lt_or_ge j zs.length with h | h
        · exact h
        · simp [List.getElem?_eq_none h] at hj
      have ha : (⟨b, off, none⟩ : Addr).add j = ⟨b, off + j, none⟩ := by unfold Addr.add; split <;> simp_all
      rw [ha, hcell j (by omega)]
      simp [hjl] at hj ⊢
      exact hj

theorem zero_cells_size (n : Nat) : (Builtin.zeroCells (Value.int .u8 0).cells n).size = n := by rw [size_zeroCells]; exact Nat.mul_one _

theorem run_append_ow {w : World} (ty : TypeId) (base : Nat) (v : Value) (bs : List Int) (hown : OW w base v bs) (ad : Option Addr) (m c : Nat) (zs : List Int) (hb : BV w ad m zs)
    (hlen : bs.length + m ≤ 140737488355328) (hbase : base ≤ w.heap.size) :
    ∃ v' w', (Builtin.append_ #[26, 26] ty #[v, .slice ad m c]).run Tryz.prog w = .ok v' w' ∧ OW w' base v' (bs ++ zs) ∧ Below base w w' := by
  obtain ⟨i0, hi, hz0, hz1, hz2⟩ := info_parts info5
  have hs := src_bv hb c
  have hzl : zs.length = m := hb.1
  have hml : bs.length + m ≤ maxLen := by unfold maxLen; omega
  have lay : ∀ (old : Nat), old < bs.length + m → OW (w.drew.alloc (.cells (((bs.map (Value.int .u8)) ++ zs.map (Value.int .u8)).toArray ++ Builtin.zeroCells (Value.int .u8 0).cells (grownCap w (bs.length + m) old 5 - (bs.length + m))) 5)) base (.slice (some ⟨w.heap.size, 0, none⟩) (bs.length + m) (grownCap w (bs.length + m) old 5)) (bs ++ zs) := by
    intro old ho
    have hge := grownCap_ge w (bs.length + m) old 5
    have hcm := grownCap_le_maxLen w (bs.length + m) old 5 hml
    refine .inr ⟨w.heap.size, _, _, 5, by rw [List.length_append, hzl], hbase, heap_alloc_new w.drew _, by rw [List.length_append, hzl]; exact hge, hcm, ?_, ?_⟩
    · rw [Array.size_append, zero_cells_size]
      simp only [List.size_toArray, List.length_append, List.length_map]
      omega
    · rw [Array.toList_append, ← List.map_append]
      exact List.take_left' (by simp)
  rcases hown with ⟨rfl, rfl⟩ | ⟨g, cap, cur, T, rfl, hg, hh, hl, hm, hsz, ht⟩
  · by_cases h0 : m = 0
    · subst h0
      have hz : zs = [] := List.eq_nil_of_length_eq_zero hzl
      subst hz
      refine ⟨.slice none 0 0, w, ?_, .inl ⟨rfl, rfl⟩, Below.refl _ _⟩
      have hc := hs.cells
      rw [← hz1] at hc
      simp [Builtin.append_, run_underlying Tryz.underlying26, sizeOf, typeInfo, hi, hs.len, hc]
    · have hr := run_append_grow_src (P := Tryz.prog) w 26 26 ty 5 i0 (.int .u8 0) Tryz.underlying26 hi hz0 none 0 0 [] (run_firstCells_none _ _ _ _ _) _ m _ (by rw [hz1]; exact hs) (by omega) (by omega) (by rw [hz2]; exact growslice_fits (by omega) (by simpa using hlen))
      have hl0 := lay 0 (by simp; omega)
      simp only [List.length_nil, List.map_nil] at hl0
      exact ⟨_, _, hr, hl0, (Below.refl _ _).drew.alloc hbase _⟩
  · by_cases hroom : bs.length + m ≤ cap
    · have hst := run_storeCells_at (P := Tryz.prog) g (bs.length * i0.size) T (zs.map (Value.int .u8)) 0 cur w hh (by rw [hz1]; simp; omega) (oneCells _)
      have hc := hs.cells
      rw [← hz1] at hc
      refine ⟨.slice (some ⟨g, 0, none⟩) (bs.length + m) cap, w.setRow g (cur.toList.take (bs.length * i0.size + 0) ++ zs.map (Value.int .u8) ++ cur.toList.drop (bs.length * i0.size + 0 + (zs.map (Value.int .u8)).length)).toArray, ?_, .inr ⟨g, cap, _, T, by rw [List.length_append, hzl], hg, setRow_heap w g cur _ T _ hh, by rw [List.length_append, hzl]; exact hroom, hm, ?_, ?_⟩, ?_⟩
      · simp [Builtin.append_, run_underlying Tryz.underlying26, sizeOf, typeInfo, hi, hs.len, hroom, hc, Addr.add_lit, hst]
      · rw [hz1]
        simp only [List.size_toArray, List.length_append, List.length_take, List.length_drop, Array.length_toList, List.length_map]
        omega
      · rw [hz1]
        simp only [Nat.mul_one, Nat.add_zero]
        rw [ht, ← List.map_append]
        exact List.take_left' (by simp)
      · exact (Below.refl _ _).grown (row := some g) ⟨rfl, rfl, rfl, by simp, fun k _ hk => setRow_other w g k _ (fun e => hk (by rw [e]))⟩ hbase (fun k hk => by cases hk; exact hg)
    · have holds : (Builtin.firstCells i0.size bs.length (.slice (some ⟨g, 0, none⟩) bs.length cap)).run Tryz.prog w.drew = .ok (bs.map (Value.int .u8)).toArray w.drew := by
        refine run_firstCells_some w.drew i0.size bs.length ⟨g, 0, none⟩ bs.length cap _ (by rw [hz1]; simp) ?_
        intro j u hj
        have hjl : j < bs.length := by
          rcases Nat.lt_or_ge j bs.length with h | h
          · exact h
          · simp [List.getElem?_eq_none h] at hj
        have ha : (⟨g, 0, none⟩ : Addr).add j = ⟨g, j, none⟩ := by unfold Addr.add; split <;> simp_all
        have e : cur[j]? = some u := by
          have h1 : (cur.toList.take bs.length)[j]? = some u := by rw [ht]; exact hj
          rw [List.getElem?_take_of_lt hjl] at h1
          simpa using h1
        rw [ha]
        show w.cell? _ = _
        simp only [World.cell?, hh, e]; rfl
      have hr := run_append_grow_src (P := Tryz.prog) w 26 26 ty 5 i0 (.int .u8 0) Tryz.underlying26 hi hz0 (some ⟨g, 0, none⟩) bs.length cap _ holds _ m _ (by rw [hz1]; exact hs) (by omega) (by omega) (by rw [hz2]; exact growslice_fits (by omega) (by simpa using hlen))
      exact ⟨_, _, hr, lay cap (by omega), (Below.refl _ _).drew.alloc hbase _⟩

theorem append_ow {w : World} {ops : Array Oper} {rest : List Oper} {o : Oper} {act : Act} {Q : Exit → Act → World → Prop} (hgd : o.guard = none) (s x : Operand)
    (ho : o.op = .call { callee := .builtin .append, args := #[s, x], argTypes := #[26, 26] })
    (base : Nat) (v : Value) (bs : List Int) (hs : act.eval s = v) (hown : OW w base v bs) (ad : Option Addr) (m c : Nat) (zs : List Int) (hx : act.eval x = .slice ad m c) (hb : BV w ad m zs)
    (hlen : bs.length + m ≤ 140737488355328) (hbase : base ≤ w.heap.size)
    (h : ∀ v' w', OW w' base v' (bs ++ zs) → Below base w w' → wpList Tryz.prog ops Q rest (act.put o.dst v') w') : wpList Tryz.prog ops Q (o :: rest) act w := by
  obtain ⟨v', w', hr, h1, h2⟩ := run_append_ow o.type base v bs hown ad m c zs hb hlen hbase
  refine wpList_plain hgd fun K hK => ?_
  unfold Oper.wp execOp
  simp only [ho, resolve, invoke, builtin, Sem.run_bind, Sem.run_pure, Result.andThen_ok, List.map_toArray, List.map_cons, List.map_nil, hs, hx, hr]
  exact hK _ _ (h v' w' h1 h2)
theorem wp_append_ow {w : World} {o : Oper} {act : Act} {K : Act → World → Prop} {Q : Exit → Act → World → Prop} (d : Option Tmp) (hd : o.dst = d) (s x : Operand)
    (ho : o.op = .call { callee := .builtin .append, args := #[s, x], argTypes := #[26, 26] })
    (base : Nat) (v : Value) (bs : List Int) (hs : act.eval s = v) (hown : OW w base v bs) (ad : Option Addr) (m c : Nat) (zs : List Int) (hx : act.eval x = .slice ad m c) (hb : BV w ad m zs)
    (hlen : bs.length + m ≤ 140737488355328) (hbase : base ≤ w.heap.size)
    (h : ∀ v' w', OW w' base v' (bs ++ zs) → Below base w w' → K (act.put d v') w') : o.wp Tryz.prog act w K Q := by
  obtain ⟨v', w', hr, h1, h2⟩ := run_append_ow o.type base v bs hown ad m c zs hb hlen hbase
  subst hd
  unfold Oper.wp execOp
  simp only [ho, resolve, invoke, builtin, Sem.run_bind, Sem.run_pure, Result.andThen_ok, List.map_toArray, List.map_cons, List.map_nil, hs, hx, hr]
  exact h v' w' h1 h2
theorem want {b : Bool} {p q : Prop} (h : b = true) (hp : p) : if b = true then p else q := by rw [if_pos h]; exact hp
theorem BV.one1 (w : World) (c : Int) (h0 : 0 ≤ c) (h1 : c ≤ 255) : BV (w.alloc (.cells #[.int .u8 c] 5)) (some ⟨w.heap.size, 0, none⟩) 1 [c] := by
  refine ⟨rfl, by simp; omega, .inr ⟨_, _, rfl, fun i hi => ?_⟩⟩
  obtain rfl : i = 0 := by omega
  rw [World.cell?_alloc_at (hn := rfl)]; rfl
theorem sizeB (w : World) : (sizeOf (Tryz.prog.elem 26)).run Tryz.prog w = .ok 1 w := by kernel_rfl
theorem underB : Tryz.prog.underlying 26 = some (.slice (Tryz.prog.elem 26)) := by kernel_rfl
theorem addr_zero (a : Addr) : a.add 0 = a := by obtain ⟨b, o, s⟩ := a; unfold Addr.add; split <;> simp_all
/-- a beginning of a slice of bytes -/
theorem slice_hi (a : Option Addr) (len cap : Nat) (h : Int) (h0 : 0 ≤ h) (h1 : h ≤ cap) (w : World) : (Instr.slice 26 (.slice a len cap) none (some (.int .i64 h)) none).run Tryz.prog w = .ok (.slice a h.toNat cap) w := by
  rw [run_slice_h w 26 a len cap underB .i64 h h0 h1, sizeB]
  simp only [Result.andThen, sliced, Nat.zero_mul, Nat.sub_zero]
  have : (a.map fun x => x.add 0) = a := by cases a <;> simp [addr_zero]
  rw [this]
  split <;> rfl
end Go.Proofs.YtbfihajgjbpmaaaGreat
/- Small facts used everywhere: steps of memory, one behind the other; cells that stay; PutVar's bytes as bytes of the call's own; bytes.Equal. -/
namespace Go.Proofs.YtbfihajgjbpmaaaGreat
open Go.ChangeShapes Go.WideShapes Go.ChangeAt Go.RowKit
set_option linter.unusedVariables false
set_option maxRecDepth 4000

theorem Below.then {w w' w2 : World} (h : Below w.heap.size w w') (k : Below w'.heap.size w' w2) : Below w.heap.size w w2 := h.trans (k.mono h.size)
theorem after1 {w w' : World} {o : Obj} (h : Below (w.alloc o).heap.size (w.alloc o) w') : Below w.heap.size w w' := (Joins.below_alloc1 w o).trans (h.mono (by simp))
theorem after2 {w w' : World} {o o2 : Obj} (h : Below ((w.alloc o).alloc o2).heap.size ((w.alloc o).alloc o2) w') : Below w.heap.size w w' := after1 (after1 h)
theorem keepc {w w' : World} {b i : Nat} {v : Value} (h : w.cell? ⟨b, i, none⟩ = some v) (hb : Below w.heap.size w w') : w'.cell? ⟨b, i, none⟩ = some v := by rw [hb.cell (p := ⟨b, i, none⟩) (cell_lt h)]; exact h
theorem keepo {w : World} {b i : Nat} {v : Value} (h : w.cell? ⟨b, i, none⟩ = some v) : ∀ o, (w.alloc o).cell? ⟨b, i, none⟩ = some v := fun o => cell_alloc w o h
theorem OW.pv (x : Int) (w : World) (base : Nat) (hb : base ≤ w.heap.size) (h0 : x < 18446744073709551616) (g : Nat) (hg : g = w.heap.size) : OW (w.alloc (pvObj x)) base (.slice (some ⟨g, 0, none⟩) (Go.Proofs.YtbfihajgjbpmaaaGreat.pv x).length 10) (Go.Proofs.YtbfihajgjbpmaaaGreat.pv x) := by
  subst hg
  have h10 := pv_len10 h0
  refine .inr ⟨w.heap.size, 10, _, 129, rfl, hb, heap_alloc_new _ _, h10, by unfold maxLen; omega, ?_, ?_⟩
  · simp [pre10]; omega
  · simp [pre10]
theorem str_beq {a b : List Int} (ha : ∀ z ∈ a, 0 ≤ z ∧ z ≤ 255) (hb : ∀ z ∈ b, 0 ≤ z ∧ z ≤ 255) : ((strOfNums a).toList == (strOfNums b).toList) = decide (a = b) := by
  rw [Bool.eq_iff_iff, beq_iff_eq, decide_eq_true_iff]
  exact ⟨fun h => strOfNums_inj ha hb (toList_inj h), fun h => by rw [h]⟩
set_option maxHeartbeats 400000 in
theorem equal_any (a b : Option Addr) (n m ca cb : Nat) (A B : List Int) (w : World) (hA : BV w a n A) (hB : BV w b m B) :
    Calls Tryz.prog 40 #[.slice a n ca, .slice b m cb] w fun e w' => e = .returned (.bool (decide (A = B))) ∧ w' = w := by
  have h1 := conv_any hA ca
  have h2 := conv_any hB cb
  have h3 := str_beq hA.2.1 hB.2.1
  clear hA hB
  go_enter Tryz.func40, Tryz.ntmps40
  go_wp2
  go_ret
  exact ⟨rfl, rfl⟩
theorem OW.shape {w : World} {base : Nat} {v : Value} {bs : List Int} (h : OW w base v bs) : ∃ a n c, v = .slice a n c := by
  rcases h with ⟨rfl, _⟩ | ⟨g, cap, cur, T, rfl, _⟩
  · exact ⟨_, _, _, rfl⟩
  · exact ⟨_, _, _, rfl⟩
theorem u64_same {x : Int} (h0 : 0 ≤ x) (h1 : x ≤ 9223372036854775807) : IntKind.u64.wrap x = x := by rw [IntKind.wrap_u64]; omega
end Go.Proofs.YtbfihajgjbpmaaaGreat
/- Slices of elements of whatever type, of one cell or of several: what they hold, how they stand the growth of memory, and 'append(own, more...)'. -/
namespace Go.Proofs.YtbfihajgjbpmaaaGreat
open Go.ChangeShapes Go.WideShapes Go.ChangeAt Go.RowKit
set_option linter.unusedVariables false
set_option maxRecDepth 4000

/-- t is a slice's type, e its elements', of k cells and nb bytes; z: the zero of it -/
def El (t e : TypeId) (k nb : Nat) (z : Value) : Prop :=
  Tryz.prog.underlying t = some (.slice e) ∧ (Tryz.prog.info? e).map (fun i => (i.zero, i.size, i.bytes)) = some (some z, k, nb) ∧ z.cells.size = k ∧ 1 ≤ k
/-- the slice at a of n elements of k cells holds the cells cs -/
def SV (k : Nat) (w : World) (a : Option Addr) (n : Nat) (cs : List Value) : Prop :=
  cs.length = n * k ∧ (∀ u ∈ cs, u.oneCell' = true) ∧ (n = 0 ∨ ∃ b off, a = some ⟨b, off, none⟩ ∧ ∀ i u, cs[i]? = some u → w.cell? ⟨b, off + i, none⟩ = some u)
/-- v holds the cells cs of n elements of k cells, in memory of the call's own, from block number base on -/
def OS (k : Nat) (w : World) (base : Nat) (v : Value) (n : Nat) (cs : List Value) : Prop :=
  cs.length = n * k ∧ (∀ u ∈ cs, u.oneCell' = true) ∧ ((v = .slice none 0 0 ∧ n = 0) ∨
    ∃ g cap cur T, v = .slice (some ⟨g, 0, none⟩) n cap ∧ base ≤ g ∧ w.heap[g]? = some (.cells cur T (0, 0)) ∧ n ≤ cap ∧ cap ≤ maxLen ∧ cur.size = cap * k ∧ cur.toList.take (n * k) = cs)
theorem SV.mono {k : Nat} {w w' : World} {a : Option Addr} {n : Nat} {cs : List Value} (h : SV k w a n cs) (hc : ∀ b o v, w.cell? ⟨b, o, none⟩ = some v → w'.cell? ⟨b, o, none⟩ = some v) : SV k w' a n cs := by
  obtain ⟨h1, h2, h3⟩ := h
  refine ⟨h1, h2, ?_⟩
  rcases h3 with h3 | ⟨b, off, rfl, hcell⟩
  · exact .inl h3
  · exact .inr ⟨b, off, rfl, fun i u hi => hc _ _ _ (hcell i u hi)⟩
theorem SV.alloc {k : Nat} {w : World} {a : Option Addr} {n : Nat} {cs : List Value} (h : SV k w a n cs) (o : Obj) : SV k (w.alloc o) a n cs := h.mono fun _ _ _ hc => cell_alloc w o hc
theorem SV.drew {k : Nat} {w : World} {a : Option Addr} {n : Nat} {cs : List Value} (h : SV k w a n cs) : SV k w.drew a n cs := h
theorem SV.below {k : Nat} {w w' : World} {a : Option Addr} {n : Nat} {cs : List Value} (h : SV k w a n cs) (hb : Below w.heap.size w w') : SV k w' a n cs :=
  h.mono fun b o v hc => by rw [hb.cell (p := ⟨b, o, none⟩) (cell_lt hc)]; exact hc
theorem SV.zero {k : Nat} (w : World) (a : Option Addr) : SV k w a 0 [] := ⟨by simp, by simp, .inl rfl⟩
/-- its first elements -/
theorem SV.take {k : Nat} {w : World} {a : Option Addr} {n : Nat} {cs : List Value} (h : SV k w a n cs) (m : Nat) (hm : m ≤ n) : SV k w a m (cs.take (m * k)) := by
  obtain ⟨h1, h2, h3⟩ := h
  have hmk : m * k ≤ n * k := Nat.mul_le_mul_right k hm
  refine ⟨by rw [List.length_take]; omega, fun u hu => h2 u (List.mem_of_mem_take hu), ?_⟩
  rcases h3 with h3 | ⟨b, off, rfl, hcell⟩
  · exact .inl (by omega)
  · refine .inr ⟨b, off, rfl, fun i u hi => hcell i u ?_⟩
    rw [List.getElem?_take] at hi
    split at hi
    · exact hi
    · cases hi
/-- its elements from some one on -/
theorem SV.drop {k : Nat} {w : World} {b off n : Nat} {cs : List Value} (h : SV k w (some ⟨b, off, none⟩) n cs) (m : Nat) (hm : m ≤ n) : SV k w (some ⟨b, off + m * k, none⟩) (n - m) (cs.drop (m * k)) := by
  obtain ⟨h1, h2, h3⟩ := h
  refine ⟨by rw [List.length_drop, h1, Nat.sub_mul], fun u hu => h2 u (List.mem_of_mem_drop hu), ?_⟩
  rcases h3 with h3 | ⟨b', off', hb, hcell⟩
  · exact .inl (by omega)
  · cases hb
    refine .inr ⟨b, off + m * k, rfl, fun i u hi => ?_⟩
    rw [List.getElem?_drop] at hi
    have := hcell (m * k + i) u hi
    rwa [← Nat.add_assoc] at this
theorem OS.nil {k : Nat} (w : World) (base : Nat) : OS k w base (.slice none 0 0) 0 [] := ⟨by simp, by simp, .inl ⟨rfl, rfl⟩⟩
theorem OS.lit {k : Nat} (w : World) (base : Nat) (hb : base ≤ w.heap.size) (cs : List Value) (n : Nat) (T : TypeId) (h1 : cs.length = n * k) (h2 : ∀ u ∈ cs, u.oneCell' = true) (hn : n ≤ maxLen) (g : Nat) (hg : g = w.heap.size) :
    OS k (w.alloc (.cells cs.toArray T)) base (.slice (some ⟨g, 0, none⟩) n n) n cs := by
  subst hg
  refine ⟨h1, h2, .inr ⟨w.heap.size, n, cs.toArray, T, rfl, hb, heap_alloc_new w _, Nat.le_refl _, hn, by simpa using h1, ?_⟩⟩
  simp only []
  rw [List.take_of_length_le (by omega)]
theorem OS.alloc {k : Nat} {w : World} {base : Nat} {v : Value} {n : Nat} {cs : List Value} (h : OS k w base v n cs) (o : Obj) : OS k (w.alloc o) base v n cs := by
  obtain ⟨h1, h2, h3⟩ := h
  refine ⟨h1, h2, ?_⟩
  rcases h3 with h3 | ⟨g, cap, cur, T, hv, hg, hh, hr⟩
  · exact .inl h3
  · exact .inr ⟨g, cap, cur, T, hv, hg, heap_alloc_lt o hh, hr⟩
theorem OS.drew {k : Nat} {w : World} {base : Nat} {v : Value} {n : Nat} {cs : List Value} (h : OS k w base v n cs) : OS k w.drew base v n cs := h
theorem OS.lower {k : Nat} {w : World} {base base' : Nat} {v : Value} {n : Nat} {cs : List Value} (h : OS k w base v n cs) (hb : base' ≤ base) : OS k w base' v n cs := by
  obtain ⟨h1, h2, h3⟩ := h
  refine ⟨h1, h2, ?_⟩
  rcases h3 with h3 | ⟨g, cap, cur, T, hv, hg, hr⟩
  · exact .inl h3
  · exact .inr ⟨g, cap, cur, T, hv, Nat.le_trans hb hg, hr⟩
theorem heap_lt {w : World} {g : Nat} {x : Obj} (h : w.heap[g]? = some x) : g < w.heap.size := by
  rcases Nat.lt_or_ge g w.heap.size with h' | h'
  · exact h'
  · rw [Array.getElem?_eq_none h'] at h; cases h
theorem OS.below {k : Nat} {w w' : World} {base : Nat} {v : Value} {n : Nat} {cs : List Value} (h : OS k w base v n cs) (hb : Below w.heap.size w w') : OS k w' base v n cs := by
  obtain ⟨h1, h2, h3⟩ := h
  refine ⟨h1, h2, ?_⟩
  rcases h3 with h3 | ⟨g, cap, cur, T, hv, hg, hh, hr⟩
  · exact .inl h3
  · exact .inr ⟨g, cap, cur, T, hv, hg, by rw [hb.block g (heap_lt hh)]; exact hh, hr⟩
/-- as a slice -/
theorem OS.sv {k : Nat} {w : World} {base : Nat} {v : Value} {n : Nat} {cs : List Value} (h : OS k w base v n cs) :
    ∃ a cap, v = .slice a n cap ∧ n ≤ cap ∧ cap ≤ maxLen ∧ SV k w a n cs ∧ (∀ x, a = some x → base ≤ x.block) ∧ (a = none → n = 0) := by
  obtain ⟨h1, h2, h3⟩ := h
  rcases h3 with ⟨rfl, rfl⟩ | ⟨g, cap, cur, T, rfl, hg, hh, hl, hm, hsz, ht⟩
  · exact ⟨none, 0, rfl, Nat.le_refl _, Nat.zero_le _, ⟨h1, h2, .inl rfl⟩, (fun x hx => by cases hx), fun _ => rfl⟩
  · refine ⟨_, cap, rfl, hl, hm, ⟨h1, h2, .inr ⟨g, 0, rfl, fun i u hi => ?_⟩⟩, (fun x hx => by cases hx; exact hg), (fun h => by cases h)⟩
    have e : cur[i]? = some u := by
      rw [← ht, List.getElem?_take] at hi
      split at hi
      · simpa using hi
      · cases hi
    rw [Nat.zero_add]
    simp only [World.cell?, hh, e]; rfl
theorem src_sv {t e : TypeId} {k nb : Nat} {z : Value} (hel : El t e k nb z) {w : World} {ad : Option Addr} {m : Nat} {zs : List Value} (h : SV k w ad m zs) (c : Nat) : Src Tryz.prog k t (.slice ad m c) m zs w := by
  obtain ⟨h1, h2, h3⟩ := h
  cases ad with
  | none =>
    have hm : m = 0 := by
      rcases h3 with h3 | ⟨b, off, hb, _⟩
      · exact h3
      · cases hb
    subst hm
    have hz : zs = [] := List.eq_nil_of_length_eq_zero (by omega)
    subst hz
    exact Src.ofNil w hel.1 c
  | some ad =>
    refine Src.ofSlice w hel.1 ad m c _ h1 ?_ h2
    intro j u hj
    rcases h3 with h3 | ⟨b, off, hb, hcell⟩
    · have hz : zs = [] := List.eq_nil_of_length_eq_zero (by rw [h1, h3]; simp)
      subst hz; simp at hj
    · cases hb
      have ha : (⟨b, off, none⟩ : Addr).add j = ⟨b, off + j, none⟩ := by unfold Addr.add; split <;> simp_all
      rw [ha, hcell j u hj]
theorem run_append_os {t e : TypeId} {k nb : Nat} {z : Value} (hel : El t e k nb z) {w : World} (ty : TypeId) (base : Nat) (v : Value) (n : Nat) (cs : List Value) (hown : OS k w base v n cs) (ad : Option Addr) (m c : Nat) (zs : List Value) (hb : SV k w ad m zs)
    (hlen : (n + m) * nb ≤ 140737488355328) (hnm : n + m ≤ 140737488355328) (hbase : base ≤ w.heap.size) :
    ∃ v' w', (Builtin.append_ #[t, t] ty #[v, .slice ad m c]).run Tryz.prog w = .ok v' w' ∧ OS k w' base v' (n + m) (cs ++ zs) ∧ Below base w w' := by
  have hs := src_sv hel hb c
  obtain ⟨ht, hinfo, hzs, hk1⟩ := hel
  obtain ⟨i0, hi, hz0, hz1, hz2⟩ := info_parts hinfo
  obtain ⟨o1, o2, o3⟩ := hown
  have hzl : zs.length = m * k := hb.1
  have hz2' : ∀ u ∈ cs ++ zs, u.oneCell' = true := fun u hu => (List.mem_append.1 hu).elim (o2 u) (hb.2.1 u)
  have hl' : (cs ++ zs).length = (n + m) * k := by rw [List.length_append, o1, hzl, Nat.add_mul]
  have hml : n + m ≤ maxLen := by unfold maxLen; omega
  have lay : ∀ (old : Nat), OS k (w.drew.alloc (.cells ((cs ++ zs).toArray ++ Builtin.zeroCells z.cells (grownCap w (n + m) old e - (n + m))) e)) base (.slice (some ⟨w.heap.size, 0, none⟩) (n + m) (grownCap w (n + m) old e)) (n + m) (cs ++ zs) := by
    intro old
    have hge := grownCap_ge w (n + m) old e
    have hcm := grownCap_le_maxLen w (n + m) old e hml
    refine ⟨hl', hz2', .inr ⟨w.heap.size, _, _, e, rfl, hbase, heap_alloc_new w.drew _, hge, hcm, ?_, ?_⟩⟩
    · rw [Array.size_append, size_zeroCells, hzs]
      simp only [List.size_toArray, hl']
      rw [← Nat.add_mul]; exact congrArg (fun x => x * k) (by omega)
    · rw [Array.toList_append]
      exact List.take_left' hl'
  rcases o3 with ⟨rfl, rfl⟩ | ⟨g, cap, cur, T, rfl, hg, hh, hl, hm, hsz, htk⟩
  · have hc0 : cs = [] := List.eq_nil_of_length_eq_zero (by omega)
    subst hc0
    by_cases h0 : m = 0
    · subst h0
      have hz : zs = [] := List.eq_nil_of_length_eq_zero (by omega)
      subst hz
      refine ⟨.slice none 0 0, w, ?_, ⟨by simp, by simp, .inl ⟨rfl, rfl⟩⟩, Below.refl _ _⟩
      have hc := hs.cells
      rw [← hz1] at hc
      simp [Builtin.append_, run_underlying ht, sizeOf, typeInfo, hi, hs.len, hc]
    · have hr := run_append_grow_src (P := Tryz.prog) w t t ty e i0 z ht hi hz0 none 0 0 [] (run_firstCells_none _ _ _ _ _) _ m _ (by rw [hz1]; exact hs) (by omega) (by omega) (by rw [hz2]; exact growslice_fits (by omega) (by simpa using hlen))
      exact ⟨_, _, hr, lay 0, (Below.refl _ _).drew.alloc hbase _⟩
  · by_cases hroom : n + m ≤ cap
    · have hfit : n * k + zs.length ≤ cur.size := by rw [hsz, hzl, ← Nat.add_mul]; exact Nat.mul_le_mul_right k hroom
      have hst := run_storeCells_at (P := Tryz.prog) g (n * i0.size) T zs 0 cur w hh (by rw [hz1]; simpa using hfit) hb.2.1
      have hc := hs.cells
      rw [← hz1] at hc
      refine ⟨.slice (some ⟨g, 0, none⟩) (n + m) cap, w.setRow g (cur.toList.take (n * i0.size + 0) ++ zs ++ cur.toList.drop (n * i0.size + 0 + zs.length)).toArray, ?_, ⟨hl', hz2', .inr ⟨g, cap, _, T, rfl, hg, setRow_heap w g cur _ T _ hh, hroom, hm, ?_, ?_⟩⟩, ?_⟩
      · simp [Builtin.append_, run_underlying ht, sizeOf, typeInfo, hi, hs.len, hroom, hc, Addr.add_lit, hst]
      · rw [hz1]
        simp only [List.size_toArray, List.length_append, List.length_take, List.length_drop, Array.length_toList, Nat.add_zero]
        omega
      · rw [hz1]
        simp only [Nat.add_zero]
        rw [htk]
        exact List.take_left' hl'
      · exact (Below.refl _ _).grown (row := some g) ⟨rfl, rfl, rfl, by simp, fun j _ hj => setRow_other w g j _ (fun e => hj (by rw [e]))⟩ hbase (fun j hj => by cases hj; exact hg)
    · have holds : (Builtin.firstCells i0.size n (.slice (some ⟨g, 0, none⟩) n cap)).run Tryz.prog w.drew = .ok cs.toArray w.drew := by
        refine run_firstCells_some w.drew i0.size n ⟨g, 0, none⟩ n cap _ (by rw [hz1]; exact o1) ?_
        intro j u hj
        have ha : (⟨g, 0, none⟩ : Addr).add j = ⟨g, j, none⟩ := by unfold Addr.add; split <;> simp_all
        have e : cur[j]? = some u := by
          rw [← htk, List.getElem?_take] at hj
          split at hj
          · simpa using hj
          · cases hj
        rw [ha]
        show w.cell? _ = _
        simp only [World.cell?, hh, e]; rfl
      have hr := run_append_grow_src (P := Tryz.prog) w t t ty e i0 z ht hi hz0 (some ⟨g, 0, none⟩) n cap _ holds _ m _ (by rw [hz1]; exact hs) (by omega) (by omega) (by rw [hz2]; exact growslice_fits (by omega) hlen)
      exact ⟨_, _, hr, lay cap, (Below.refl _ _).drew.alloc hbase _⟩
/-- at the operation itself, in a region that keeps its order -/
theorem append_os {t e : TypeId} {k nb : Nat} {z : Value} (hel : El t e k nb z) {w : World} {ops : Array Oper} {rest : List Oper} {o : Oper} {act : Act} {Q : Exit → Act → World → Prop} (hgd : o.guard = none) (s x : Operand)
    (ho : o.op = .call { callee := .builtin .append, args := #[s, x], argTypes := #[t, t] })
    (base : Nat) (v : Value) (n : Nat) (cs : List Value) (hs : act.eval s = v) (hown : OS k w base v n cs) (ad : Option Addr) (m c : Nat) (zs : List Value) (hx : act.eval x = .slice ad m c) (hb : SV k w ad m zs)
    (hlen : (n + m) * nb ≤ 140737488355328) (hnm : n + m ≤ 140737488355328) (hbase : base ≤ w.heap.size)
    (h : ∀ v' w', OS k w' base v' (n + m) (cs ++ zs) → Below base w w' → wpList Tryz.prog ops Q rest (act.put o.dst v') w') : wpList Tryz.prog ops Q (o :: rest) act w := by
  obtain ⟨v', w', hr, h1, h2⟩ := run_append_os hel o.type base v n cs hown ad m c zs hb hlen hnm hbase
  refine wpList_plain hgd fun K hK => ?_
  unfold Oper.wp execOp
  simp only [ho, resolve, invoke, builtin, Sem.run_bind, Sem.run_pure, Result.andThen_ok, List.map_toArray, List.map_cons, List.map_nil, hs, hx, hr]
  exact hK _ _ (h v' w' h1 h2)
theorem el_bytes : El 26 5 1 1 (.int .u8 0) := ⟨Tryz.underlying26, by kernel_rfl, rfl, by omega⟩
end Go.Proofs.YtbfihajgjbpmaaaGreat
/- Rows of values that come in: a slice of structs of a number and a text, opened; slices of ints. -/
namespace Go.Proofs.YtbfihajgjbpmaaaGreat
open Go.ChangeShapes Go.WideShapes Go.ChangeAt Go.RowKit
set_option linter.unusedVariables false
set_option maxRecDepth 4000

/-- the cells of some values -/
def vcells : List (Int × ByteArray) → List Value
  | [] => []
  | v :: l => .int .i64 v.1 :: .string v.2 :: vcells l
theorem vcells_len : ∀ l, (vcells l).length = l.length * 2
  | [] => rfl
  | v :: l => by rw [vcells, List.length_cons, List.length_cons, vcells_len l, List.length_cons]; omega
theorem vcells_app : ∀ a b, vcells (a ++ b) = vcells a ++ vcells b
  | [], b => rfl
  | v :: a, b => by rw [List.cons_append, vcells, vcells, vcells_app a b]; rfl
theorem vcells_one : ∀ l, ∀ u ∈ vcells l, u.oneCell' = true
  | [], u, hu => by cases hu
  | v :: l, u, hu => by
    rw [vcells] at hu
    rcases List.mem_cons.1 hu with rfl | hu
    · rfl
    · rcases List.mem_cons.1 hu with rfl | hu
      · rfl
      · exact vcells_one l u hu
theorem vcells_at : ∀ (l : List (Int × ByteArray)) (j : Nat), (vcells l)[2 * j]? = (l[j]?).map (fun v => Value.int .i64 v.1) ∧ (vcells l)[2 * j + 1]? = (l[j]?).map (fun v => Value.string v.2)
  | [], j => by simp [vcells]
  | v :: l, 0 => by simp [vcells]
  | v :: l, j + 1 => by
    have := vcells_at l j
    rw [vcells, show 2 * (j + 1) = 2 * j + 1 + 1 from by omega]
    simpa using this
/-- a value of a slice, in memory -/
theorem SV.value {w : World} {b off n : Nat} {vs : List (Int × ByteArray)} (h : SV 2 w (some ⟨b, off, none⟩) n (vcells vs)) (j : Nat) (hj : j < vs.length) :
    w.cell? ⟨b, off + 2 * j, none⟩ = some (.int .i64 (vs[j]).1) ∧ w.cell? ⟨b, off + (2 * j + 1), none⟩ = some (.string (vs[j]).2) := by
  obtain ⟨h1, h2, h3⟩ := h
  have hn : n ≠ 0 := by rw [vcells_len] at h1; omega
  rcases h3 with h3 | ⟨b', off', hb, hcell⟩
  · exact absurd h3 hn
  · cases hb
    have hat := vcells_at vs j
    rw [List.getElem?_eq_getElem hj] at hat
    exact ⟨hcell _ _ hat.1, hcell _ _ hat.2⟩
def numVal : Value → Int
  | .int _ z => z
  | _ => 0
def strOf : Value → ByteArray
  | .string s => s
  | _ => ⟨#[]⟩
section
variable {H : Type} {enc : TypeId × Value → H} {w : World} {base fuel : Nat} {spare : Nat → Bool} {held : Bool}
/-- a slice of values that came in -/
theorem open_vals {t e : TypeId} {f0 f1 : Field} {cs : List Value} {x : DataW H × List MemPlace} (ht : Tryz.prog.underlying t = some (.slice e)) (he : Tryz.prog.underlying e = some (.struct #[f0, f1]))
    (ce : Tryz.prog.cellsOf e = 2) (o0 : f0.offset = 0) (o1 : f1.offset = 1) (c0 : Tryz.prog.cellsOf f0.type = 1) (c1 : Tryz.prog.cellsOf f1.type = 1) (u0 : Tryz.prog.underlying f0.type = some (.int .i64)) (u1 : Tryz.prog.underlying f1.type = some .string)
    (h : DataW.trod enc Tryz.prog w base spare held fuel t cs = some x) :
    ∃ (a : Option Addr) (len cap : Nat) (vs : List (Int × ByteArray)), cs = [.slice a len cap] ∧ len ≤ cap ∧ cap ≤ maxLen ∧ vs.length = len ∧ (∀ v ∈ vs, -9223372036854775808 ≤ v.1 ∧ v.1 ≤ 9223372036854775807) ∧ SV 2 w a len (vcells vs) ∧ (a = none → cap = 0) := by
  rcases Go.Deep.open_slice_pairs ht he ce o0 o1 c0 c1 h with ⟨rfl, _⟩ | ⟨a, len, cap, m, n, V0, V1, D0, D1, P0, P1, rfl, hb, hl, hm, hmm, _, hx⟩
  · exact ⟨none, 0, 0, [], rfl, Nat.le_refl _, Nat.zero_le _, rfl, by simp, SV.zero _ _, fun _ => rfl⟩
  · have hlm : len ≤ m := by rw [hmm]; split <;> omega
    have each : ∀ i, i < len → w.cell? (a.add (i * 2)) = some (.int .i64 (numVal (V0 i))) ∧ w.cell? (a.add (i * 2 + 1)) = some (.string (strOf (V1 i))) ∧ (-9223372036854775808 ≤ numVal (V0 i) ∧ numVal (V0 i) ≤ 9223372036854775807) := by
      intro i hi
      obtain ⟨h1, h2, h3, h4⟩ := hx i (by omega)
      obtain ⟨z, hz, _, wz⟩ := DataW.trod_int u0 h3
      obtain ⟨s, hs, _, _⟩ := DataW.trod_string u1 h4
      simp only [List.cons.injEq, and_true] at hz hs
      rw [h1, h2, hz, hs]
      exact ⟨rfl, rfl, bounds_i64 wz⟩
    refine ⟨some a, len, cap, (List.range len).map fun i => (numVal (V0 i), strOf (V1 i)), rfl, hl, hm, by simp, ?_, ⟨?_, vcells_one _, ?_⟩, fun h => by cases h⟩
    · intro v hv
      obtain ⟨i, hi, rfl⟩ := List.mem_map.1 hv
      exact (each i (List.mem_range.1 hi)).2.2
    · rw [vcells_len]; simp
    · by_cases h0 : len = 0
      · exact .inl h0
      · obtain ⟨b, off, spot⟩ := a
        have hspot : spot = none := by
          have hc := (each 0 (by omega)).1
          simpa [Addr.add] using World.cell?_spot hc
        subst hspot
        refine .inr ⟨b, off, rfl, fun i u hi => ?_⟩
        have hil : i < (vcells ((List.range len).map fun i => (numVal (V0 i), strOf (V1 i)))).length := by
          rcases Nat.lt_or_ge i (vcells ((List.range len).map fun i => (numVal (V0 i), strOf (V1 i)))).length with h | h
          · exact h
          · rw [List.getElem?_eq_none h] at hi; cases hi
        rw [vcells_len] at hil
        simp at hil
        obtain ⟨j, hj2⟩ : ∃ j, i = 2 * j ∨ i = 2 * j + 1 := ⟨i / 2, by omega⟩
        have hat := vcells_at ((List.range len).map fun i => (numVal (V0 i), strOf (V1 i))) j
        have hj : j < len := by omega
        have e1 : ((List.range len).map fun i => (numVal (V0 i), strOf (V1 i)))[j]? = some (numVal (V0 j), strOf (V1 j)) := by simp [hj]
        rw [e1] at hat
        have ha : ∀ j, (⟨b, off, none⟩ : Addr).add j = ⟨b, off + j, none⟩ := by intro j; unfold Addr.add; split <;> simp_all
        obtain ⟨q1, q2, _⟩ := each j hj
        rw [ha] at q1 q2
        rcases hj2 with rfl | rfl
        · rw [hat.1] at hi
          simp only [Option.map_some, Option.some.injEq] at hi
          rw [← hi, Nat.mul_comm 2 j]
          exact q1
        · rw [hat.2] at hi
          simp only [Option.map_some, Option.some.injEq] at hi
          rw [← hi, Nat.mul_comm 2 j]
          exact q2
end
end Go.Proofs.YtbfihajgjbpmaaaGreat
/- Lists of rows that come in: a slice of slices of values, opened; slices of ints, opened. -/
namespace Go.Proofs.YtbfihajgjbpmaaaGreat
open Go.ChangeShapes Go.WideShapes Go.ChangeAt Go.RowKit
set_option linter.unusedVariables false
set_option maxRecDepth 4000

/-- the cell v is a slice of the values vs -/
def RowAt (w : World) (v : Value) (vs : List (Int × ByteArray)) : Prop :=
  ∃ A L C, v = .slice A L C ∧ L ≤ C ∧ C ≤ maxLen ∧ vs.length = L ∧ SV 2 w A L (vcells vs) ∧ (A = none → C = 0)
theorem RowAt.mono {w w' : World} {v : Value} {vs : List (Int × ByteArray)} (h : RowAt w v vs) (hc : ∀ b o v, w.cell? ⟨b, o, none⟩ = some v → w'.cell? ⟨b, o, none⟩ = some v) : RowAt w' v vs := by
  obtain ⟨A, L, C, h1, h2, h3, h4, h5, h6⟩ := h
  exact ⟨A, L, C, h1, h2, h3, h4, h5.mono hc, h6⟩
theorem RowAt.below {w w' : World} {v : Value} {vs : List (Int × ByteArray)} (h : RowAt w v vs) (hb : Below w.heap.size w w') : RowAt w' v vs :=
  h.mono fun b o v hc => by rw [hb.cell (p := ⟨b, o, none⟩) (cell_lt hc)]; exact hc
/-- the slice at a of n rows holds the rows vss -/
def RVs (w : World) (a : Option Addr) (n : Nat) (vss : List (List (Int × ByteArray))) : Prop :=
  vss.length = n ∧ (n = 0 ∨ ∃ b off, a = some ⟨b, off, none⟩ ∧ ∀ i, i < n → ∃ v, w.cell? ⟨b, off + i, none⟩ = some v ∧ RowAt w v (vss.getD i []))
theorem RVs.mono {w w' : World} {a : Option Addr} {n : Nat} {vss : List (List (Int × ByteArray))} (h : RVs w a n vss) (hc : ∀ b o v, w.cell? ⟨b, o, none⟩ = some v → w'.cell? ⟨b, o, none⟩ = some v) : RVs w' a n vss := by
  obtain ⟨h1, h2⟩ := h
  refine ⟨h1, ?_⟩
  rcases h2 with h2 | ⟨b, off, rfl, hr⟩
  · exact .inl h2
  · exact .inr ⟨b, off, rfl, fun i hi => by obtain ⟨v, e1, e2⟩ := hr i hi; exact ⟨v, hc _ _ _ e1, e2.mono hc⟩⟩
theorem RVs.below {w w' : World} {a : Option Addr} {n : Nat} {vss : List (List (Int × ByteArray))} (h : RVs w a n vss) (hb : Below w.heap.size w w') : RVs w' a n vss :=
  h.mono fun b o v hc => by rw [hb.cell (p := ⟨b, o, none⟩) (cell_lt hc)]; exact hc
theorem RVs.alloc {w : World} {a : Option Addr} {n : Nat} {vss : List (List (Int × ByteArray))} (h : RVs w a n vss) (o : Obj) : RVs (w.alloc o) a n vss := h.mono fun _ _ _ hc => cell_alloc w o hc
/-- the cells of some ints -/
def icells (l : List Int) : List Value := l.map (Value.int .i64)
theorem icells_one (l : List Int) : ∀ u ∈ icells l, u.oneCell' = true := by
  intro u hu
  obtain ⟨z, _, rfl⟩ := List.mem_map.1 hu
  rfl
abbrev Rgs (l : List Int) : Prop := ∀ z ∈ l, -9223372036854775808 ≤ z ∧ z ≤ 9223372036854775807
section
variable {H : Type} {enc : TypeId × Value → H} {w : World} {base fuel : Nat} {spare : Nat → Bool} {held : Bool}
theorem spot_none {a : Addr} {v : Value} (h : w.cell? (a.add 0) = some v) : a.spot = none := by
  obtain ⟨b, off, spot⟩ := a
  simpa [Addr.add] using World.cell?_spot h
/-- a slice of ints that came in -/
theorem open_intsS {t e : TypeId} {cs : List Value} {x : DataW H × List MemPlace} (ht : Tryz.prog.underlying t = some (.slice e)) (hc : Tryz.prog.cellsOf e = 1) (he : Tryz.prog.underlying e = some (.int .i64))
    (h : DataW.trod enc Tryz.prog w base spare held fuel t cs = some x) :
    ∃ (a : Option Addr) (len cap : Nat) (zs : List Int), cs = [.slice a len cap] ∧ len ≤ cap ∧ cap ≤ maxLen ∧ zs.length = len ∧ Rgs zs ∧ SV 1 w a len (icells zs) ∧ (a = none → cap = 0) := by
  rcases Go.Deep.open_slice1 ht hc h with ⟨rfl, _⟩ | ⟨a, len, cap, m, n, V, D, Pl, rfl, hb, hl, hm, hmm, _, hx⟩
  · exact ⟨none, 0, 0, [], rfl, Nat.le_refl _, Nat.zero_le _, rfl, (fun z hz => by cases hz), SV.zero _ _, fun _ => rfl⟩
  · have hlm : len ≤ m := by rw [hmm]; split <;> omega
    have each : ∀ i, i < len → w.cell? (a.add i) = some (.int .i64 (numVal (V i))) ∧ (-9223372036854775808 ≤ numVal (V i) ∧ numVal (V i) ≤ 9223372036854775807) := by
      intro i hi
      obtain ⟨h1, h2⟩ := hx i (by omega)
      obtain ⟨z, hz, _, wz⟩ := DataW.trod_int he h2
      simp only [List.cons.injEq, and_true] at hz
      rw [h1, hz]
      exact ⟨rfl, bounds_i64 wz⟩
    refine ⟨some a, len, cap, (List.range len).map fun i => numVal (V i), rfl, hl, hm, by simp, ?_, ⟨by simp [icells], icells_one _, ?_⟩, fun h => by cases h⟩
    · intro v hv
      obtain ⟨i, hi, rfl⟩ := List.mem_map.1 hv
      exact (each i (List.mem_range.1 hi)).2
    · by_cases h0 : len = 0
      · exact .inl h0
      · have hs := spot_none (each 0 (by omega)).1
        obtain ⟨b, off, spot⟩ := a
        have hs' : spot = none := hs
        subst hs'
        refine .inr ⟨b, off, rfl, fun i u hi => ?_⟩
        have hil : i < len := by
          rcases Nat.lt_or_ge i len with h | h
          · exact h
          · rw [List.getElem?_eq_none (by simpa [icells] using h)] at hi; cases hi
        have ha : ∀ j, (⟨b, off, none⟩ : Addr).add j = ⟨b, off + j, none⟩ := by intro j; unfold Addr.add; split <;> simp_all
        have q := (each i hil).1
        rw [ha] at q
        simp [icells, hil] at hi
        rw [q, ← hi]
/-- a slice of rows that came in -/
theorem open_rows {t r e : TypeId} {f0 f1 : Field} {cs : List Value} {x : DataW H × List MemPlace} (ht : Tryz.prog.underlying t = some (.slice r)) (hr : Tryz.prog.cellsOf r = 1) (hre : Tryz.prog.underlying r = some (.slice e)) (he : Tryz.prog.underlying e = some (.struct #[f0, f1]))
    (ce : Tryz.prog.cellsOf e = 2) (o0 : f0.offset = 0) (o1 : f1.offset = 1) (c0 : Tryz.prog.cellsOf f0.type = 1) (c1 : Tryz.prog.cellsOf f1.type = 1) (u0 : Tryz.prog.underlying f0.type = some (.int .i64)) (u1 : Tryz.prog.underlying f1.type = some .string)
    (h : DataW.trod enc Tryz.prog w base spare held fuel t cs = some x) :
    ∃ (a : Option Addr) (len cap : Nat) (vss : List (List (Int × ByteArray))), cs = [.slice a len cap] ∧ len ≤ cap ∧ cap ≤ maxLen ∧ (∀ vs ∈ vss, ∀ v ∈ vs, -9223372036854775808 ≤ v.1 ∧ v.1 ≤ 9223372036854775807) ∧ RVs w a len vss ∧ (a = none → cap = 0) := by
  rcases Go.Deep.open_slice1 ht hr h with ⟨rfl, _⟩ | ⟨a, len, cap, m, n, V, D, Pl, rfl, hb, hl, hm, hmm, _, hx⟩
  · exact ⟨none, 0, 0, [], rfl, Nat.le_refl _, Nat.zero_le _, by simp, ⟨rfl, .inl rfl⟩, fun _ => rfl⟩
  · have hlm : len ≤ m := by rw [hmm]; split <;> omega
    have each : ∀ i, i < len → ∃ vs : List (Int × ByteArray), (w.cell? (a.add i) = some (V i) ∧ RowAt w (V i) vs) ∧ ∀ v ∈ vs, -9223372036854775808 ≤ v.1 ∧ v.1 ≤ 9223372036854775807 := by
      intro i hi
      obtain ⟨h1, h2⟩ := hx i (by omega)
      obtain ⟨A, L, C, vs, hv, q1, q2, q3, q4, q5, q6⟩ := open_vals hre he ce o0 o1 c0 c1 u0 u1 h2
      simp only [List.cons.injEq, and_true] at hv
      exact ⟨vs, ⟨h1, A, L, C, hv, q1, q2, q3, q5, q6⟩, q4⟩
    obtain ⟨F, hF⟩ := Go.Deep.choose_lt (α := List (Int × ByteArray)) (p := fun i vs => (w.cell? (a.add i) = some (V i) ∧ RowAt w (V i) vs) ∧ ∀ v ∈ vs, -9223372036854775808 ≤ v.1 ∧ v.1 ≤ 9223372036854775807) each
    refine ⟨some a, len, cap, (List.range len).map F, rfl, hl, hm, ?_, ⟨by simp, ?_⟩, fun h => by cases h⟩
    · intro vs hv
      obtain ⟨i, hi, rfl⟩ := List.mem_map.1 hv
      exact (hF i (List.mem_range.1 hi)).2
    · by_cases h0 : len = 0
      · exact .inl h0
      · have hs := spot_none (hF 0 (by omega)).1.1
        obtain ⟨b, off, spot⟩ := a
        have hs' : spot = none := hs
        subst hs'
        refine .inr ⟨b, off, rfl, fun i hi => ⟨V i, ?_, ?_⟩⟩
        · have ha : (⟨b, off, none⟩ : Addr).add i = ⟨b, off + i, none⟩ := by unfold Addr.add; split <;> simp_all
          rw [← ha]; exact (hF i hi).1.1
        · have e : ((List.range len).map F).getD i [] = F i := by simp [hi]
          rw [e]; exact (hF i hi).1.2
end
end Go.Proofs.YtbfihajgjbpmaaaGreat
/- Blocks of memory that are known whole: their cells, that they may be written, what a store makes of them; what is owned stays while another block is written. -/
namespace Go.Proofs.YtbfihajgjbpmaaaGreat
open Go.ChangeShapes Go.WideShapes Go.ChangeAt Go.RowKit
set_option linter.unusedVariables false
set_option maxRecDepth 4000

/-- the block b has the cells cs, and may be written -/
def Bk (w : World) (b : Nat) (cs : Array Value) (T : TypeId) : Prop := w.heap[b]? = some (.cells cs T (0, 0))
theorem Bk.lt {w : World} {b : Nat} {cs : Array Value} {T : TypeId} (h : Bk w b cs T) : b < w.heap.size := lt_of_block h
theorem Bk.new (w : World) (cs : Array Value) (T : TypeId) : Bk (w.alloc (.cells cs T)) w.heap.size cs T := heap_alloc_new w _
theorem Bk.alloc {w : World} {b : Nat} {cs : Array Value} {T : TypeId} (h : Bk w b cs T) (o : Obj) : Bk (w.alloc o) b cs T := heap_alloc_lt o h
theorem Bk.drew {w : World} {b : Nat} {cs : Array Value} {T : TypeId} (h : Bk w b cs T) : Bk w.drew b cs T := h
theorem Bk.low {w w' : World} {b base : Nat} {cs : Array Value} {T : TypeId} (h : Bk w b cs T) (hb : Below base w w') (hB : b < base) : Bk w' b cs T := by
  unfold Bk; rw [hb.block b hB]; exact h
theorem Bk.below {w w' : World} {b : Nat} {cs : Array Value} {T : TypeId} (h : Bk w b cs T) (hb : Below w.heap.size w w') : Bk w' b cs T := h.low hb h.lt
theorem Bk.cell {w : World} {b : Nat} {cs : Array Value} {T : TypeId} (h : Bk w b cs T) (i : Nat) {v : Value} (hi : cs[i]? = some v) : w.cell? ⟨b, i, none⟩ = some v := by
  have h' : w.heap[b]? = some (.cells cs T (0, 0)) := h
  simp only [World.cell?, h', hi]; rfl
theorem Bk.free {w : World} {b : Nat} {cs : Array Value} {T : TypeId} (h : Bk w b cs T) (i : Nat) : w.frozen? ⟨b, i, none⟩ = false := by
  have h' : w.heap[b]? = some (.cells cs T (0, 0)) := h
  simp [World.frozen?, h']
theorem Bk.set {w : World} {b : Nat} {cs : Array Value} {T : TypeId} (h : Bk w b cs T) (i : Nat) (u : Value) : Bk (w.setCell ⟨b, i, none⟩ u) b (cs.setIfInBounds i u) T := by
  have hlt := h.lt
  have h' : w.heap[b] = .cells cs T (0, 0) := by have : w.heap[b]? = _ := h; simpa [Array.getElem?_eq_getElem hlt] using this
  show (w.heap.modify b _)[b]? = _
  rw [Array.getElem?_eq_getElem (by simpa using hlt), Array.getElem_modify_self, h']
  rfl
theorem Bk.other {w : World} {b c i : Nat} {cs : Array Value} {T : TypeId} (h : Bk w b cs T) (hn : b ≠ c) (u : Value) : Bk (w.setCell ⟨c, i, none⟩ u) b cs T :=
  (Below.heap_setCell _ _ _ _ hn).trans h
/-- what is owned stays while a block below is written -/
theorem OS.set {k : Nat} {w : World} {base b i : Nat} {v : Value} {n : Nat} {cs : List Value} (h : OS k w base v n cs) (hb : b < base) (u : Value) : OS k (w.setCell ⟨b, i, none⟩ u) base v n cs := by
  obtain ⟨h1, h2, h3⟩ := h
  refine ⟨h1, h2, ?_⟩
  rcases h3 with h3 | ⟨g, cap, cur, T, hv, hg, hh, hr⟩
  · exact .inl h3
  · exact .inr ⟨g, cap, cur, T, hv, hg, (Below.heap_setCell _ _ _ _ (by show g ≠ b; omega)).trans hh, hr⟩
/-- and what a slice holds, while a block that it does not lie in is written -/
theorem SV.set {k : Nat} {w : World} {b i n : Nat} {a : Option Addr} {cs : List Value} (h : SV k w a n cs) (hb : ∀ x, a = some x → x.block ≠ b) (u : Value) : SV k (w.setCell ⟨b, i, none⟩ u) a n cs := by
  obtain ⟨h1, h2, h3⟩ := h
  refine ⟨h1, h2, ?_⟩
  rcases h3 with h3 | ⟨c, off, rfl, hc⟩
  · exact .inl h3
  · refine .inr ⟨c, off, rfl, fun j x hj => ?_⟩
    have hne := hb _ rfl
    rw [World.cell?_setCell_other _ _ _ _ (by simp; intro h; exact absurd h.symm hne)]
    exact hc j x hj
theorem OS.shape {k : Nat} {w : World} {base : Nat} {v : Value} {n : Nat} {cs : List Value} (h : OS k w base v n cs) : ∃ a c, v = .slice a n c := by
  obtain ⟨a, c, hv, -⟩ := h.sv
  exact ⟨a, c, hv⟩
end Go.Proofs.YtbfihajgjbpmaaaGreat
/- 'append(T{}, more...)': a slice without room always grows: what was there stays. Stores into a slice of the call's own. -/
namespace Go.Proofs.YtbfihajgjbpmaaaGreat
open Go.ChangeShapes Go.WideShapes Go.ChangeAt Go.RowKit
set_option linter.unusedVariables false
set_option maxRecDepth 4000

/-- a slice of the call's own that has elements: its cells are there and may be written, and what a store makes of it -/
theorem OS.own {k : Nat} {w : World} {base : Nat} {v : Value} {n : Nat} {cs : List Value} (h : OS k w base v n cs) (hn : 1 ≤ n) :
    ∃ g cap, v = .slice (some ⟨g, 0, none⟩) n cap ∧ base ≤ g ∧ n ≤ cap ∧ cap ≤ maxLen ∧ (∀ i u, cs[i]? = some u → w.cell? ⟨g, i, none⟩ = some u) ∧ (∀ i, w.frozen? ⟨g, i, none⟩ = false) ∧
      ∀ i u, i < n * k → u.oneCell' = true → OS k (w.setCell ⟨g, i, none⟩ u) base v n (cs.set i u) := by
  obtain ⟨h1, h2, h3⟩ := h
  rcases h3 with ⟨rfl, rfl⟩ | ⟨g, cap, cur, T, rfl, hg, hh, hl, hm, hsz, ht⟩
  · omega
  · have hB : Bk w g cur T := hh
    refine ⟨g, cap, rfl, hg, hl, hm, ?_, fun i => hB.free i, ?_⟩
    · intro i u hi
      refine hB.cell i ?_
      rw [← ht, List.getElem?_take] at hi
      split at hi
      · simpa using hi
      · cases hi
    · intro i u hi hu
      refine ⟨by rw [List.length_set]; exact h1, ?_, .inr ⟨g, cap, cur.setIfInBounds i u, T, rfl, hg, hB.set i u, hl, hm, by simpa using hsz, ?_⟩⟩
      · intro x hx
        rcases List.mem_or_eq_of_mem_set hx with hx | rfl
        · exact h2 x hx
        · exact hu
      · rw [Array.toList_setIfInBounds, List.take_set, ht]
end Go.Proofs.YtbfihajgjbpmaaaGreat
/- Slices of ints, and of bytes, in memory: what they hold, how they stand stores into other blocks, how they are cut; slices that are made. -/
namespace Go.Proofs.YtbfihajgjbpmaaaGreat
open Go.ChangeShapes Go.WideShapes Go.ChangeAt Go.RowKit
set_option linter.unusedVariables false
set_option maxRecDepth 4000

/-- the slice at A of N ints is ts -/
abbrev IV (w : World) (A : Option Addr) (N : Nat) (ts : List Int) : Prop := SV 1 w A N (icells ts)
theorem IV.len {w : World} {A : Option Addr} {N : Nat} {ts : List Int} (h : IV w A N ts) : ts.length = N := by have := h.1; simpa [icells] using this
theorem IV.at {w : World} {A : Option Addr} {N : Nat} {ts : List Int} (h : IV w A N ts) (i : Nat) (hi : i < N) :
    ∃ b off, A = some ⟨b, off, none⟩ ∧ w.cell? ⟨b, off + i, none⟩ = some (.int .i64 (ts.getD i 0)) := by
  have hl := IV.len h
  obtain ⟨h1, h2, h3⟩ := h
  rcases h3 with h3 | ⟨b, off, rfl, hc⟩
  · omega
  · refine ⟨b, off, rfl, hc i _ ?_⟩
    simp [icells, show i < ts.length by omega]
/-- a slice of n elements that lies below block B -/
def Low (B : Nat) (a : Option Addr) (n : Nat) : Prop := n = 0 ∨ ∀ x, a = some x → x.block < B
theorem Low.of {w : World} {a : Option Addr} {n : Nat} {zs : List Int} (h : BV w a n zs) : Low w.heap.size a n := by
  rcases h.2.2 with h3 | ⟨b, off, rfl, hc⟩
  · exact .inl h3
  · by_cases hn : n = 0
    · exact .inl hn
    · exact .inr (fun x hx => by cases hx; exact cell_lt (hc 0 (by omega)))
theorem Low.mono {B B' : Nat} {a : Option Addr} {n : Nat} (h : Low B a n) (hb : B ≤ B') : Low B' a n := h.elim .inl (fun h => .inr (fun x hx => Nat.lt_of_lt_of_le (h x hx) hb))
theorem BV.set {w : World} {B i : Nat} {a : Option Addr} {n : Nat} {zs : List Int} (h : BV w a n zs) (hl : Low B a n) (u : Value) : BV (w.setCell ⟨B, i, none⟩ u) a n zs := by
  obtain ⟨h1, h2, h3⟩ := h
  refine ⟨h1, h2, ?_⟩
  rcases h3 with h3 | ⟨b, off, rfl, hc⟩
  · exact .inl h3
  · by_cases hn : n = 0
    · exact .inl hn
    refine .inr ⟨b, off, rfl, fun j hj => ?_⟩
    have hb : b < B := hl.resolve_left hn _ rfl
    rw [World.cell?_setCell_other _ _ _ _ (fun h => by cases h; omega)]
    exact hc j hj
/-- a slice that is cut from k on, as the walk writes it -/
theorem BV.cutA {w : World} {a : Option Addr} {n : Nat} {zs : List Int} (h : BV w a n zs) (k c : Nat) (hk : k ≤ n) (hc : n ≤ c) :
    BV w (if c = k then a else Option.map (fun x => x.add k) a) (n - k) (zs.drop k) := by
  obtain ⟨h1, h2, h3⟩ := id h
  rcases h3 with h3 | ⟨b, off, rfl, _⟩
  · have e : zs = [] := List.eq_nil_of_length_eq_zero (by omega)
    subst e
    exact ⟨by simp; omega, by simp, .inl (by omega)⟩
  · have := h.cut k c hk hc
    have ha : (⟨b, off, none⟩ : Addr).add k = ⟨b, off + k, none⟩ := by unfold Addr.add; split <;> simp_all
    simpa [ha] using this
theorem low_cut {B : Nat} {a : Option Addr} {n : Nat} (h : Low B a n) (p : Prop) [Decidable p] (k : Nat) : Low B (if p then a else Option.map (fun x => x.add k) a) (n - k) := by
  rcases h with h | h
  · exact .inl (by omega)
  · refine .inr fun x hx => ?_
    split at hx
    · exact h x hx
    · cases a with
      | none => cases hx
      | some y =>
        simp only [Option.map_some, Option.some.injEq] at hx
        have := h y rfl
        rw [← hx]
        unfold Addr.add
        split <;> exact this
theorem madeCells_int (n : Nat) : madeCells #[Value.int .i64 0] n = (icells (List.replicate n 0)).toArray := by
  refine Array.ext' ?_
  simp [madeCells, icells]
  refine List.ext_getElem (by simp) (fun i h1 h2 => ?_)
  simp [Nat.mod_one]
theorem set_fill (l : List Int) (N : Nat) (x : Int) (h : l.length < N) : (icells (l ++ List.replicate (N - l.length) 0)).set l.length (.int .i64 x) = icells ((l ++ [x]) ++ List.replicate (N - (l.length + 1)) 0) := by
  obtain ⟨m, hm⟩ : ∃ m, N - l.length = m + 1 := ⟨N - l.length - 1, by omega⟩
  rw [hm, show N - (l.length + 1) = m from by omega, List.replicate_succ]
  simp [icells]
theorem few_max' {n : Nat} (h : n ≤ 1000000) : n ≤ maxLen := by unfold maxLen; omega
theorem size_set (w : World) (a : Addr) (u : Value) : (w.setCell a u).heap.size = w.heap.size := by simp [World.setCell]
theorem OS.setN {k : Nat} {w : World} {base b i g c : Nat} {n : Nat} {cs : List Value} (h : OS k w base (.slice (some ⟨g, 0, none⟩) n c) n cs) (hb : g ≠ b) (u : Value) : OS k (w.setCell ⟨b, i, none⟩ u) base (.slice (some ⟨g, 0, none⟩) n c) n cs := by
  obtain ⟨h1, h2, h3⟩ := h
  refine ⟨h1, h2, ?_⟩
  rcases h3 with ⟨h3, _⟩ | ⟨g', cap, cur, T, hv, hg, hh, hr⟩
  · cases h3
  · cases hv
    exact .inr ⟨g, c, cur, T, rfl, hg, (Below.heap_setCell _ _ _ _ hb).trans hh, hr⟩
theorem list_getD {ts us : List Int} (hl : ts.length = us.length) (h : ∀ i, i < ts.length → ts.getD i 0 = us.getD i 0) : ts = us := by
  refine List.ext_getElem hl (fun i h1 h2 => ?_)
  have := h i h1
  simpa [List.getD, h1, h2] using this
theorem take_snocI (ts : List Int) (j : Nat) (h : j < ts.length) : ts.take (j + 1) = ts.take j ++ [ts.getD j 0] := by
  rw [List.take_succ_eq_append_getElem h]; simp [List.getD, h]
theorem SV.lit {k : Nat} (w : World) (cs : List Value) (n : Nat) (T : TypeId) (h1 : cs.length = n * k) (h2 : ∀ u ∈ cs, u.oneCell' = true) : SV k (w.alloc (.cells cs.toArray T)) (some ⟨w.heap.size, 0, none⟩) n cs :=
  ⟨h1, h2, .inr ⟨_, 0, rfl, fun i u hi => by rw [Nat.zero_add, World.cell?_alloc_new]; simpa using hi⟩⟩
theorem SV.lit' {k : Nat} (w : World) (cs : List Value) (n : Nat) (T : TypeId) (h1 : cs.length = n * k) (h2 : ∀ u ∈ cs, u.oneCell' = true) (g : Nat) (hg : g = w.heap.size) : SV k (w.alloc (.cells cs.toArray T)) (some ⟨g, 0, none⟩) n cs := by
  subst hg; exact SV.lit w cs n T h1 h2
theorem IV.take {w : World} {A : Option Addr} {n : Nat} {l : List Int} (h : IV w A n l) (m : Nat) (hm : m ≤ n) : IV w A m (l.take m) := by
  have := SV.take h m hm
  rwa [Nat.mul_one, icells, ← List.map_take] at this
theorem icells_app (a b : List Int) : icells (a ++ b) = icells a ++ icells b := List.map_append
theorem el_i64s : El 100 2 1 8 (.int .i64 0) := ⟨Tryz.underlying100, by kernel_rfl, rfl, by omega⟩
end Go.Proofs.YtbfihajgjbpmaaaGreat
/- How the statements' arguments come in: numbers, bytes, ints. -/
namespace Go.Proofs.YtbfihajgjbpmaaaGreat
open Go.ChangeShapes Go.WideShapes Go.ChangeAt Go.RowKit
set_option linter.unusedVariables false
set_option maxRecDepth 4000

theorem own : ownKnob Tryz.prog.godebug = none := by kernel_rfl
theorem laidOut : laidOutB Tryz.prog = true := by kernel_rfl
section
variable {H : Type} {enc : TypeId × Value → H} {w : World} {base fuel : Nat} {spare : Nat → Bool} {held : Bool}
theorem open_bytes {r : Reach} {b0 : Nat} {v : Value} {d : DataW H} {p : List MemPlace} (hv : Value.okWide Tryz.prog w r b0 26 v) (h : DataW.Trod enc Tryz.prog w base (fun _ => true) held 26 v d p) :
    ∃ (A : Option Addr) (n c : Nat) (zs : List Int), v = .slice A n c ∧ BV w A n zs ∧ n ≤ c := by
  obtain ⟨a0, len0, cap0, rfl⟩ := okWide_slice Tryz.underlying26 hv
  obtain ⟨fuel, hf⟩ := h
  rcases open_ints Tryz.underlying26 Tryz.underlying5 (by kernel_rfl) hf with ⟨hcs, _⟩ | ⟨x, l, c, zs, hcs, _, hl, hm, hz, _, hcell, hwz⟩
  · simp [Value.cells] at hcs
    obtain ⟨rfl, rfl, rfl⟩ := hcs
    exact ⟨none, 0, 0, [], rfl, (bv_of (w := w) (a := none) (len := 0) (cap := 0) (zs := []) (.inl ⟨rfl, rfl, rfl, rfl⟩)).1, Nat.le_refl _⟩
  · simp [Value.cells] at hcs
    obtain ⟨rfl, rfl, rfl⟩ := hcs
    exact ⟨_, _, _, _, rfl, (bv_of (w := w) (a := some x) (zs := zs) (.inr ⟨x, rfl, hl, hm, by simpa using hz, hcell, hwz⟩)).1, hl⟩
end
end Go.Proofs.YtbfihajgjbpmaaaGreat
/- 'append(own, more...)', and that what lies in other blocks stays. -/
namespace Go.Proofs.YtbfihajgjbpmaaaGreat
open Go.ChangeShapes Go.WideShapes Go.ChangeAt Go.RowKit
set_option linter.unusedVariables false
set_option maxRecDepth 4000

theorem heap_alloc_old (w : World) (o : Obj) {b : Nat} (h : b < w.heap.size) : (w.alloc o).heap[b]? = w.heap[b]? := by
  show (w.heap.push o)[b]? = _
  rw [Array.getElem?_push, if_neg (by omega)]
theorem run_append_os2 {t e : TypeId} {k nb : Nat} {z : Value} (hel : El t e k nb z) {w : World} (ty : TypeId) (base : Nat) (v : Value) (n : Nat) (cs : List Value) (hown : OS k w base v n cs) (ad : Option Addr) (m c : Nat) (zs : List Value) (hb : SV k w ad m zs)
    (hlen : (n + m) * nb ≤ 140737488355328) (hnm : n + m ≤ 140737488355328) (hbase : base ≤ w.heap.size) :
    ∃ v' w', (Builtin.append_ #[t, t] ty #[v, .slice ad m c]).run Tryz.prog w = .ok v' w' ∧ OS k w' base v' (n + m) (cs ++ zs) ∧ Below base w w' ∧ (v'.ownBlock = v.ownBlock ∨ v'.ownBlock = some w.heap.size) ∧ (∀ b, b < w.heap.size → v.ownBlock ≠ some b → w'.heap[b]? = w.heap[b]?) := by
  have hs := src_sv hel hb c
  obtain ⟨ht, hinfo, hzs, hk1⟩ := hel
  obtain ⟨i0, hi, hz0, hz1, hz2⟩ := info_parts hinfo
  obtain ⟨o1, o2, o3⟩ := hown
  have hzl : zs.length = m * k := hb.1
  have hz2' : ∀ u ∈ cs ++ zs, u.oneCell' = true := fun u hu => (List.mem_append.1 hu).elim (o2 u) (hb.2.1 u)
  have hl' : (cs ++ zs).length = (n + m) * k := by rw [List.length_append, o1, hzl, Nat.add_mul]
  have hml : n + m ≤ maxLen := by unfold maxLen; omega
  have lay : ∀ (old : Nat), OS k (w.drew.alloc (.cells ((cs ++ zs).toArray ++ Builtin.zeroCells z.cells (grownCap w (n + m) old e - (n + m))) e)) base (.slice (some ⟨w.heap.size, 0, none⟩) (n + m) (grownCap w (n + m) old e)) (n + m) (cs ++ zs) := by
    intro old
    have hge := grownCap_ge w (n + m) old e
    have hcm := grownCap_le_maxLen w (n + m) old e hml
    refine ⟨hl', hz2', .inr ⟨w.heap.size, _, _, e, rfl, hbase, heap_alloc_new w.drew _, hge, hcm, ?_, ?_⟩⟩
    · rw [Array.size_append, size_zeroCells, hzs]
      simp only [List.size_toArray, hl']
      rw [← Nat.add_mul]; exact congrArg (fun x => x * k) (by omega)
    · rw [Array.toList_append]
      exact List.take_left' hl'
  rcases o3 with ⟨rfl, rfl⟩ | ⟨g, cap, cur, T, rfl, hg, hh, hl, hm, hsz, htk⟩
  · have hc0 : cs = [] := List.eq_nil_of_length_eq_zero (by omega)
    subst hc0
    by_cases h0 : m = 0
    · subst h0
      have hz : zs = [] := List.eq_nil_of_length_eq_zero (by omega)
      subst hz
      refine ⟨.slice none 0 0, w, ?_, ⟨by simp, by simp, .inl ⟨rfl, rfl⟩⟩, Below.refl _ _, .inl rfl, fun b _ _ => rfl⟩
      have hc := hs.cells
      rw [← hz1] at hc
      simp [Builtin.append_, run_underlying ht, sizeOf, typeInfo, hi, hs.len, hc]
    · have hr := run_append_grow_src (P := Tryz.prog) w t t ty e i0 z ht hi hz0 none 0 0 [] (run_firstCells_none _ _ _ _ _) _ m _ (by rw [hz1]; exact hs) (by omega) (by omega) (by rw [hz2]; exact growslice_fits (by omega) (by simpa using hlen))
      exact ⟨_, _, hr, lay 0, (Below.refl _ _).drew.alloc hbase _, .inr rfl, fun b hb _ => heap_alloc_old _ _ hb⟩
  · by_cases hroom : n + m ≤ cap
    · have hfit : n * k + zs.length ≤ cur.size := by rw [hsz, hzl, ← Nat.add_mul]; exact Nat.mul_le_mul_right k hroom
      have hst := run_storeCells_at (P := Tryz.prog) g (n * i0.size) T zs 0 cur w hh (by rw [hz1]; simpa using hfit) hb.2.1
      have hc := hs.cells
      rw [← hz1] at hc
      refine ⟨.slice (some ⟨g, 0, none⟩) (n + m) cap, w.setRow g (cur.toList.take (n * i0.size + 0) ++ zs ++ cur.toList.drop (n * i0.size + 0 + zs.length)).toArray, ?_, ⟨hl', hz2', .inr ⟨g, cap, _, T, rfl, hg, setRow_heap w g cur _ T _ hh, hroom, hm, ?_, ?_⟩⟩, ?_, .inl rfl, fun b hb hne => setRow_other w g b _ (fun e => hne (by rw [e]; rfl))⟩
      · simp [Builtin.append_, run_underlying ht, sizeOf, typeInfo, hi, hs.len, hroom, hc, Addr.add_lit, hst]
      · rw [hz1]
        simp only [List.size_toArray, List.length_append, List.length_take, List.length_drop, Array.length_toList, Nat.add_zero]
        omega
      · rw [hz1]
        simp only [Nat.add_zero]
        rw [htk]
        exact List.take_left' hl'
      · exact (Below.refl _ _).grown (row := some g) ⟨rfl, rfl, rfl, by simp, fun j _ hj => setRow_other w g j _ (fun e => hj (by rw [e]))⟩ hbase (fun j hj => by cases hj; exact hg)
    · have holds : (Builtin.firstCells i0.size n (.slice (some ⟨g, 0, none⟩) n cap)).run Tryz.prog w.drew = .ok cs.toArray w.drew := by
        refine run_firstCells_some w.drew i0.size n ⟨g, 0, none⟩ n cap _ (by rw [hz1]; exact o1) ?_
        intro j u hj
        have ha : (⟨g, 0, none⟩ : Addr).add j = ⟨g, j, none⟩ := by unfold Addr.add; split <;> simp_all
        have e : cur[j]? = some u := by
          rw [← htk, List.getElem?_take] at hj
          split at hj
          · simpa using hj
          · cases hj
        rw [ha]
        show w.cell? _ = _
        simp only [World.cell?, hh, e]; rfl
      have hr := run_append_grow_src (P := Tryz.prog) w t t ty e i0 z ht hi hz0 (some ⟨g, 0, none⟩) n cap _ holds _ m _ (by rw [hz1]; exact hs) (by omega) (by omega) (by rw [hz2]; exact growslice_fits (by omega) hlen)
      exact ⟨_, _, hr, lay cap, (Below.refl _ _).drew.alloc hbase _, .inr rfl, fun b hb _ => heap_alloc_old _ _ hb⟩
/-- at the operation itself, in a region that keeps its order -/
theorem append_os2 {t e : TypeId} {k nb : Nat} {z : Value} (hel : El t e k nb z) {w : World} {ops : Array Oper} {rest : List Oper} {o : Oper} {act : Act} {Q : Exit → Act → World → Prop} (hgd : o.guard = none) (s x : Operand)
    (ho : o.op = .call { callee := .builtin .append, args := #[s, x], argTypes := #[t, t] })
    (base : Nat) (v : Value) (n : Nat) (cs : List Value) (hs : act.eval s = v) (hown : OS k w base v n cs) (ad : Option Addr) (m c : Nat) (zs : List Value) (hx : act.eval x = .slice ad m c) (hb : SV k w ad m zs)
    (hlen : (n + m) * nb ≤ 140737488355328) (hnm : n + m ≤ 140737488355328) (hbase : base ≤ w.heap.size)
    (h : ∀ v' w', OS k w' base v' (n + m) (cs ++ zs) → Below base w w' → (v'.ownBlock = v.ownBlock ∨ v'.ownBlock = some w.heap.size) → (∀ b, b < w.heap.size → v.ownBlock ≠ some b → w'.heap[b]? = w.heap[b]?) → wpList Tryz.prog ops Q rest (act.put o.dst v') w') : wpList Tryz.prog ops Q (o :: rest) act w := by
  obtain ⟨v', w', hr, h1, h2, h3, h4⟩ := run_append_os2 hel o.type base v n cs hown ad m c zs hb hlen hnm hbase
  refine wpList_plain hgd fun K hK => ?_
  unfold Oper.wp execOp
  simp only [ho, resolve, invoke, builtin, Sem.run_bind, Sem.run_pure, Result.andThen_ok, List.map_toArray, List.map_cons, List.map_nil, hs, hx, hr]
  exact hK _ _ (h v' w' h1 h2 h3 h4)
/-- the same, in a region that leaves its order open -/
theorem wp_append_os2 {t e : TypeId} {k nb : Nat} {z : Value} (hel : El t e k nb z) {w : World} {o : Oper} {act : Act} {K : Act → World → Prop} {Q : Exit → Act → World → Prop} (d : Option Tmp) (hd : o.dst = d) (s x : Operand)
    (ho : o.op = .call { callee := .builtin .append, args := #[s, x], argTypes := #[t, t] })
    (base : Nat) (v : Value) (n : Nat) (cs : List Value) (hs : act.eval s = v) (hown : OS k w base v n cs) (ad : Option Addr) (m c : Nat) (zs : List Value) (hx : act.eval x = .slice ad m c) (hb : SV k w ad m zs)
    (hlen : (n + m) * nb ≤ 140737488355328) (hnm : n + m ≤ 140737488355328) (hbase : base ≤ w.heap.size)
    (h : ∀ v' w', OS k w' base v' (n + m) (cs ++ zs) → Below base w w' → (v'.ownBlock = v.ownBlock ∨ v'.ownBlock = some w.heap.size) → (∀ b, b < w.heap.size → v.ownBlock ≠ some b → w'.heap[b]? = w.heap[b]?) → K (act.put d v') w') : o.wp Tryz.prog act w K Q := by
  obtain ⟨v', w', hr, h1, h2, h3, h4⟩ := run_append_os2 hel o.type base v n cs hown ad m c zs hb hlen hnm hbase
  subst hd
  unfold Oper.wp execOp
  simp only [ho, resolve, invoke, builtin, Sem.run_bind, Sem.run_pure, Result.andThen_ok, List.map_toArray, List.map_cons, List.map_nil, hs, hx, hr]
  exact h v' w' h1 h2 h3 h4
/-- a cell of a block that stays -/
theorem cell_block {w w' : World} {b i : Nat} {v : Value} (h : w'.heap[b]? = w.heap[b]?) (hc : w.cell? ⟨b, i, none⟩ = some v) : w'.cell? ⟨b, i, none⟩ = some v := by
  simp only [World.cell?, h] at hc ⊢; exact hc
end Go.Proofs.YtbfihajgjbpmaaaGreat
/- 'append(own, bytes...)', and that what lies in other blocks stays. -/
namespace Go.Proofs.YtbfihajgjbpmaaaGreat
open Go.ChangeShapes Go.WideShapes Go.ChangeAt Go.RowKit
set_option linter.unusedVariables false
set_option maxRecDepth 4000

abbrev bcells (l : List Int) : List Value := l.map (Value.int .u8)
theorem OW.os {w : World} {base : Nat} {v : Value} {bs : List Int} (h : OW w base v bs) : OS 1 w base v bs.length (bcells bs) := by
  refine ⟨by simp, oneCells bs, ?_⟩
  rcases h with ⟨rfl, rfl⟩ | ⟨g, cap, cur, T, rfl, hg, hh, hl, hm, hs, ht⟩
  · exact .inl ⟨rfl, rfl⟩
  · exact .inr ⟨g, cap, cur, T, rfl, hg, hh, hl, hm, by omega, by rw [Nat.mul_one]; exact ht⟩
theorem OS.ow {w : World} {base : Nat} {v : Value} {bs : List Int} {n : Nat} (h : OS 1 w base v n (bcells bs)) : OW w base v bs := by
  obtain ⟨h1, h2, h3⟩ := h
  have hn : bs.length = n := by simpa using h1
  subst hn
  rcases h3 with ⟨rfl, h0⟩ | ⟨g, cap, cur, T, rfl, hg, hh, hl, hm, hs, ht⟩
  · exact .inl ⟨rfl, List.eq_nil_of_length_eq_zero h0⟩
  · exact .inr ⟨g, cap, cur, T, rfl, hg, hh, hl, hm, by omega, by rw [Nat.mul_one] at ht; exact ht⟩
theorem BV.sv {w : World} {a : Option Addr} {n : Nat} {zs : List Int} (h : BV w a n zs) : SV 1 w a n (bcells zs) := by
  obtain ⟨h1, h2, h3⟩ := h
  refine ⟨by simpa using h1, oneCells zs, ?_⟩
  rcases h3 with h3 | ⟨b, off, rfl, hc⟩
  · exact .inl h3
  · refine .inr ⟨b, off, rfl, fun i u hi => ?_⟩
    have hil : i < zs.length := by
      rcases Nat.lt_or_ge i zs.length with h | h
      · exact h
      · rw [List.getElem?_eq_none (by simpa using h)] at hi; cases hi
    rw [hc i (by omega)]
    simp [bcells, hil] at hi ⊢
    exact hi
/-- at the operation itself, in a region that keeps its order -/
theorem append_ow2 {w : World} {ops : Array Oper} {rest : List Oper} {o : Oper} {act : Act} {Q : Exit → Act → World → Prop} (hgd : o.guard = none) (s x : Operand)
    (ho : o.op = .call { callee := .builtin .append, args := #[s, x], argTypes := #[26, 26] })
    (base : Nat) (v : Value) (bs : List Int) (hs : act.eval s = v) (hown : OW w base v bs) (ad : Option Addr) (m c : Nat) (zs : List Int) (hx : act.eval x = .slice ad m c) (hb : BV w ad m zs)
    (hlen : bs.length + m ≤ 140737488355328) (hbase : base ≤ w.heap.size)
    (h : ∀ v' w', OW w' base v' (bs ++ zs) → Below base w w' → (v'.ownBlock = v.ownBlock ∨ v'.ownBlock = some w.heap.size) → (∀ b, b < w.heap.size → v.ownBlock ≠ some b → w'.heap[b]? = w.heap[b]?) → wpList Tryz.prog ops Q rest (act.put o.dst v') w') : wpList Tryz.prog ops Q (o :: rest) act w :=
  append_os2 el_bytes hgd s x ho base v bs.length (bcells bs) hs hown.os ad m c (bcells zs) hx hb.sv (by omega) hlen hbase (fun v' w' h1 h2 h3 h4 => h v' w' (OS.ow (n := bs.length + m) (by rw [bcells, List.map_append]; exact h1)) h2 h3 h4)
theorem BV.other {w w' : World} {a : Option Addr} {n : Nat} {zs : List Int} (h : BV w a n zs) (hb : ∀ x, a = some x → x.block < w.heap.size → w'.heap[x.block]? = w.heap[x.block]?) : BV w' a n zs := by
  obtain ⟨h1, h2, h3⟩ := h
  refine ⟨h1, h2, ?_⟩
  rcases h3 with h3 | ⟨b, off, rfl, hc⟩
  · exact .inl h3
  · exact .inr ⟨b, off, rfl, fun i hi => cell_block (hb _ rfl (cell_lt (hc i hi))) (hc i hi)⟩
theorem SV.other {k : Nat} {w w' : World} {a : Option Addr} {n : Nat} {cs : List Value} (h : SV k w a n cs) (hb : ∀ x, a = some x → x.block < w.heap.size → w'.heap[x.block]? = w.heap[x.block]?) : SV k w' a n cs := by
  obtain ⟨h1, h2, h3⟩ := h
  refine ⟨h1, h2, ?_⟩
  rcases h3 with h3 | ⟨b, off, rfl, hc⟩
  · exact .inl h3
  · exact .inr ⟨b, off, rfl, fun i u hi => cell_block (hb _ rfl (cell_lt (hc i u hi))) (hc i u hi)⟩
end Go.Proofs.YtbfihajgjbpmaaaGreat
/- The bytes of a text as numbers: plain facts. -/
namespace Go.Proofs.YtbfihajgjbpmaaaGreat
open Go.ChangeShapes Go.WideShapes Go.ChangeAt Go.RowKit
set_option linter.unusedVariables false
set_option maxRecDepth 4000

/-- the bytes of a text -/
def nums (s : ByteArray) : List Int := s.data.toList.map fun b => (b.toNat : Int)
theorem nums_bytes (s : ByteArray) : ∀ z ∈ nums s, 0 ≤ z ∧ z ≤ 255 := by
  intro z hz
  obtain ⟨b, _, rfl⟩ := List.mem_map.1 hz
  have := b.toNat_lt
  omega
theorem nums_len (s : ByteArray) : (nums s).length = s.size := by rw [nums, List.length_map, Array.length_toList]; rfl
theorem str_nums (s : ByteArray) : strOfNums (nums s) = s := by
  have h : (strOfNums (nums s)).data.toList = s.data.toList := by
    rw [strOfNums_data, nums, List.map_map]
    exact (List.map_congr_left (fun b _ => by simp)).trans (List.map_id _)
  cases s
  generalize hq : strOfNums _ = q at h ⊢
  cases q
  simp only [ByteArray.mk.injEq]
  exact Array.ext' h
theorem nums_str {l : List Int} (h : ∀ z ∈ l, 0 ≤ z ∧ z ≤ 255) : nums (strOfNums l) = l := by
  rw [nums, strOfNums_data, List.map_map]
  refine (List.map_congr_left (fun z hz => ?_)).trans (List.map_id _)
  have := h z hz
  simp only [Function.comp, UInt8.toNat_ofNat', id]
  omega
theorem nums_inj {a b : ByteArray} (h : nums a = nums b) : a = b := by rw [← str_nums a, ← str_nums b, h]
end Go.Proofs.YtbfihajgjbpmaaaGreat
/- 'append(own, more...)' for whatever source (a slice, a text), and that what lies in other blocks stays; 'append(own, text...)'. -/
namespace Go.Proofs.YtbfihajgjbpmaaaGreat
open Go.ChangeShapes Go.WideShapes Go.ChangeAt Go.RowKit
set_option linter.unusedVariables false
set_option maxRecDepth 4000

theorem run_append_src2 {t e tx : TypeId} {k nb : Nat} {z : Value} (hel : El t e k nb z) {w : World} (ty : TypeId) (base : Nat) (v : Value) (n : Nat) (cs : List Value) (hown : OS k w base v n cs) (x : Value) (m : Nat) (zs : List Value) (hs : Src Tryz.prog k tx x m zs w)
    (hlen : (n + m) * nb ≤ 140737488355328) (hnm : n + m ≤ 140737488355328) (hbase : base ≤ w.heap.size) :
    ∃ v' w', (Builtin.append_ #[t, tx] ty #[v, x]).run Tryz.prog w = .ok v' w' ∧ OS k w' base v' (n + m) (cs ++ zs) ∧ Below base w w' ∧ (v'.ownBlock = v.ownBlock ∨ v'.ownBlock = some w.heap.size) ∧ (∀ b, b < w.heap.size → v.ownBlock ≠ some b → w'.heap[b]? = w.heap[b]?) := by
  obtain ⟨ht, hinfo, hzs, hk1⟩ := hel
  obtain ⟨i0, hi, hz0, hz1, hz2⟩ := info_parts hinfo
  obtain ⟨o1, o2, o3⟩ := hown
  have hzl : zs.length = m * k := hs.newsLen
  have hz2' : ∀ u ∈ cs ++ zs, u.oneCell' = true := fun u hu => (List.mem_append.1 hu).elim (o2 u) (hs.one u)
  have hl' : (cs ++ zs).length = (n + m) * k := by rw [List.length_append, o1, hzl, Nat.add_mul]
  have hml : n + m ≤ maxLen := by unfold maxLen; omega
  have lay : ∀ (old : Nat), OS k (w.drew.alloc (.cells ((cs ++ zs).toArray ++ Builtin.zeroCells z.cells (grownCap w (n + m) old e - (n + m))) e)) base (.slice (some ⟨w.heap.size, 0, none⟩) (n + m) (grownCap w (n + m) old e)) (n + m) (cs ++ zs) := by
    intro old
    have hge := grownCap_ge w (n + m) old e
    have hcm := grownCap_le_maxLen w (n + m) old e hml
    refine ⟨hl', hz2', .inr ⟨w.heap.size, _, _, e, rfl, hbase, heap_alloc_new w.drew _, hge, hcm, ?_, ?_⟩⟩
    · rw [Array.size_append, size_zeroCells, hzs]
      simp only [List.size_toArray, hl']
      rw [← Nat.add_mul]; congr 1; omega
    · rw [Array.toList_append]
      exact List.take_left' hl'
  rcases o3 with ⟨rfl, rfl⟩ | ⟨g, cap, cur, T, rfl, hg, hh, hl, hm, hsz, htk⟩
  · have hc0 : cs = [] := List.eq_nil_of_length_eq_zero (by omega)
    subst hc0
    by_cases h0 : m = 0
    · subst h0
      have hz : zs = [] := List.eq_nil_of_length_eq_zero (by omega)
      subst hz
      refine ⟨.slice none 0 0, w, ?_, ⟨by simp, by simp, .inl ⟨rfl, rfl⟩⟩, Below.refl _ _, .inl rfl, fun b _ _ => rfl⟩
      have hc := hs.cells
      rw [← hz1] at hc
      rcases hs.kind with ⟨e1, hk⟩ | hk <;> simp [Builtin.append_, run_underlying ht, run_underlying hk, sizeOf, typeInfo, hi, hs.len, hc]
    · have hr := run_append_grow_src (P := Tryz.prog) w t tx ty e i0 z ht hi hz0 none 0 0 [] (run_firstCells_none _ _ _ _ _) _ m _ (by rw [hz1]; exact hs) (by omega) (by omega) (by rw [hz2]; exact growslice_fits (by omega) (by simpa using hlen))
      exact ⟨_, _, hr, lay 0, (Below.refl _ _).drew.alloc hbase _, .inr rfl, fun b hb _ => heap_alloc_old _ _ hb⟩
  · by_cases hroom : n + m ≤ cap
    · have hfit : n * k + zs.length ≤ cur.size := by rw [hsz, hzl, ← Nat.add_mul]; exact Nat.mul_le_mul_right k hroom
      have hst := run_storeCells_at (P := Tryz.prog) g (n * i0.size) T zs 0 cur w hh (by rw [hz1]; simpa using hfit) hs.one
      have hc := hs.cells
      rw [← hz1] at hc
      refine ⟨.slice (some ⟨g, 0, none⟩) (n + m) cap, w.setRow g (cur.toList.take (n * i0.size + 0) ++ zs ++ cur.toList.drop (n * i0.size + 0 + zs.length)).toArray, ?_, ⟨hl', hz2', .inr ⟨g, cap, _, T, rfl, hg, setRow_heap w g cur _ T _ hh, hroom, hm, ?_, ?_⟩⟩, ?_, .inl rfl, fun b hb hne => setRow_other w g b _ (fun e => hne (by rw [e]; rfl))⟩
      · rcases hs.kind with ⟨e1, hk⟩ | hk <;> simp [Builtin.append_, run_underlying ht, run_underlying hk, sizeOf, typeInfo, hi, hs.len, hroom, hc, Addr.add_lit, hst]
      · rw [hz1]
        simp only [List.size_toArray, List.length_append, List.length_take, List.length_drop, Array.length_toList, Nat.add_zero]
        omega
      · rw [hz1]
        simp only [Nat.add_zero]
        rw [htk]
        exact List.take_left' hl'
      · exact (Below.refl _ _).grown (row := some g) ⟨rfl, rfl, rfl, by simp, fun j _ hj => setRow_other w g j _ (fun e => hj (by rw [e]))⟩ hbase (fun j hj => by cases hj; exact hg)
    · have holds : (Builtin.firstCells i0.size n (.slice (some ⟨g, 0, none⟩) n cap)).run Tryz.prog w.drew = .ok cs.toArray w.drew := by
        refine run_firstCells_some w.drew i0.size n ⟨g, 0, none⟩ n cap _ (by rw [hz1]; exact o1) ?_
        intro j u hj
        have ha : (⟨g, 0, none⟩ : Addr).add j = ⟨g, j, none⟩ := by unfold Addr.add; split <;> simp_all
        have e : cur[j]? = some u := by
          rw [← htk, List.getElem?_take] at hj
          split at hj
          · simpa using hj
          · cases hj
        rw [ha]
        show w.cell? _ = _
        simp only [World.cell?, hh, e]; rfl
      have hr := run_append_grow_src (P := Tryz.prog) w t tx ty e i0 z ht hi hz0 (some ⟨g, 0, none⟩) n cap _ holds _ m _ (by rw [hz1]; exact hs) (by omega) (by omega) (by rw [hz2]; exact growslice_fits (by omega) hlen)
      exact ⟨_, _, hr, lay cap, (Below.refl _ _).drew.alloc hbase _, .inr rfl, fun b hb _ => heap_alloc_old _ _ hb⟩
theorem byteCells_is (s : ByteArray) : byteCells s = bcells (nums s) := by
  unfold byteCells nums bcells
  rw [List.map_map]; rfl
theorem run_append_str {w : World} (ty : TypeId) (base : Nat) (v : Value) (bs : List Int) (hown : OW w base v bs) (s : ByteArray) (hlen : bs.length + s.size ≤ 140737488355328) (hbase : base ≤ w.heap.size) :
    ∃ v' w', (Builtin.append_ #[26, 9] ty #[v, .string s]).run Tryz.prog w = .ok v' w' ∧ OW w' base v' (bs ++ nums s) ∧ Below base w w' ∧ (v'.ownBlock = v.ownBlock ∨ v'.ownBlock = some w.heap.size) ∧ (∀ b, b < w.heap.size → v.ownBlock ≠ some b → w'.heap[b]? = w.heap[b]?) := by
  obtain ⟨v', w', h1, h2, h3⟩ := run_append_src2 el_bytes ty base v bs.length (bcells bs) hown.os (.string s) s.size (byteCells s) (Src.ofString w Tryz.underlying9 s) (by omega) hlen hbase
  refine ⟨v', w', h1, OS.ow (n := bs.length + s.size) ?_, h3⟩
  rw [bcells, List.map_append]
  rw [byteCells_is] at h2
  exact h2
/-- at the operation itself, in a region that keeps its order -/
theorem append_str {w : World} {ops : Array Oper} {rest : List Oper} {o : Oper} {act : Act} {Q : Exit → Act → World → Prop} (hgd : o.guard = none) (s x : Operand)
    (ho : o.op = .call { callee := .builtin .append, args := #[s, x], argTypes := #[26, 9] })
    (base : Nat) (v : Value) (bs : List Int) (hs : act.eval s = v) (hown : OW w base v bs) (t : ByteArray) (hx : act.eval x = .string t)
    (hlen : bs.length + t.size ≤ 140737488355328) (hbase : base ≤ w.heap.size)
    (h : ∀ v' w', OW w' base v' (bs ++ nums t) → Below base w w' → (v'.ownBlock = v.ownBlock ∨ v'.ownBlock = some w.heap.size) → (∀ b, b < w.heap.size → v.ownBlock ≠ some b → w'.heap[b]? = w.heap[b]?) → wpList Tryz.prog ops Q rest (act.put o.dst v') w') : wpList Tryz.prog ops Q (o :: rest) act w := by
  obtain ⟨v', w', hr, h1, h2, h3, h4⟩ := run_append_str o.type base v bs hown t hlen hbase
  refine wpList_plain hgd fun K hK => ?_
  unfold Oper.wp execOp
  simp only [ho, resolve, invoke, builtin, Sem.run_bind, Sem.run_pure, Result.andThen_ok, List.map_toArray, List.map_cons, List.map_nil, hs, hx, hr]
  exact hK _ _ (h v' w' h1 h2 h3 h4)
/-- the same, in a region that leaves its order open -/
theorem wp_append_str {w : World} {o : Oper} {act : Act} {K : Act → World → Prop} {Q : Exit → Act → World → Prop} (d : Option Tmp) (hd : o.dst = d) (s x : Operand)
    (ho : o.op = .call { callee := .builtin .append, args := #[s, x], argTypes := #[26, 9] })
    (base : Nat) (v : Value) (bs : List Int) (hs : act.eval s = v) (hown : OW w base v bs) (t : ByteArray) (hx : act.eval x = .string t)
    (hlen : bs.length + t.size ≤ 140737488355328) (hbase : base ≤ w.heap.size)
    (h : ∀ v' w', OW w' base v' (bs ++ nums t) → Below base w w' → (v'.ownBlock = v.ownBlock ∨ v'.ownBlock = some w.heap.size) → (∀ b, b < w.heap.size → v.ownBlock ≠ some b → w'.heap[b]? = w.heap[b]?) → K (act.put d v') w') : o.wp Tryz.prog act w K Q := by
  obtain ⟨v', w', hr, h1, h2, h3, h4⟩ := run_append_str o.type base v bs hown t hlen hbase
  subst hd
  unfold Oper.wp execOp
  simp only [ho, resolve, invoke, builtin, Sem.run_bind, Sem.run_pure, Result.andThen_ok, List.map_toArray, List.map_cons, List.map_nil, hs, hx, hr]
  exact h v' w' h1 h2 h3 h4
/-- the cells of some texts -/
def tcells (l : List ByteArray) : List Value := l.map Value.string
theorem tcells_one (l : List ByteArray) : ∀ u ∈ tcells l, u.oneCell' = true := by
  intro u hu
  obtain ⟨z, _, rfl⟩ := List.mem_map.1 hu
  rfl
theorem tcells_app (a b : List ByteArray) : tcells (a ++ b) = tcells a ++ tcells b := List.map_append
/-- the slice at A of n texts is l -/
abbrev TV (w : World) (A : Option Addr) (n : Nat) (l : List ByteArray) : Prop := SV 1 w A n (tcells l)
theorem TV.len {w : World} {A : Option Addr} {n : Nat} {l : List ByteArray} (h : TV w A n l) : l.length = n := by have := h.1; simpa [tcells] using this
theorem TV.at {w : World} {A : Option Addr} {n : Nat} {l : List ByteArray} (h : TV w A n l) (i : Nat) (hi : i < n) :
    ∃ b off, A = some ⟨b, off, none⟩ ∧ w.cell? ⟨b, off + i, none⟩ = some (.string (l.getD i ⟨#[]⟩)) := by
  have hl := TV.len h
  obtain ⟨h1, h2, h3⟩ := h
  rcases h3 with h3 | ⟨b, off, rfl, hc⟩
  · omega
  · refine ⟨b, off, rfl, hc i _ ?_⟩
    simp [tcells, show i < l.length by omega]
theorem TV.take {w : World} {A : Option Addr} {n : Nat} {l : List ByteArray} (h : TV w A n l) (m : Nat) (hm : m ≤ n) : TV w A m (l.take m) := by
  have := SV.take h m hm
  rwa [Nat.mul_one, tcells, ← List.map_take] at this
theorem take_snocT (l : List ByteArray) (j : Nat) (h : j < l.length) : l.take (j + 1) = l.take j ++ [l.getD j ⟨#[]⟩] := by
  rw [List.take_succ_eq_append_getElem h]; simp [List.getD, h]
section
variable {H : Type} {enc : TypeId × Value → H} {w : World} {base fuel : Nat} {spare : Nat → Bool} {held : Bool}
end
end Go.Proofs.YtbfihajgjbpmaaaGreat
/- How the statements' arguments come in: slices of texts. -/
namespace Go.Proofs.YtbfihajgjbpmaaaGreat
open Go.ChangeShapes Go.WideShapes Go.ChangeAt Go.RowKit
set_option linter.unusedVariables false
set_option maxRecDepth 4000

theorem el_texts : El 101 9 1 16 (.string ⟨#[]⟩) := ⟨Tryz.underlying101, by kernel_rfl, rfl, by omega⟩
section
variable {H : Type} {enc : TypeId × Value → H} {w : World} {base fuel : Nat} {spare : Nat → Bool} {held : Bool}
end
end Go.Proofs.YtbfihajgjbpmaaaGreat
/- Bytes: what they are, cut by a letter; a text behind a text. -/
namespace Go.Proofs.YtbfihajgjbpmaaaGreat
open Go.ChangeShapes Go.WideShapes Go.ChangeAt Go.RowKit
set_option linter.unusedVariables false
set_option maxRecDepth 4000

theorem BV.opened {w : World} {a : Option Addr} {n : Nat} {zs : List Int} (h : BV w a n zs) (hn : 1 ≤ n) : ∃ b off, a = some ⟨b, off, none⟩ ∧ ∀ i, i < n → w.cell? ⟨b, off + i, none⟩ = some (.int .u8 (zs.getD i 0)) := by
  rcases h.2.2 with h3 | h3
  · omega
  · exact h3
abbrev Byts (l : List Int) : Prop := ∀ z ∈ l, 0 ≤ z ∧ z ≤ 255
theorem byts_at {l : List Int} (h : Byts l) {j : Nat} (hj : j < l.length) : 0 ≤ l.getD j 0 ∧ l.getD j 0 ≤ 255 := by
  have := h (l[j]) (List.getElem_mem hj)
  simpa [List.getD, hj] using this
/-- the bytes from some one on, by a letter -/
theorem BV.slice_lo {w : World} {a : Option Addr} {n : Nat} {zs : List Int} (h : BV w a n zs) (k c : Nat) (hk : k ≤ n) (hc : n ≤ c) :
    ∃ a', (∀ wx, (Instr.slice 26 (.slice a n c) (some (.int .i64 (k : Int))) none none).run Tryz.prog wx = .ok (.slice a' (n - k) (c - k)) wx) ∧ BV w a' (n - k) (zs.drop k) := by
  refine ⟨_, fun wx => ?_, h.cutA k c hk hc⟩
  rw [run_slice_l wx 26 a n c underB .i64 (k : Int) (by omega) (by omega), sizeB]
  simp only [Result.andThen, sliced, Nat.mul_one, Int.toNat_natCast]
/-- the bytes up to some one, by a letter -/
theorem BV.slice_hi {w : World} {a : Option Addr} {n : Nat} {zs : List Int} (h : BV w a n zs) (k c : Nat) (hk : k ≤ n) (hc : n ≤ c) :
    ∃ a', (∀ wx, (Instr.slice 26 (.slice a n c) none (some (.int .i64 (k : Int))) none).run Tryz.prog wx = .ok (.slice a' k c) wx) ∧ BV w a' k (zs.take k) := by
  exact ⟨a, fun wx => by simpa using Go.Proofs.YtbfihajgjbpmaaaGreat.slice_hi a n c (k : Int) (by omega) (by omega) wx, h.take k hk⟩
/-- the bytes from some one up to another one -/
theorem BV.slice_lh {w : World} {a : Option Addr} {n : Nat} {zs : List Int} (h : BV w a n zs) (k m c : Nat) (hk : k ≤ m) (hm : m ≤ n) (hc : n ≤ c) :
    ∃ a', (∀ wx, (Instr.slice 26 (.slice a n c) (some (.int .i64 (k : Int))) (some (.int .i64 (m : Int))) none).run Tryz.prog wx = .ok (.slice a' (m - k) (c - k)) wx) ∧ BV w a' (m - k) ((zs.drop k).take (m - k)) := by
  refine ⟨_, fun wx => ?_, (h.cutA k c (by omega) hc).take (m - k) (by omega)⟩
  rw [run_slice_lh wx 26 a n c underB .i64 .i64 (k : Int) (m : Int) (by omega) (by omega) (by omega), sizeB]
  simp only [Result.andThen, sliced, Nat.mul_one, Int.toNat_natCast]
end Go.Proofs.YtbfihajgjbpmaaaGreat
/- Regions that leave their order open, of which something is known till one of their operations has come up (a store, an append): loads may be taken first till then. -/
namespace Go.Proofs.YtbfihajgjbpmaaaGreat
open Go.ChangeShapes Go.WideShapes Go.ChangeAt Go.RowKit
set_option linter.unusedVariables false
set_option maxRecDepth 4000

section
variable {P : Program} {ops : Array Oper} {Q : Exit → Act → World → Prop} {md : Region.Mode} {T U : World → Prop} {p : Nat}
/-- T holds, unless number p has come up -/
def Till (p : Nat) (T : World → Prop) (l : Array Bool) (w : World) : Prop := l.getD p false = true ∨ T w
/-- whatever order is picked from here on, and T holds behind every operation, till number p has come up -/
def wpAnyG (P : Program) (md : Region.Mode) (ops : Array Oper) (Q : Exit → Act → World → Prop) (p : Nat) (T : World → Prop) : Nat → Array Bool → Act → World → Prop
  | 0, l, a, w => Region.ready md ops l = [] ∧ Q .normal a w
  | fuel + 1, l, a, w =>
    (Region.ready md ops l = [] → Q .normal a w) ∧
    ∀ i ∈ Region.ready md ops l, wpOp P ops Q i (fun a' w' => Till p T (l.setIfInBounds i true) w' ∧ wpAnyG P md ops Q p T fuel (l.setIfInBounds i true) a' w') a w
theorem wpAny_of_G : ∀ (fuel : Nat) (l : Array Bool) (a : Act) (w : World), wpAnyG P md ops Q p T fuel l a w → wpAny P md ops Q fuel l a w
  | 0, _, _, _, h => h
  | fuel + 1, _, _, _, h => ⟨h.1, fun i hi => wpOp_mono (fun a' w' h' => wpAny_of_G fuel _ a' w' h'.2) (h.2 i hi)⟩
theorem wpAnyG_mono (hT : ∀ w, U w → T w) : ∀ (fuel : Nat) (l : Array Bool) (a : Act) (w : World), wpAnyG P md ops Q p U fuel l a w → wpAnyG P md ops Q p T fuel l a w
  | 0, _, _, _, h => h
  | fuel + 1, _, _, _, h => ⟨h.1, fun i hi => wpOp_mono (fun a' w' h' => ⟨h'.1.elim .inl (fun x => .inr (hT _ x)), wpAnyG_mono hT fuel _ a' w' h'.2⟩) (h.2 i hi)⟩
/-- what has come up has come up behind all that it waits for -/
def Closed (md : Region.Mode) (ops : Array Oper) (l : Array Bool) : Prop :=
  l.size = ops.size ∧ ∀ j o, ops[j]? = some o → l.getD j false = true → ∀ e ∈ o.after, Region.binds md e = true → l.getD e.on false = true
def closedB (md : Region.Mode) (ops : Array Oper) (l : Array Bool) : Bool :=
  l.size == ops.size && (List.range ops.size).all fun j => !l.getD j false || ((ops[j]?).map (·.after.all fun e => !Region.binds md e || l.getD e.on false)).getD true
theorem closed_of {l : Array Bool} (h : closedB md ops l = true) : Closed md ops l := by
  rw [closedB, Bool.and_eq_true, beq_iff_eq] at h
  refine ⟨h.1, ?_⟩
  intro j o ho hj e he hb
  have h1 := List.all_eq_true.1 h.2 j (List.mem_range.2 (Array.getElem?_eq_some_iff.1 ho).1)
  rw [ho, hj] at h1
  simp only [Bool.not_true, Bool.false_or, Option.map_some, Option.getD_some] at h1
  have h2 := Array.all_eq_true'.1 h1 e he
  rw [hb] at h2
  simpa using h2
theorem closed_step {l : Array Bool} {j : Nat} (hc : Closed md ops l) (hj : j ∈ Region.ready md ops l) : Closed md ops (l.setIfInBounds j true) := by
  refine ⟨by rw [Array.size_setIfInBounds]; exact hc.1, ?_⟩
  intro k o ho hk e he hb
  by_cases hjk : j = k
  · subst hjk
    obtain ⟨_, o', ho', hall⟩ := mem_ready.1 hj
    rw [ho] at ho'; cases ho'
    exact getD_set_true (hall e he hb)
  · rw [getD_set_ne false hjk] at hk
    exact getD_set_true (hc.2 k o ho hk e he hb)
/-- each of these waits for the next one -/
def hops (md : Region.Mode) (ops : Array Oper) : List Nat → Bool
  | a :: b :: r => ((ops[a]?).map (·.after.any fun e => Region.binds md e && e.on == b)).getD false && hops md ops (b :: r)
  | _ => true
theorem closed_hops {l : Array Bool} (hc : Closed md ops l) : ∀ (ks : List Nat) (a i : Nat), hops md ops (a :: ks) = true → (a :: ks).getLast? = some i → l.getD a false = true → l.getD i false = true
  | [], a, i, _, hl, h => by cases hl; exact h
  | b :: r, a, i, hh, hl, h => by
    rw [hops, Bool.and_eq_true] at hh
    refine closed_hops hc r b i hh.2 (by simpa using hl) ?_
    cases ho : ops[a]? with
    | none => rw [ho] at hh; simp at hh
    | some o =>
      rw [ho] at hh
      simp only [Option.map_some, Option.getD_some, Array.any_eq_true'] at hh
      obtain ⟨⟨e, he, hb⟩, _⟩ := hh
      simp only [Bool.and_eq_true, beq_iff_eq] at hb
      rw [← hb.2]
      exact hc.2 a o ho h e he hb.1
theorem wpAnyG_first {i : Nat} {oi : Oper} {v : Value} (hi : ops[i]? = some oi) (hsel : ∀ (j : Nat) (o : Oper) cs b, ops[j]? = some o → o.op ≠ .select cs b)
    (hQ : ∀ c a w, Q (.panic c) (a.put oi.dst v) w → Q (.panic c) a w) (hip : i ≠ p) (hU : ∀ l w, Closed md ops l → l.getD i true = false → Till p T l w → U w) :
    ∀ (fuel : Nat) (l : Array Bool) (a : Act) (w : World), Closed md ops l →
      (∀ j oj, ops[j]? = some oj → j ≠ i → l.getD j true = false → (∀ e ∈ oj.after, Region.binds md e = true → e.on ≠ i) → oi.apart ops oj = true) →
      i ∈ Region.ready md ops l → YieldsIf P ops U oi v a → Till p T l w →
      wpAnyG P md ops Q p T fuel (l.setIfInBounds i true) (a.put oi.dst v) w → wpAnyG P md ops Q p T (fuel + 1) l a w := by
  have up : ∀ {l : Array Bool} {w : World}, Till p T l w → Till p T (l.setIfInBounds i true) w := fun h => h.elim (fun h => .inl (getD_set_true h)) .inr
  intro fuel
  induction fuel with
  | zero =>
    intro l a w hc _ hr hy hS H
    refine ⟨fun h => (by rw [h] at hr; cases hr), fun j hj => ?_⟩
    by_cases hji : j = i
    · subst hji; exact hy.wpOp hi (hU l w hc (mem_ready.1 hr).1 hS) ⟨up hS, H⟩
    · have := ready_mono hj hji
      rw [H.1] at this
      cases this
  | succ fuel ih =>
    intro l a w hc hfree hr hy hS H
    refine ⟨fun h => (by rw [h] at hr; cases hr), fun j hj => ?_⟩
    by_cases hji : j = i
    · subst hji; exact hy.wpOp hi (hU l w hc (mem_ready.1 hr).1 hS) ⟨up hS, H⟩
    · have h1 := H.2 j (ready_mono hj hji)
      obtain ⟨hjun, oj, hoj, hall⟩ := mem_ready.1 hj
      have hnot : ∀ e ∈ oj.after, Region.binds md e = true → e.on ≠ i := fun e he hb heq => by
        have h1 := hall e he hb
        have h0 := (mem_ready.1 hr).1
        rw [heq] at h1
        rcases Nat.lt_or_ge i l.size with h' | h'
        · simp [h'] at h0 h1; rw [h0] at h1; cases h1
        · simp [Array.getElem?_eq_none h'] at h1
      have h2 := wpOp_putIf hoj (hfree j oj hoj hji hjun hnot) (fun cs b => hsel i oi cs b hi) (fun cs b => hsel j oj cs b hoj) hQ hy h1
      have hfree' : ∀ k ok, ops[k]? = some ok → k ≠ i → (l.setIfInBounds j true).getD k true = false →
          (∀ e ∈ ok.after, Region.binds md e = true → e.on ≠ i) → oi.apart ops ok = true := fun k ok hk hki hun hno => by
        refine hfree k ok hk hki ?_ hno
        by_cases hjk : j = k
        · subst hjk; exact hjun
        · rw [getD_set_ne true hjk] at hun; exact hun
      refine wpOp_mono (fun a' w' h3 => ?_) h2
      have hS' : Till p T (l.setIfInBounds j true) w' := h3.2.1.elim (fun h => .inl (by rw [Array.setIfInBounds_comm _ _ (Ne.symm hji), getD_set_ne false hip] at h; exact h)) .inr
      refine ⟨hS', ih (l.setIfInBounds j true) a' w' (closed_step hc hj) hfree' (ready_mono hr (Ne.symm hji)) h3.1 hS' ?_⟩
      rw [Array.setIfInBounds_comm _ _ hji]
      exact h3.2.2
/-- an operation that yields while T holds is taken first: number p waits for it -/
theorem take_g {i : Nat} {oi : Oper} {v : Value} {fuel : Nat} {l : Array Bool} {a : Act} {w : World} (ks : List Nat) (d : Option Tmp) (hi : ops[i]? = some oi)
    (hb : (Region.noSelect ops && Region.free md ops l i && (Region.ready md ops l).contains i && hops md ops (p :: ks) && (p :: ks).getLast? == some i && closedB md ops l && i != p) = true) (hd : oi.dst = d)
    (hQ : ∀ c a w, Q (.panic c) (a.put d v) w → Q (.panic c) a w) (hy : YieldsIf P ops T oi v a) (hS : Till p T l w)
    (h : wpAnyG P md ops Q p T fuel (l.setIfInBounds i true) (a.put d v) w) : wpAnyG P md ops Q p T (fuel + 1) l a w := by
  subst hd
  simp only [Bool.and_eq_true, beq_iff_eq, bne_iff_ne] at hb
  obtain ⟨⟨⟨⟨⟨⟨h1, h2⟩, h3⟩, h4⟩, h5⟩, h6⟩, h7⟩ := hb
  refine wpAnyG_first hi (Region.noSelect_spec h1) hQ h7 (fun l w hc hl hT => ?_) fuel l a w (closed_of h6) (Region.free_spec hi h2) (by simpa using h3) hy hS h
  rcases hT with hT | hT
  · have h8 := closed_hops hc ks p i h4 h5 hT
    rcases Nat.lt_or_ge i l.size with h' | h'
    · simp [h'] at h8 hl; rw [hl] at h8; cases h8
    · simp [Array.getElem?_eq_none h'] at h8
  · exact hT
/-- one that yields in whatever world -/
theorem take_w {i : Nat} {oi : Oper} {v : Value} {fuel : Nat} {l : Array Bool} {a : Act} {w : World} (d : Option Tmp) (hi : ops[i]? = some oi)
    (hb : (Region.noSelect ops && Region.free md ops l i && (Region.ready md ops l).contains i && closedB md ops l && i != p) = true) (hd : oi.dst = d)
    (hQ : ∀ c a w, Q (.panic c) (a.put d v) w → Q (.panic c) a w) (hy : YieldsIf P ops (fun _ => True) oi v a) (hS : Till p T l w)
    (h : wpAnyG P md ops Q p T fuel (l.setIfInBounds i true) (a.put d v) w) : wpAnyG P md ops Q p T (fuel + 1) l a w := by
  subst hd
  simp only [Bool.and_eq_true, bne_iff_ne] at hb
  obtain ⟨⟨⟨⟨h1, h2⟩, h3⟩, h6⟩, h7⟩ := hb
  exact wpAnyG_first hi (Region.noSelect_spec h1) hQ h7 (fun l w hc hl hT => trivial) fuel l a w (closed_of h6) (Region.free_spec hi h2) (by simpa using h3) hy hS h
/-- one that yields while T holds, where nothing ends T -/
theorem take_n {i : Nat} {oi : Oper} {v : Value} {fuel : Nat} {l : Array Bool} {a : Act} {w : World} (d : Option Tmp) (hi : ops[i]? = some oi)
    (hb : (Region.noSelect ops && Region.free md ops l i && (Region.ready md ops l).contains i && closedB md ops l && decide (ops.size ≤ p)) = true) (hd : oi.dst = d)
    (hQ : ∀ c a w, Q (.panic c) (a.put d v) w → Q (.panic c) a w) (hy : YieldsIf P ops T oi v a) (hS : Till p T l w)
    (h : wpAnyG P md ops Q p T fuel (l.setIfInBounds i true) (a.put d v) w) : wpAnyG P md ops Q p T (fuel + 1) l a w := by
  subst hd
  simp only [Bool.and_eq_true, decide_eq_true_eq] at hb
  obtain ⟨⟨⟨⟨h1, h2⟩, h3⟩, h6⟩, h7⟩ := hb
  have hio := (Array.getElem?_eq_some_iff.1 hi).1
  refine wpAnyG_first hi (Region.noSelect_spec h1) hQ (by omega) (fun l w hc hl hT => ?_) fuel l a w (closed_of h6) (Region.free_spec hi h2) (by simpa using h3) hy hS h
  rcases hT with hT | hT
  · rw [Array.getD_eq_getD_getElem?, Array.getElem?_eq_none (by rw [hc.1]; exact h7)] at hT; cases hT
  · exact hT
theorem Till.list {l : Array Bool} {w : World} (i : Nat) (h : Till p T l w) : Till p T (l.setIfInBounds i true) w := h.elim (fun h => .inl (getD_set_true h)) .inr
theorem done_g {l : Array Bool} {a : Act} {w : World} (hr : Region.ready md ops l = []) (h : Q .normal a w) : ∀ fuel, wpAnyG P md ops Q p T fuel l a w
  | 0 => ⟨hr, h⟩
  | _ + 1 => ⟨fun _ => h, by rw [hr]; simp⟩
theorem region_g {id : Nat} {a : Act} {w : World} (p : Nat) (T : World → Prop) (hm : P.follows .mixedOrders = true) (hT : T w.drew)
    (h : Till p T (Array.replicate ops.size false) w.drew → wpAnyG P .any ops Q p T ops.size (Array.replicate ops.size false) a w.drew) : (Code.region id ops true).wp P Q a w :=
  wp_region_any hm (wpAny_of_G _ _ _ _ (h (.inr hT)))
def AllReadyG (P : Program) (md : Region.Mode) (ops : Array Oper) (Q : Exit → Act → World → Prop) (p : Nat) (T : World → Prop) (fuel : Nat) (l : Array Bool) (a : Act) (w : World) (rs : List Nat) : Prop :=
  ∀ i ∈ rs, wpOp P ops Q i (fun a' w' => Till p T (l.setIfInBounds i true) w' ∧ wpAnyG P md ops Q p T fuel (l.setIfInBounds i true) a' w') a w
theorem AllReadyG.nil {fuel : Nat} {l : Array Bool} {a : Act} {w : World} : AllReadyG P md ops Q p T fuel l a w [] := fun _ h => by cases h
theorem AllReadyG.cons {fuel : Nat} {l : Array Bool} {a : Act} {w : World} {i : Nat} {o : Oper} {rs : List Nat} (ho : ops[i]? = some o)
    (h : ∀ K' : Act → World → Prop, Shut (∀ a w, Till p T (l.setIfInBounds i true) w → (Till p T (l.setIfInBounds i true) w → wpAnyG P md ops Q p T fuel (l.setIfInBounds i true) a w) → K' a w) → if Region.wanted o (yielded ops a.tmps) = true then Oper.wp P o a w K' Q else K' (a.put o.dst undef) w)
    (hs : AllReadyG P md ops Q p T fuel l a w rs) : AllReadyG P md ops Q p T fuel l a w (i :: rs) := fun j hj => by
  rcases List.mem_cons.1 hj with rfl | hj
  · exact wpOp_step ho (fun K' hK => h K' (fun a w hS hW => hK a w ⟨hS, hW hS⟩))
  · exact hs j hj
theorem ready_g {rs : List Nat} {fuel : Nat} {l : Array Bool} {a : Act} {w : World} (hr : Region.ready md ops l = rs) (hne : rs ≠ [])
    (h : AllReadyG P md ops Q p T fuel l a w rs) : wpAnyG P md ops Q p T (fuel + 1) l a w := ⟨fun h0 => absurd (hr ▸ h0) hne, hr ▸ h⟩
/-- from here on memory has at least what it has now -/
theorem now_g {V : World} {fuel : Nat} {l : Array Bool} {a : Act} {w : World} (he : Ext V w) (h : Till p (Ext w) l w → wpAnyG P md ops Q p (Ext w) fuel l a w) : wpAnyG P md ops Q p (Ext V) fuel l a w :=
  wpAnyG_mono (fun _ h' => he.trans h') fuel l a w (h (.inr (Ext.refl w)))
theorem now_t {V : World} {fuel : Nat} {l : Array Bool} {a : Act} {w : World} (hl : l.getD p false = false) (he : Till p (Ext V) l w) (h : Till p (Ext w) l w → wpAnyG P md ops Q p (Ext w) fuel l a w) : wpAnyG P md ops Q p (Ext V) fuel l a w :=
  now_g (he.elim (fun h => by rw [hl] at h; cases h) id) h
theorem Ext.low {V w w' : World} {base : Nat} (h : Ext V w) (hb : Below base w w') (hB : V.heap.size ≤ base) : Ext V w' := fun b i v hc => by
  have := cell_lt hc
  rw [hb.cell (p := ⟨b, i, none⟩) (by show b < base; omega)]; exact h b i v hc
theorem Till.get {l : Array Bool} {w : World} (h : Till p T l w) (hl : l.getD p false = false) : T w := h.elim (fun h => by rw [hl] at h; cases h) id
end
end Go.Proofs.YtbfihajgjbpmaaaGreat
/- Plain facts on values as they are written, and on their order: no Go in sight. -/
namespace Go.Proofs.YtbfihajgjbpmaaaGreat
set_option linter.unusedVariables false
set_option maxRecDepth 4000

/-- the order of numbers -/
def cmpI (a b : Int) : Int := if a < b then -1 else if b < a then 1 else 0
/-- the order of texts -/
def cmpL : List Int → List Int → Int
  | [], [] => 0
  | [], _ :: _ => -1
  | _ :: _, [] => 1
  | a :: l, b :: r => if a < b then -1 else if b < a then 1 else cmpL l r
theorem cmpL_range : ∀ a b, cmpL a b = -1 ∨ cmpL a b = 0 ∨ cmpL a b = 1
  | [], [] => by simp [cmpL]
  | [], _ :: _ => by simp [cmpL]
  | _ :: _, [] => by simp [cmpL]
  | a :: l, b :: r => by
    rw [cmpL]
    split
    · simp
    · split
      · simp
      · exact cmpL_range l r
theorem cmpL_eq : ∀ a b, cmpL a b = 0 ↔ a = b
  | [], [] => by simp [cmpL]
  | [], _ :: _ => by simp [cmpL]
  | _ :: _, [] => by simp [cmpL]
  | a :: l, b :: r => by
    rw [cmpL, List.cons.injEq]
    split
    · constructor <;> intro h <;> omega
    · split
      · constructor <;> intro h <;> omega
      · rw [cmpL_eq l r]
        constructor
        · intro h; exact ⟨by omega, h⟩
        · intro h; exact h.2
theorem cmpL_anti : ∀ a b, cmpL b a = - cmpL a b
  | [], [] => by simp [cmpL]
  | [], _ :: _ => by simp [cmpL]
  | _ :: _, [] => by simp [cmpL]
  | a :: l, b :: r => by
    rw [cmpL, cmpL]
    by_cases h1 : a < b
    · rw [if_neg (by omega), if_pos h1, if_pos h1]; rfl
    · by_cases h2 : b < a
      · rw [if_pos h2, if_neg h1, if_pos h2]
      · rw [if_neg h2, if_neg h1, if_neg h1, if_neg h2, cmpL_anti l r]
theorem cmpL_trans : ∀ a b c, cmpL a b ≤ 0 → cmpL b c ≤ 0 → cmpL a c ≤ 0
  | [], _, [], _, _ => by simp [cmpL]
  | [], _, _ :: _, _, _ => by simp [cmpL]
  | _ :: _, [], _, h, _ => by simp [cmpL] at h
  | _ :: _, _ :: _, [], _, h => by simp [cmpL] at h
  | a :: l, b :: r, c :: s, h1, h2 => by
    rw [cmpL] at h1 h2 ⊢
    have ih := cmpL_trans l r s
    by_cases e1 : a < b
    · by_cases e2 : b < c
      · rw [if_pos (by omega)]; omega
      · rw [if_neg e2] at h2
        by_cases e3 : c < b
        · rw [if_pos e3] at h2; omega
        · rw [if_pos (by omega)]; omega
    · rw [if_neg e1] at h1
      by_cases e2 : b < a
      · rw [if_pos e2] at h1; omega
      · rw [if_neg e2] at h1
        by_cases e3 : b < c
        · rw [if_pos (by omega)]; omega
        · rw [if_neg e3] at h2
          by_cases e4 : c < b
          · rw [if_pos e4] at h2; omega
          · rw [if_neg e4] at h2
            rw [if_neg (by omega), if_neg (by omega)]
            exact ih h1 h2
end Go.Proofs.YtbfihajgjbpmaaaGreat
/- Plain facts on schemas: how they are put, that they are put in one way, the order of rows. -/
namespace Go.Proofs.YtbfihajgjbpmaaaGreat
set_option linter.unusedVariables false
set_option maxRecDepth 4000

/-- numbers, one behind the other -/
def joinN : List Int → List Int
  | [] => []
  | x :: l => pv x ++ joinN l
theorem joinN_app : ∀ a b, joinN (a ++ b) = joinN a ++ joinN b
  | [], b => rfl
  | x :: a, b => by rw [List.cons_append, joinN, joinN, joinN_app a b, List.append_assoc]
theorem joinN_one (x : Int) : joinN [x] = pv x := by simp [joinN]
abbrev U64s (l : List Int) : Prop := ∀ x ∈ l, 0 ≤ x ∧ x ≤ 18446744073709551615
/-- a number is cut off in one way -/
theorem pv_cut {x y : Int} {a b : List Int} (hx : 0 ≤ x ∧ x ≤ 18446744073709551615) (hy : 0 ≤ y ∧ y ≤ 18446744073709551615) (h : pv x ++ a = pv y ++ b) : x = y ∧ a = b := by
  have h1 := varR_put x a hx.1 hx.2
  have h2 := varR_put y b hy.1 hy.2
  rw [h, h2] at h1
  have hxy : x = y := by have := congrArg Prod.fst h1; simpa using this.symm
  subst hxy
  exact ⟨rfl, List.append_cancel_left h⟩
theorem joinN_inj : ∀ (a b : List Int), U64s a → U64s b → joinN a = joinN b → a = b
  | [], [], _, _, _ => rfl
  | [], y :: b, _, _, h => by
    have := pv_pos y
    have hl := congrArg List.length h
    rw [joinN, joinN, List.length_append] at hl
    simp only [List.length_nil] at hl; omega
  | x :: a, [], _, _, h => by
    have := pv_pos x
    have hl := congrArg List.length h
    rw [joinN, joinN, List.length_append] at hl
    simp only [List.length_nil] at hl; omega
  | x :: a, y :: b, ha, hb, h => by
    rw [joinN, joinN] at h
    obtain ⟨e1, e2⟩ := pv_cut (ha x (List.mem_cons_self ..)) (hb y (List.mem_cons_self ..)) h
    rw [e1, joinN_inj a b (fun z hz => ha z (List.mem_cons_of_mem _ hz)) (fun z hz => hb z (List.mem_cons_of_mem _ hz)) e2]
theorem joinN_len : ∀ (l : List Int), l.length ≤ (joinN l).length
  | [] => Nat.le_refl _
  | x :: l => by
    have := joinN_len l
    have := pv_pos x
    rw [joinN, List.length_append, List.length_cons]; omega
/-- the numbers of a schema -/
def schemaN (ts : List Int) (keys mode grain : Int) : List Int := (ts.length : Int) :: (ts ++ [keys, mode, grain])
/-- how a schema is put -/
def putS (ts : List Int) (keys mode grain : Int) : List Int := joinN (schemaN ts keys mode grain)
/-- whether a schema may be -/
def checkB (ts : List Int) (keys mode grain : Int) : Bool :=
  decide (1 ≤ ts.length ∧ ts.length ≤ 64 ∧ 1 ≤ keys ∧ keys ≤ (ts.length : Int) ∧ 1 ≤ mode ∧ mode ≤ 3 ∧ 1 ≤ grain ∧ grain ≤ 64 ∧ ∀ x ∈ ts, 1 ≤ x ∧ x ≤ 3)
theorem check_is {ts : List Int} {keys mode grain : Int} (h : checkB ts keys mode grain = true) :
    1 ≤ ts.length ∧ ts.length ≤ 64 ∧ 1 ≤ keys ∧ keys ≤ (ts.length : Int) ∧ 1 ≤ mode ∧ mode ≤ 3 ∧ 1 ≤ grain ∧ grain ≤ 64 ∧ ∀ x ∈ ts, 1 ≤ x ∧ x ≤ 3 := of_decide_eq_true h
theorem schemaN_u64 {ts : List Int} {keys mode grain : Int} (h : checkB ts keys mode grain = true) : U64s (schemaN ts keys mode grain) := by
  obtain ⟨h1, h2, h3, h4, h5, h6, h7, h8, h9⟩ := check_is h
  intro x hx
  simp only [schemaN, List.mem_cons, List.mem_append, List.not_mem_nil, or_false] at hx
  rcases hx with rfl | hx | rfl | rfl | rfl
  · omega
  · have := h9 x hx; omega
  · omega
  · omega
  · omega
theorem schemaN_inj {ts us : List Int} {k1 m1 g1 k2 m2 g2 : Int} (h : schemaN ts k1 m1 g1 = schemaN us k2 m2 g2) : ts = us ∧ k1 = k2 ∧ m1 = m2 ∧ g1 = g2 := by
  simp only [schemaN, List.cons.injEq] at h
  obtain ⟨hl, h⟩ := h
  have hl' : ts.length = us.length := by omega
  obtain ⟨e1, e2⟩ := List.append_inj h hl'
  simp only [List.cons.injEq, and_true] at e2
  exact ⟨e1, e2⟩
/-- a schema that may be is put in one way -/
theorem putS_inj {ts us : List Int} {k1 m1 g1 k2 m2 g2 : Int} (h1 : checkB ts k1 m1 g1 = true) (h2 : checkB us k2 m2 g2 = true) (h : putS ts k1 m1 g1 = putS us k2 m2 g2) : ts = us ∧ k1 = k2 ∧ m1 = m2 ∧ g1 = g2 :=
  schemaN_inj (joinN_inj _ _ (schemaN_u64 h1) (schemaN_u64 h2) h)
/-- the order of rows, by an order of each column's values -/
def cmpRow {α : Type} (c : Int → α → α → Int) : List Int → List α → List α → Int
  | t :: ts, a :: l, b :: r => if c t a b = 0 then cmpRow c ts l r else c t a b
  | _, _, _ => 0
/-- a row has a value of each column that is one -/
def OkR {α : Type} (ok : Int → α → Prop) : List Int → List α → Prop
  | [], _ => True
  | _ :: _, [] => False
  | t :: ts, a :: l => ok t a ∧ OkR ok ts l
/-- what an order of values has -/
structure OrdC {α : Type} (ok : Int → α → Prop) (c : Int → α → α → Int) : Prop where
  anti : ∀ t a b, ok t a → ok t b → c t b a = - c t a b
  down : ∀ t a b d, ok t a → ok t b → ok t d → c t a b ≤ 0 → c t b d ≤ 0 → c t a d ≤ 0
  zero : ∀ t a b d, ok t a → ok t b → ok t d → c t a b = 0 → c t a d = c t b d
theorem cmpRow_down {α : Type} {ok : Int → α → Prop} {c : Int → α → α → Int} (hc : OrdC ok c) : ∀ ts l r q, OkR ok ts l → OkR ok ts r → OkR ok ts q → cmpRow c ts l r ≤ 0 → cmpRow c ts r q ≤ 0 → cmpRow c ts l q ≤ 0
  | [], l, r, q, _, _, _, _, _ => by simp [cmpRow]
  | t :: ts, [], r, q, h, _, _, _, _ => by simp [OkR] at h
  | t :: ts, a :: l, [], q, _, h, _, _, _ => by simp [OkR] at h
  | t :: ts, a :: l, b :: r, [], _, _, h, _, _ => by simp [OkR] at h
  | t :: ts, a :: l, b :: r, d :: q, ⟨oa, ol⟩, ⟨ob, or⟩, ⟨od, oq⟩, h1, h2 => by
    have ih := cmpRow_down hc ts l r q ol or oq
    rw [cmpRow] at h1 h2 ⊢
    by_cases x0 : c t a b = 0
    · rw [if_pos x0] at h1
      have hz := hc.zero t a b d oa ob od x0
      rw [hz]
      by_cases y0 : c t b d = 0
      · rw [if_pos y0] at h2 ⊢; exact ih h1 h2
      · rw [if_neg y0] at h2 ⊢; exact h2
    · rw [if_neg x0] at h1
      by_cases y0 : c t b d = 0
      · have e1 := hc.zero t b d a ob od oa y0
        have e2 := hc.anti t a b oa ob
        have e3 := hc.anti t a d oa od
        rw [if_neg (by omega)]; omega
      · rw [if_neg y0] at h2
        have hz := hc.down t a b d oa ob od h1 h2
        by_cases z0 : c t a d = 0
        · have e1 := hc.zero t a d b oa od ob z0
          have e2 := hc.anti t b d ob od
          omega
        · rw [if_neg z0]; exact hz
theorem joinN_snoc (l : List Int) (x : Int) : joinN (l ++ [x]) = joinN l ++ pv x := by rw [joinN_app, joinN_one]
end Go.Proofs.YtbfihajgjbpmaaaGreat
/- Slices of whatever elements, cut by a letter. -/
namespace Go.Proofs.YtbfihajgjbpmaaaGreat
open Go.ChangeShapes Go.WideShapes Go.ChangeAt Go.RowKit
set_option linter.unusedVariables false
set_option maxRecDepth 4000

/-- t is a type of slices, whose elements have k cells -/
structure Sl (t : TypeId) (k : Nat) : Prop where
  under : Tryz.prog.underlying t = some (.slice (Tryz.prog.elem t))
  size : ∀ w : World, (sizeOf (Tryz.prog.elem t)).run Tryz.prog w = .ok k w
theorem SV.cutA {k : Nat} {w : World} {A : Option Addr} {n : Nat} {cs : List Value} (h : SV k w A n cs) (i c : Nat) (hi : i ≤ n) (hc : n ≤ c) :
    SV k w (if c = i then A else Option.map (fun x => x.add (i * k)) A) (n - i) (cs.drop (i * k)) := by
  rcases h.2.2 with h3 | ⟨b, off, rfl, _⟩
  · have h1 := h.1
    have e : cs = [] := List.eq_nil_of_length_eq_zero (by rw [h1, h3, Nat.zero_mul])
    subst e
    rw [List.drop_nil, show n - i = 0 by omega]
    exact SV.zero _ _
  · have ha : (⟨b, off, none⟩ : Addr).add (i * k) = ⟨b, off + i * k, none⟩ := by unfold Addr.add; split <;> simp_all
    split
    · have h1 := h.1
      have e : cs.drop (i * k) = [] := List.drop_eq_nil_of_le (by rw [h1]; exact Nat.mul_le_mul_right k (by omega))
      rw [e, show n - i = 0 by omega]
      exact SV.zero _ _
    · rw [Option.map_some, ha]
      exact h.drop i hi
theorem SV.slice_lo {t : TypeId} {k : Nat} (hs : Sl t k) {w : World} {A : Option Addr} {n : Nat} {cs : List Value} (h : SV k w A n cs) (i c : Nat) (hi : i ≤ n) (hc : n ≤ c) :
    ∃ a', (∀ wx, (Instr.slice t (.slice A n c) (some (.int .i64 (i : Int))) none none).run Tryz.prog wx = .ok (.slice a' (n - i) (c - i)) wx) ∧ SV k w a' (n - i) (cs.drop (i * k)) := by
  refine ⟨_, fun wx => ?_, h.cutA i c hi hc⟩
  rw [run_slice_l wx t A n c hs.under .i64 (i : Int) (by omega) (by omega), hs.size]
  simp only [Result.andThen, sliced, Int.toNat_natCast]
theorem SV.slice_hi {t : TypeId} {k : Nat} (hs : Sl t k) {w : World} {A : Option Addr} {n : Nat} {cs : List Value} (h : SV k w A n cs) (i c : Nat) (hi : i ≤ n) (hc : n ≤ c) :
    ∃ a', (∀ wx, (Instr.slice t (.slice A n c) none (some (.int .i64 (i : Int))) none).run Tryz.prog wx = .ok (.slice a' i c) wx) ∧ SV k w a' i (cs.take (i * k)) := by
  refine ⟨A, fun wx => ?_, h.take i hi⟩
  rw [run_slice_h wx t A n c hs.under .i64 (i : Int) (by omega) (by omega), hs.size]
  simp only [Result.andThen, sliced, Nat.zero_mul, Nat.sub_zero, Int.toNat_natCast]
  have : (A.map fun x => x.add 0) = A := by cases A <;> simp [addr_zero]
  rw [this]
  split <;> rfl
end Go.Proofs.YtbfihajgjbpmaaaGreat
/- Slices of rows of the call's own. -/
namespace Go.Proofs.YtbfihajgjbpmaaaGreat
open Go.ChangeShapes Go.WideShapes Go.ChangeAt Go.RowKit
set_option linter.unusedVariables false
set_option maxRecDepth 4000

/-- v is a row, and does not lie in block k -/
def RO (w : World) (k : Option Nat) (v : Value) (vs : List (Int × ByteArray)) : Prop :=
  RowAt w v vs ∧ ∀ A L C, v = .slice A L C → L = 0 ∨ ∀ x, A = some x → k ≠ some x.block
theorem row_keep {w w' : World} {v : Value} {vs : List (Int × ByteArray)} {k : Option Nat} (h : RO w k v vs) (hs : ∀ b, b < w.heap.size → k ≠ some b → w'.heap[b]? = w.heap[b]?) : RowAt w' v vs := by
  obtain ⟨⟨A, L, C, hv, h1, h2, h3, h4, h5⟩, ho⟩ := h
  refine ⟨A, L, C, hv, h1, h2, h3, ?_, h5⟩
  obtain ⟨q1, q2, q3⟩ := h4
  refine ⟨q1, q2, ?_⟩
  rcases q3 with q3 | ⟨b, off, rfl, hc⟩
  · exact .inl q3
  · rcases ho _ _ _ hv with h0 | hne
    · exact .inl h0
    · refine .inr ⟨b, off, rfl, fun i u hi => ?_⟩
      have hcell := hc i u hi
      exact cell_block (hs b (cell_lt hcell) (hne _ rfl)) hcell
theorem RO.keep {w w' : World} {v : Value} {vs : List (Int × ByteArray)} {k k' : Option Nat} (h : RO w k v vs) (hs : ∀ b, b < w.heap.size → k ≠ some b → w'.heap[b]? = w.heap[b]?) (hk : k' = k ∨ k' = some w.heap.size) : RO w' k' v vs := by
  refine ⟨row_keep h hs, fun A L C hv => ?_⟩
  obtain ⟨⟨A1, L1, C1, hv1, h1, h2, h3, h4, h5⟩, ho⟩ := h
  rcases ho A L C hv with h0 | hne
  · exact .inl h0
  · rcases hk with rfl | rfl
    · exact .inr hne
    · by_cases hL : L = 0
      · exact .inl hL
      · refine .inr fun x hx h => ?_
        rw [hv1] at hv
        cases hv
        rcases h4.2.2 with q | ⟨b, off, rfl, hc⟩
        · exact hL q
        · cases hx
          have hl := h4.1
          have : 0 < (vcells vs).length := by rw [hl]; omega
          have hlt := cell_lt (hc 0 _ (List.getElem?_eq_getElem this))
          simp at h
          omega
theorem RO.below {w w' : World} {v : Value} {vs : List (Int × ByteArray)} {k : Option Nat} (h : RO w k v vs) (hb : Below w.heap.size w w') : RO w' k v vs := ⟨h.1.below hb, h.2⟩
/-- a row of the call's own that is younger than block k -/
theorem RO.own {w : World} {base : Nat} {v : Value} {n : Nat} {vs : List (Int × ByteArray)} {k : Option Nat} (h : OS 2 w base v n (vcells vs)) (hk : ∀ b, k = some b → b < base) : RO w k v vs := by
  have hl : vs.length = n := by have := h.1; rw [vcells_len] at this; omega
  obtain ⟨a, c, rfl, h1, h2, h3, h4, h5⟩ := h.sv
  refine ⟨⟨a, n, c, rfl, h1, h2, hl, h3, fun ha => ?_⟩, fun A L C hv => ?_⟩
  · subst ha
    rcases h.2.2 with ⟨h6, _⟩ | ⟨g, cap, cur, T, h6, _⟩
    · cases h6; rfl
    · cases h6
  · cases hv
    refine .inr fun x hx hkx => ?_
    have := hk _ hkx
    have := h4 x hx
    omega
/-- v holds the rows vss, in memory of the call's own -/
def OwnRows (w : World) (base : Nat) (v : Value) (j : Nat) (vss : List (List (Int × ByteArray))) : Prop :=
  ∃ cs, OS 1 w base v j cs ∧ vss.length = j ∧ ∀ i, i < j → RO w v.ownBlock (cs.getD i undef) (vss.getD i [])
theorem OwnRows.below {w w' : World} {base : Nat} {v : Value} {j : Nat} {vss : List (List (Int × ByteArray))} (h : OwnRows w base v j vss) (hb : Below w.heap.size w w') : OwnRows w' base v j vss := by
  obtain ⟨cs, h1, h2, h3⟩ := h
  exact ⟨cs, h1.below hb, h2, fun i hi => (h3 i hi).below hb⟩
theorem OwnRows.lt {w : World} {base : Nat} {v : Value} {j : Nat} {vss : List (List (Int × ByteArray))} (h : OwnRows w base v j vss) : ∀ b, v.ownBlock = some b → b < w.heap.size := by
  obtain ⟨cs, ⟨_, _, h3⟩, _⟩ := h
  intro b hb
  rcases h3 with ⟨rfl, _⟩ | ⟨g, cap, cur, T, rfl, hg, hh, _⟩
  · cases hb
  · cases hb; exact heap_lt hh
theorem OwnRows.rvs {w : World} {base : Nat} {v : Value} {j : Nat} {vss : List (List (Int × ByteArray))} (h : OwnRows w base v j vss) : ∃ a c, v = .slice a j c ∧ RVs w a j vss := by
  obtain ⟨cs, h1, h2, h3⟩ := h
  obtain ⟨a, c, rfl, q1, q2, q3, q4, q5⟩ := h1.sv
  refine ⟨a, c, rfl, h2, ?_⟩
  rcases q3.2.2 with q | ⟨b, off, rfl, hc⟩
  · exact .inl q
  · refine .inr ⟨b, off, rfl, fun i hi => ?_⟩
    have hl : i < cs.length := by rw [h1.1]; omega
    refine ⟨cs.getD i undef, hc i _ (by simp [List.getD, hl]), (h3 i hi).1⟩
/-- one more row behind them -/
theorem OwnRows.snoc {w w' : World} {base : Nat} {v v' r : Value} {j : Nat} {vss : List (List (Int × ByteArray))} {cs : List Value} {vs : List (Int × ByteArray)} (h1 : OS 1 w' base v' (j + 1) (cs ++ [r])) (hl : vss.length = j) (hcl : cs.length = j)
    (h3 : ∀ i, i < j → RO w v.ownBlock (cs.getD i undef) (vss.getD i [])) (hr : RO w v.ownBlock r vs) (hk : v'.ownBlock = v.ownBlock ∨ v'.ownBlock = some w.heap.size) (hs : ∀ b, b < w.heap.size → v.ownBlock ≠ some b → w'.heap[b]? = w.heap[b]?) : OwnRows w' base v' (j + 1) (vss ++ [vs]) := by
  refine ⟨cs ++ [r], h1, by simp [hl], fun i hi => ?_⟩
  by_cases hij : i < j
  · have e1 : (cs ++ [r]).getD i undef = cs.getD i undef := by rw [List.getD_eq_getElem?_getD, List.getElem?_append_left (by omega), ← List.getD_eq_getElem?_getD]
    have e2 : (vss ++ [vs]).getD i [] = vss.getD i [] := by rw [List.getD_eq_getElem?_getD, List.getElem?_append_left (by omega), ← List.getD_eq_getElem?_getD]
    rw [e1, e2]
    exact (h3 i hij).keep hs hk
  · obtain rfl : i = j := by omega
    have e1 : (cs ++ [r]).getD i undef = r := by simp [List.getD, ← hcl]
    have e2 : (vss ++ [vs]).getD i [] = vs := by simp [List.getD, ← hl]
    rw [e1, e2]
    exact hr.keep hs hk
/-- a step that leaves what is known of a row -/
theorem RO.still {w w' : World} {v : Value} {vs : List (Int × ByteArray)} {k : Option Nat} (h : RO w k v vs) (h' : RowAt w' v vs) : RO w' k v vs := ⟨h', h.2⟩
end Go.Proofs.YtbfihajgjbpmaaaGreat
/- What is not of some blocks stays as it was. -/
namespace Go.Proofs.YtbfihajgjbpmaaaGreat
open Go.ChangeShapes Go.WideShapes Go.ChangeAt Go.RowKit
set_option linter.unusedVariables false
set_option maxRecDepth 4000

/-- what is not of F stays -/
structure Kp (F : Nat → Prop) (w w' : World) : Prop where
  os : w'.os = w.os
  tape : w'.tape = w.tape
  output : w'.output = w.output
  size : w.heap.size ≤ w'.heap.size
  block : ∀ b, b < w.heap.size → ¬ F b → w'.heap[b]? = w.heap[b]?
theorem Kp.refl (F : Nat → Prop) (w : World) : Kp F w w := ⟨rfl, rfl, rfl, Nat.le_refl _, fun _ _ _ => rfl⟩
theorem Kp.trans {F : Nat → Prop} {a b c : World} (h : Kp F a b) (k : Kp F b c) : Kp F a c :=
  ⟨k.os.trans h.os, k.tape.trans h.tape, k.output.trans h.output, Nat.le_trans h.size k.size, fun i hi hn => (k.block i (Nat.lt_of_lt_of_le hi h.size) hn).trans (h.block i hi hn)⟩
theorem Kp.mono {F F' : Nat → Prop} {w w' : World} (h : Kp F w w') (hF : ∀ b, b < w.heap.size → F b → F' b) : Kp F' w w' :=
  ⟨h.os, h.tape, h.output, h.size, fun i hi hn => h.block i hi (fun x => hn (hF i hi x))⟩
theorem Kp.drew {F : Nat → Prop} {a w : World} (h : Kp F a w) : Kp F a w.drew := ⟨h.os, h.tape, h.output, h.size, h.block⟩
theorem Kp.alloc {F : Nat → Prop} {a w : World} (h : Kp F a w) (o : Obj) : Kp F a (w.alloc o) :=
  ⟨h.os, h.tape, h.output, by have := h.size; show _ ≤ (w.heap.push o).size; simp; omega, fun i hi hn => (Below.heap_alloc w o i (Nat.lt_of_lt_of_le hi h.size)).trans (h.block i hi hn)⟩
theorem Kp.setCell {F : Nat → Prop} {a w : World} (h : Kp F a w) {b i : Nat} (hb : F b ∨ a.heap.size ≤ b) (u : Value) : Kp F a (w.setCell ⟨b, i, none⟩ u) :=
  ⟨h.os, h.tape, h.output, by have := h.size; rw [size_set]; exact this, fun j hj hn => (Below.heap_setCell _ _ _ _ (by rintro rfl; rcases hb with hb | hb; exact hn hb; show False; have : a.heap.size ≤ j := hb; omega)).trans (h.block j hj hn)⟩
theorem Kp.grown {F : Nat → Prop} {a w w' : World} {row : Option Nat} (h : Kp F a w) (hg : w.grownBy w' row) (hr : ∀ k, row = some k → F k ∨ a.heap.size ≤ k) : Kp F a w' :=
  ⟨hg.os.trans h.os, hg.tape.trans h.tape, hg.output.trans h.output, Nat.le_trans h.size hg.size, fun i hi hn => (hg.block i (Nat.lt_of_lt_of_le hi h.size) (fun e => by rcases hr i e.symm with hk | hk; exact hn hk; omega)).trans (h.block i hi hn)⟩
/-- 'Below' of what keeps all below -/
theorem Kp.below {F : Nat → Prop} {w w' : World} {base : Nat} (h : Kp F w w') (hF : ∀ b, F b → base ≤ b) (hb : base ≤ w.heap.size) : Below base w w' :=
  ⟨h.os, h.tape, h.output, h.size, fun i hi => h.block i (by omega) (fun x => by have := hF i x; omega)⟩
theorem Kp.cell {F : Nat → Prop} {w w' : World} (h : Kp F w w') {b i : Nat} {v : Value} (hc : w.cell? ⟨b, i, none⟩ = some v) (hb : ¬ F b) : w'.cell? ⟨b, i, none⟩ = some v := cell_block (h.block b (cell_lt hc) hb) hc
theorem Kp.of_new {F : Nat → Prop} {w w' : World} (hb : Below w.heap.size w w') : Kp F w w' := ⟨hb.os, hb.tape, hb.output, hb.size, fun b hl _ => hb.block b hl⟩
end Go.Proofs.YtbfihajgjbpmaaaGreat
