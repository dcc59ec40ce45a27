/- Contracts of the functions of package num, over this seat's translation. -/
import Derived.Test.YtmoppmifhhnolaaRows
import Derived.Test.YtmoppmifhhnolaaP
import Derived.WalkKit
import Derived.ProofKit
import Derived.OpenShut
import Derived.Below
import Derived.WalkSpells
import Derived.WalkLawsBesides
namespace Go.Proofs.Ytmoppmifhhnolaa
open Go.ChangeShapes Go.WideShapes Go.ChangeAt Go.RowKit
set_option linter.unusedVariables false

theorem ret_int {k : IntKind} {a b : Int} (h : a = b) : Ending.returned (.int k a) = .returned (.int k b) := by rw [h]

theorem zig_neg_arith (a : Int) (h1 : -9223372036854775808 ≤ a) (h2 : a < 0) : bits BinOp.xor IntKind.u64 IntKind.u64.max (IntKind.u64.wrap (IntKind.u64.wrap a * 2)) = -2 * a - 1 := by
  have e1 : IntKind.u64.max = 18446744073709551615 := by decide
  have e2 : IntKind.u64.wrap (IntKind.u64.wrap a * 2) = (((2 * a + 18446744073709551616).toNat : Nat) : Int) := by
    simp only [IntKind.wrap_u64]; omega
  rw [e1, e2, not_u64 _ (by omega)]; omega

theorem and1 (a : Int) (h1 : 0 ≤ a) (h2 : a ≤ 18446744073709551615) : bits BinOp.and IntKind.u64 a 1 = a % 2 := and_one_u64 a h1 h2
theorem zag_arith (a : Int) (h1 : 0 ≤ a) (h2 : a ≤ 18446744073709551615) : bits BinOp.xor IntKind.i64 (-1) (a / 2) = - (a / 2) - 1 := by
  have := not_i64 (a / 2).toNat (by omega)
  rw [show (((a / 2).toNat : Nat) : Int) = a / 2 from by omega] at this
  exact this

/-- the array of ten bytes whose first ones are 'pre' -/
def pre10 (pre : List Int) : Array Value := (pre.map (Value.int .u8) ++ List.replicate (10 - pre.length) (Value.int .u8 0)).toArray
theorem pre10_nil : #[Value.int IntKind.u8 0, Value.int IntKind.u8 0, Value.int IntKind.u8 0, Value.int IntKind.u8 0,
      Value.int IntKind.u8 0, Value.int IntKind.u8 0, Value.int IntKind.u8 0, Value.int IntKind.u8 0,
      Value.int IntKind.u8 0, Value.int IntKind.u8 0] = pre10 [] := rfl
theorem pre10_set (pre : List Int) (v : Int) (h : pre.length < 10) : (pre10 pre).setIfInBounds pre.length (.int .u8 v) = pre10 (pre ++ [v]) := by
  unfold pre10
  simp only [List.setIfInBounds_toArray]
  congr 1
  have : 10 - pre.length = (10 - (pre ++ [v]).length) + 1 := by simp; omega
  rw [this, List.replicate_succ, List.set_append_right _ _ (by simp)]
  simp
theorem pre10_at (pre : List Int) (i : Nat) (h : i < 10) : ∃ v, (pre10 pre)[i]? = some v := by
  have : i < (pre10 pre).size := by simp [pre10]; omega
  exact ⟨_, Array.getElem?_eq_getElem this⟩

theorem u43 : Try.prog.underlying 55 = some (.array (Try.prog.arrayLen 55) (Try.prog.elem 55)) := by kernel_rfl
theorem len43 : Try.prog.arrayLen 55 = 10 := by kernel_rfl
theorem size5 (w : World) : (sizeOf (Try.prog.elem 55)).run Try.prog w = .ok 1 w := by kernel_rfl
theorem slice43 (b : Nat) (h : Int) (h0 : 0 ≤ h) (h1 : h ≤ 10) (w : World) :
    (Instr.sliceAt 55 (.pointer (some ⟨b, 0, none⟩)) none (some (.int .i64 h)) none).run Try.prog w = .ok (.slice (some ⟨b, 0, none⟩) h.toNat 10) w := by
  rw [run_sliceAt_array_h w 55 _ u43 .i64 h h0 (by rw [len43]; exact h1), size5]
  simp [Result.andThen, slicedAt, len43, Addr.add]
theorem ret_slice {a : Option Addr} {n m c : Nat} (h : n = m) : Ending.returned (.slice a n c) = .returned (.slice a m c) := by rw [h]
theorem u8_or_more' (y : Int) (h0 : 0 ≤ y) : bits .or .u8 (y % 256) 128 = y % 128 + 128 := by
  rw [← IntKind.wrap_u8']; exact u8_or_more y h0

/-- the block that PutVar makes -/
def pvObj (x : Int) : Obj := .cells (pre10 (pv x)) 55
set_option maxHeartbeats 400000 in
theorem putvar_any (x : Int) (w : World) (h1 : 0 ≤ x) (h2 : x ≤ 18446744073709551615) :
    Calls Try.prog 25 #[.int .u64 x] w fun e w' => e = .returned (.slice (some ⟨w.heap.size, 0, none⟩) (pv x).length 10) ∧ w' = w.alloc (pvObj x) := by
  go_enter Try.func25, Try.ntmps25
  go_wp2
  rw [pre10_nil]
  go_loopw [0, 4] (fun a n wr => ∃ (y : Int) (pre : List Int), 0 ≤ y ∧ y ≤ 18446744073709551615 ∧ a = .int .u64 y ∧ n = .int .i64 (pre.length : Int) ∧ Hid (pv x = pre ++ pv y) ∧ wr = w.alloc (.cells (pre10 pre) 55)) (fun a _ _ => (intOf a).toNat)
  case atStart => exact ⟨x, [], h1, h2, rfl, rfl, rfl, rfl⟩
  case round =>
    obtain ⟨y, pre, hy1, hy2, rfl, rfl, hp, rfl⟩ := hrel
    have hlen : pre.length + (pv y).length ≤ 10 := by
      have := pv_len10 (x := x) (by omega)
      rw [hp.out] at this; simpa using this
    have hpos := pv_pos y
    obtain ⟨v, hv⟩ := pre10_at pre pre.length (by omega)
    by_cases hlt : y < 128
    · have hsl := fun wx => slice43 w.heap.size ((pre.length : Int) + 1) (by omega) (by omega) wx
      go_wp2
      go_ret
      have e : pv x = pre ++ [y] := by rw [hp.out, pv_small hlt]
      refine ⟨ret_slice (by rw [e]; simp), ?_⟩
      rw [pvObj, e, pre10_set _ _ (by omega)]
    · go_wp2
      go_roundw
      case rel =>
        refine ⟨y / 128, pre ++ [y % 128 + 128], by omega, by omega, rfl, by simp, ?_, ?_⟩
        · show _ = _
          rw [hp.out, pv_big hlt]; simp
        · rw [u8_or_more' y hy1, pre10_set _ _ (by omega)]
      case measure => simp [intOf]; omega
theorem pv300 : pv 300 = [172, 2] := by rw [pv_big (by omega), pv_small (by omega)]; rfl
theorem pre10_get (pre : List Int) (i : Nat) (h : i < pre.length) : (pre10 pre)[i]? = some (.int .u8 (pre.getD i 0)) := by
  unfold pre10
  rw [List.getElem?_toArray, List.getElem?_append_left (by simpa using h)]
  simp [h]

theorem pvObj_cell (x : Int) (w : World) (i : Nat) (h : i < (pv x).length) : (w.alloc (pvObj x)).cell? ⟨w.heap.size, i, none⟩ = some (.int .u8 ((pv x).getD i 0)) := by
  rw [pvObj, World.cell?_alloc_at (hn := rfl)]
  exact pre10_get _ _ h
end Go.Proofs.Ytmoppmifhhnolaa
