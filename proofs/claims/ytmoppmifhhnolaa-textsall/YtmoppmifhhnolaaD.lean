/- Put64 and Get64: plain facts and contracts. -/
import Derived.Test.YtmoppmifhhnolaaC
import Derived.Laws.CopyOwn
namespace Go.Proofs.Ytmoppmifhhnolaa
open Go.ChangeShapes Go.WideShapes Go.ChangeAt Go.RowKit
set_option linter.unusedVariables false

/-- byte number i of x -/
def d8 (x : Int) (i : Nat) : Int := x / 2 ^ (8 * i) % 256
/-- x as eight bytes -/
def w8 (x : Int) : List Int := (List.range 8).map (d8 x)
theorem d8_bd (x : Int) (i : Nat) : 0 ≤ d8 x i ∧ d8 x i ≤ 255 := by unfold d8; omega
theorem w8_len (x : Int) : (w8 x).length = 8 := rfl
theorem w8_bytes (x : Int) : ∀ z ∈ w8 x, 0 ≤ z ∧ z ≤ 255 := by
  intro z hz
  obtain ⟨i, _, rfl⟩ := List.mem_map.1 hz
  exact d8_bd x i

/-- the array of eight bytes whose first k are x's -/
def pre8 (x : Int) (k : Nat) : Array Value := ((List.range k).map (fun i => Value.int .u8 (d8 x i)) ++ List.replicate (8 - k) (Value.int .u8 0)).toArray
theorem pre8_zero (x : Int) : #[Value.int IntKind.u8 0, Value.int IntKind.u8 0, Value.int IntKind.u8 0, Value.int IntKind.u8 0,
      Value.int IntKind.u8 0, Value.int IntKind.u8 0, Value.int IntKind.u8 0, Value.int IntKind.u8 0] = pre8 x 0 := rfl
theorem pre8_set (x : Int) (k : Nat) (h : k < 8) : (pre8 x k).setIfInBounds k (.int .u8 (d8 x k)) = pre8 x (k + 1) := by
  unfold pre8
  simp only [List.setIfInBounds_toArray]
  congr 1
  have : 8 - k = (8 - (k + 1)) + 1 := by omega
  rw [this, List.replicate_succ, List.set_append_right _ _ (by simp), List.range_succ, List.map_append]
  simp
theorem pre8_at (x : Int) (k i : Nat) (h : i < 8) (hk : k ≤ 8) : ∃ v, (pre8 x k)[i]? = some v := by
  have : i < (pre8 x k).size := by simp [pre8]; omega
  exact ⟨_, Array.getElem?_eq_getElem this⟩
theorem pre8_get (x : Int) (i : Nat) (h : i < 8) : (pre8 x 8)[i]? = some (.int .u8 ((w8 x).getD i 0)) := by
  unfold pre8 w8
  rw [List.getElem?_toArray, List.getElem?_append_left (by simpa using h)]
  simp [h]

/-- the number of the first k bytes -/
def acc8 (zs : List Int) : Nat → Int
  | 0 => 0
  | k + 1 => acc8 zs k + zs.getD k 0 * 2 ^ (8 * k)
theorem acc8_bd (zs : List Int) (hz : ∀ z ∈ zs, 0 ≤ z ∧ z ≤ 255) : ∀ k, k ≤ zs.length → 0 ≤ acc8 zs k ∧ acc8 zs k < 2 ^ (8 * k)
  | 0, _ => by simp [acc8]
  | k + 1, h => by
    obtain ⟨h1, h2⟩ := acc8_bd zs hz k (by omega)
    have hb : 0 ≤ zs.getD k 0 ∧ zs.getD k 0 ≤ 255 := by apply hz; simp [show k < zs.length from by omega]
    have hp : (0 : Int) < 2 ^ (8 * k) := Int.pow_pos (by omega)
    have e : (2 : Int) ^ (8 * (k + 1)) = 2 ^ (8 * k) * 256 := by rw [show 8 * (k + 1) = 8 * k + 8 from by omega, Int.pow_add]; rfl
    have m1 : 0 ≤ zs.getD k 0 * 2 ^ (8 * k) := Int.mul_nonneg hb.1 (by omega)
    have m2 := mul_le_of hp hb.2
    rw [e, acc8]; omega
theorem or_add8 (x c : Int) (k : Nat) (hk : k < 8) (h0 : 0 ≤ x) (h1 : x < 2 ^ (8 * k)) (hc0 : 0 ≤ c) (hc1 : c ≤ 255) :
    bits BinOp.or IntKind.u64 x (IntKind.u64.wrap (c * 2 ^ (8 * k))) = x + c * 2 ^ (8 * k) := by
  have e3 : (2 : Int) ^ (8 * k) = ((2 ^ (8 * k) : Nat) : Int) := by simp
  have hp : 0 < 2 ^ (8 * k) := Nat.pow_pos (by omega)
  have hq : 2 ^ (8 * k) ≤ 2 ^ 56 := Nat.pow_le_pow_right (by omega) (by omega)
  have hm : 0 ≤ c * (2 : Int) ^ (8 * k) := Int.mul_nonneg hc0 (by omega)
  have hl := mul_le_of (a := c) (b := 255) (p := (2 : Int) ^ (8 * k)) (by omega) hc1
  rw [IntKind.wrap_u64, Int.emod_eq_of_lt hm (by omega)]
  rw [u64_or _ _ h0 (by omega) hm (by omega), Nat.or_comm, nat_join (8 * k) _ _ ?_ (by omega)]
  · omega
  · obtain ⟨m, rfl⟩ : ∃ m : Nat, c = m := ⟨c.toNat, by omega⟩
    rw [e3, ← Int.natCast_mul, Int.toNat_natCast, Nat.mul_mod_left]
theorem acc8_w8 (x : Int) (h0 : 0 ≤ x) : ∀ k, k ≤ 8 → acc8 (w8 x) k = x % 2 ^ (8 * k)
  | 0, _ => by simp [acc8, Int.emod_one]
  | k + 1, h => by
    have e : (2 : Int) ^ (8 * (k + 1)) = 2 ^ (8 * k) * 256 := by rw [show 8 * (k + 1) = 8 * k + 8 from by omega, Int.pow_add]; rfl
    have g : (w8 x).getD k 0 = x / 2 ^ (8 * k) % 256 := by simp [w8, d8, show k < 8 from by omega]
    rw [acc8, acc8_w8 x h0 k (by omega), g, e]
    obtain ⟨n, rfl⟩ : ∃ n : Nat, x = n := ⟨x.toNat, by omega⟩
    have e3 : (2 : Int) ^ (8 * k) = ((2 ^ (8 * k) : Nat) : Int) := by simp
    rw [e3]
    have := Nat.mod_mul (a := 2 ^ (8 * k)) (b := 256) (x := n)
    rw [Nat.mul_comm (2 ^ (8 * k)) (n / 2 ^ (8 * k) % 256)] at this
    clear e e3 g
    generalize 2 ^ (8 * k) = p at this ⊢
    have t := congrArg (fun m : Nat => (m : Int)) this
    simp only [Int.natCast_add, Int.natCast_mul, Int.natCast_emod, Int.natCast_ediv] at t
    exact t.symm

theorem info5s : (Try.prog.info? 5).map (·.size) = some 1 := by kernel_rfl

theorem ret_ub {a b : Int} {c d : Bool} (h1 : a = b) (h2 : c = d) : Ending.returned (.tuple #[.int .u64 a, .bool c]) = .returned (.tuple #[.int .u64 b, .bool d]) := by rw [h1, h2]
def zero8 : List Value := List.replicate 8 (Value.int .u8 0)

end Go.Proofs.Ytmoppmifhhnolaa
