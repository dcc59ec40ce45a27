/- Put64 and Get64: plain facts and contracts. -/
import Derived.Test.YtiedejeimhjngaaC
import Derived.Laws.CopyOwn
namespace Go.Proofs.Ytiedejeimhjngaa
open Go.ChangeShapes Go.WideShapes Go.ChangeAt Go.RowKit
set_option linter.unusedVariables false

/-- byte number i of x -/
def d8 (x : Int) (i : Nat) : Int := x / 2 ^ (8 * i) % 256
/-- x as eight bytes -/
def w8 (x : Int) : List Int := (List.range 8).map (d8 x)
theorem d8_bd (x : Int) (i : Nat) : 0 ≤ d8 x i ∧ d8 x i ≤ 255 := by unfold d8; omega
theorem w8_len (x : Int) : (w8 x).length = 8 := rfl
theorem w8_bytes (x : Int) : ∀ z ∈ w8 x, 0 ≤ z ∧ z ≤ 255 := by
  intro z hz
  obtain ⟨i, _, rfl⟩ := List.mem_map.1 hz
  exact d8_bd x i

/-- the array of eight bytes whose first k are x's -/
def pre8 (x : Int) (k : Nat) : Array Value := ((List.range k).map (fun i => Value.int .u8 (d8 x i)) ++ List.replicate (8 - k) (Value.int .u8 0)).toArray
theorem pre8_zero (x : Int) : #[Value.int IntKind.u8 0, Value.int IntKind.u8 0, Value.int IntKind.u8 0, Value.int IntKind.u8 0,
      Value.int IntKind.u8 0, Value.int IntKind.u8 0, Value.int IntKind.u8 0, Value.int IntKind.u8 0] = pre8 x 0 := rfl
theorem pre8_set (x : Int) (k : Nat) (h : k < 8) : (pre8 x k).setIfInBounds k (.int .u8 (d8 x k)) = pre8 x (k + 1) := by
  unfold pre8
  simp only [List.setIfInBounds_toArray]
  congr 1
  have : 8 - k = (8 - (k + 1)) + 1 := by omega
  rw [this, List.replicate_succ, List.set_append_right _ _ (by simp), List.range_succ, List.map_append]
  simp
theorem pre8_at (x : Int) (k i : Nat) (h : i < 8) (hk : k ≤ 8) : ∃ v, (pre8 x k)[i]? = some v := by
  have : i < (pre8 x k).size := by simp [pre8]; omega
  exact ⟨_, Array.getElem?_eq_getElem this⟩
theorem pre8_get (x : Int) (i : Nat) (h : i < 8) : (pre8 x 8)[i]? = some (.int .u8 ((w8 x).getD i 0)) := by
  unfold pre8 w8
  rw [List.getElem?_toArray, List.getElem?_append_left (by simpa using h)]
  simp [h]

theorem u42 : Try.prog.underlying 52 = some (.array (Try.prog.arrayLen 52) (Try.prog.elem 52)) := by kernel_rfl
theorem len42 : Try.prog.arrayLen 52 = 8 := by kernel_rfl
theorem size42 (w : World) : (sizeOf (Try.prog.elem 52)).run Try.prog w = .ok 1 w := by kernel_rfl
theorem slice42 (b : Nat) (w : World) :
    (Instr.sliceAt 52 (.pointer (some ⟨b, 0, none⟩)) none none none).run Try.prog w = .ok (.slice (some ⟨b, 0, none⟩) 8 8) w := by
  rw [run_sliceAt_array_all w 52 _ u42, size42]
  simp [Result.andThen, slicedAt, len42, Addr.add]
/-- the block that Put64 makes -/
def p64Obj (x : Int) : Obj := .cells (pre8 x 8) 52
set_option maxHeartbeats 400000 in
theorem put64_any (x : Int) (w : World) (h1 : 0 ≤ x) (h2 : x ≤ 18446744073709551615) :
    Calls Try.prog 25 #[.int .u64 x] w fun e w' => e = .returned (.slice (some ⟨w.heap.size, 0, none⟩) 8 8) ∧ w' = w.alloc (p64Obj x) := by
  have hsl := fun wx => slice42 w.heap.size wx
  go_enter Try.func25, Try.ntmps25
  go_wp2
  rw [pre8_zero x]
  go_loopw [5] (fun i wr => ∃ k : Nat, k ≤ 8 ∧ i = .int .i64 (k : Int) ∧ wr = w.alloc (.cells (pre8 x k) 52)) (fun i _ => 8 - (intOf i).toNat)
  case atStart => exact ⟨0, by omega, rfl, rfl⟩
  case round =>
    obtain ⟨k, hk, rfl, rfl⟩ := hrel
    by_cases hlt : k < 8
    · obtain ⟨v, hv⟩ := pre8_at x k k hlt hk
      go_wp2
      go_roundw
      case rel =>
        refine ⟨k + 1, by omega, by go_num, ?_⟩
        rw [← pre8_set x k hlt]
        rfl
      case measure => simp [intOf]; omega
    · obtain rfl : k = 8 := by omega
      go_wp2
      go_ret
      exact ⟨rfl, rfl⟩
theorem p64Obj_cell (x : Int) (w : World) (i : Nat) (h : i < 8) : (w.alloc (p64Obj x)).cell? ⟨w.heap.size, i, none⟩ = some (.int .u8 ((w8 x).getD i 0)) := by
  rw [p64Obj, World.cell?_alloc_at (hn := rfl)]
  exact pre8_get _ _ h
theorem BV.w8 (x : Int) (w : World) : BV (w.alloc (p64Obj x)) (some ⟨w.heap.size, 0, none⟩) 8 (Go.Proofs.Ytiedejeimhjngaa.w8 x) :=
  ⟨rfl, w8_bytes x, .inr ⟨_, _, rfl, fun i hi => by rw [Nat.zero_add]; exact p64Obj_cell x w i hi⟩⟩
/-- the number of the first k bytes -/
def acc8 (zs : List Int) : Nat → Int
  | 0 => 0
  | k + 1 => acc8 zs k + zs.getD k 0 * 2 ^ (8 * k)
theorem acc8_bd (zs : List Int) (hz : ∀ z ∈ zs, 0 ≤ z ∧ z ≤ 255) : ∀ k, k ≤ zs.length → 0 ≤ acc8 zs k ∧ acc8 zs k < 2 ^ (8 * k)
  | 0, _ => by simp [acc8]
  | k + 1, h => by
    obtain ⟨h1, h2⟩ := acc8_bd zs hz k (by omega)
    have hb : 0 ≤ zs.getD k 0 ∧ zs.getD k 0 ≤ 255 := by apply hz; simp [show k < zs.length from by omega]
    have hp : (0 : Int) < 2 ^ (8 * k) := Int.pow_pos (by omega)
    have e : (2 : Int) ^ (8 * (k + 1)) = 2 ^ (8 * k) * 256 := by rw [show 8 * (k + 1) = 8 * k + 8 from by omega, Int.pow_add]; rfl
    have m1 : 0 ≤ zs.getD k 0 * 2 ^ (8 * k) := Int.mul_nonneg hb.1 (by omega)
    have m2 := mul_le_of hp hb.2
    rw [e, acc8]; omega
theorem or_add8 (x c : Int) (k : Nat) (hk : k < 8) (h0 : 0 ≤ x) (h1 : x < 2 ^ (8 * k)) (hc0 : 0 ≤ c) (hc1 : c ≤ 255) :
    bits BinOp.or IntKind.u64 x (IntKind.u64.wrap (c * 2 ^ (8 * k))) = x + c * 2 ^ (8 * k) := by
  have e3 : (2 : Int) ^ (8 * k) = ((2 ^ (8 * k) : Nat) : Int) := by simp
  have hp : 0 < 2 ^ (8 * k) := Nat.pow_pos (by omega)
  have hq : 2 ^ (8 * k) ≤ 2 ^ 56 := Nat.pow_le_pow_right (by omega) (by omega)
  have hm : 0 ≤ c * (2 : Int) ^ (8 * k) := Int.mul_nonneg hc0 (by omega)
  have hl := mul_le_of (a := c) (b := 255) (p := (2 : Int) ^ (8 * k)) (by omega) hc1
  rw [IntKind.wrap_u64, Int.emod_eq_of_lt hm (by omega)]
  rw [u64_or _ _ h0 (by omega) hm (by omega), Nat.or_comm, nat_join (8 * k) _ _ ?_ (by omega)]
  · omega
  · obtain ⟨m, rfl⟩ : ∃ m : Nat, c = m := ⟨c.toNat, by omega⟩
    rw [e3, ← Int.natCast_mul, Int.toNat_natCast, Nat.mul_mod_left]
theorem acc8_w8 (x : Int) (h0 : 0 ≤ x) : ∀ k, k ≤ 8 → acc8 (w8 x) k = x % 2 ^ (8 * k)
  | 0, _ => by simp [acc8, Int.emod_one]
  | k + 1, h => by
    have e : (2 : Int) ^ (8 * (k + 1)) = 2 ^ (8 * k) * 256 := by rw [show 8 * (k + 1) = 8 * k + 8 from by omega, Int.pow_add]; rfl
    have g : (w8 x).getD k 0 = x / 2 ^ (8 * k) % 256 := by simp [w8, d8, show k < 8 from by omega]
    rw [acc8, acc8_w8 x h0 k (by omega), g, e]
    obtain ⟨n, rfl⟩ : ∃ n : Nat, x = n := ⟨x.toNat, by omega⟩
    have e3 : (2 : Int) ^ (8 * k) = ((2 ^ (8 * k) : Nat) : Int) := by simp
    rw [e3]
    have := Nat.mod_mul (a := 2 ^ (8 * k)) (b := 256) (x := n)
    rw [Nat.mul_comm (2 ^ (8 * k)) (n / 2 ^ (8 * k) % 256)] at this
    clear e e3 g
    generalize 2 ^ (8 * k) = p at this ⊢
    have t := congrArg (fun m : Nat => (m : Int)) this
    simp only [Int.natCast_add, Int.natCast_mul, Int.natCast_emod, Int.natCast_ediv] at t
    exact t.symm

theorem index42 (cs : Array Value) (k : Nat) (hk : k < 8) (v : Value) (hv : cs[k]? = some v) (h1 : v.oneCell' = true) (w : World) :
    (Instr.index 52 (.agg cs) (.int .i64 (k : Int))).run Try.prog w = .ok v w := by
  have h : (0 : Int) ≤ k ∧ (k : Int) < (8 : Nat) := by omega
  have hu : Try.prog.underlying 52 = some (.array 8 5) := by kernel_rfl
  simp [Instr.index, run_underlying hu, asIntOf, go_sem]
  rw [if_pos hk, hv]
  rfl
theorem info42 : (Try.prog.info? 52).map (·.size) = some 8 := by kernel_rfl
theorem info5s : (Try.prog.info? 5).map (·.size) = some 1 := by kernel_rfl

theorem ret_ub {a b : Int} {c d : Bool} (h1 : a = b) (h2 : c = d) : Ending.returned (.tuple #[.int .u64 a, .bool c]) = .returned (.tuple #[.int .u64 b, .bool d]) := by rw [h1, h2]
def zero8 : List Value := List.replicate 8 (Value.int .u8 0)

/-- what copy brings into an array of eight bytes -/
theorem copy_src {w : World} {a : Option Addr} {n : Nat} {zs : List Int} (hv : BV w a n zs) : ∃ src : List Value, src = (zs.take 8).map (Value.int .u8) ∧ src.length = n.min 8 ∧
    (0 < src.length → some (⟨w.heap.size, 0, none⟩ : Addr) = some ⟨w.heap.size, 0, none⟩ ∧ ∃ ad, a = some ad ∧ ∀ j v, src[j]? = some v → (w.alloc (.cells zero8.toArray 52)).cell? (ad.add j) = some v) ∧
    0 + src.length ≤ zero8.length ∧ ∀ v ∈ src, v.oneCell' = true := by
  obtain ⟨h1, h2, h3⟩ := hv
  refine ⟨_, rfl, by show _ = min n 8; simp; omega, fun hp => ⟨rfl, ?_⟩, by simp [zero8]; omega, ?_⟩
  · rcases h3 with h3 | ⟨b, off, rfl, hcell⟩
    · have : zs = [] := List.eq_nil_of_length_eq_zero (by omega)
      subst this; simp at hp
    · refine ⟨_, rfl, fun j v hj => ?_⟩
      have hjl : j < (zs.take 8).length := by
        rcases Nat.lt_or_ge j (zs.take 8).length with h | h
        · exact h
        · rw [List.getElem?_eq_none (by simpa using h)] at hj; cases hj
      have hj8 : j < 8 := by simp at hjl; omega
      have hjn : j < zs.length := by simp at hjl; omega
      have ha : (⟨b, off, none⟩ : Addr).add j = ⟨b, off + j, none⟩ := by unfold Addr.add; split <;> simp_all
      rw [ha, cell_alloc w _ (hcell j (by omega))]
      rw [List.getElem?_map, List.getElem?_take_of_lt hj8, List.getElem?_eq_getElem hjn] at hj
      simpa [hjn] using hj
  · intro v hv
    obtain ⟨z, _, rfl⟩ := List.mem_map.1 hv
    rfl
set_option maxHeartbeats 400000 in
theorem get64_few (a : Option Addr) (n cap : Nat) (zs : List Int) (w : World) (hv : BV w a n zs) (hn : n < 8) :
    Calls Try.prog 34 #[.slice a n cap] w fun e w' => e = .returned (.tuple #[.int .u64 0, .bool false]) ∧ Below w.heap.size w w' := by
  have hsl := fun wx => slice42 w.heap.size wx
  obtain ⟨src, -, hs1, hs2, hs3, hs4⟩ := copy_src hv
  have hlt : (src.length : Int) < 8 := by rw [hs1, show n.min 8 = min n 8 from rfl]; omega
  have H1 : Hid (src.length = n.min 8) := hs1
  have H2 : Hid _ := hs2
  clear hs1 hs2 hv
  have hz8 : #[Value.int IntKind.u8 0, Value.int IntKind.u8 0, Value.int IntKind.u8 0, Value.int IntKind.u8 0,
      Value.int IntKind.u8 0, Value.int IntKind.u8 0, Value.int IntKind.u8 0, Value.int IntKind.u8 0] = zero8.toArray := rfl
  go_enter Try.func34, Try.ntmps34
  go_wp2_with (refine wpList_copy_splice rfl (.tmp 8) (.tmp 9) 23 23 rfl 5 Try.underlying23 info5s (some ⟨w.heap.size, 0, none⟩) a 8 8 n cap rfl rfl w.heap.size 0 zero8 52 (heap_alloc_new _ _) src H1.out H2.out hs3 hs4 w.heap.size w ((Below.refl _ _).alloc (Nat.le_refl _) _) (Nat.le_refl _) ?_; intro w1 hrow hbel)
  go_ret2
  exact ⟨rfl, hbel⟩

set_option maxHeartbeats 400000 in
theorem get64_many (a : Option Addr) (n cap : Nat) (zs : List Int) (w : World) (hv : BV w a n zs) (hn : 8 ≤ n) :
    Calls Try.prog 34 #[.slice a n cap] w fun e w' => e = .returned (.tuple #[.int .u64 (acc8 zs 8), .bool true]) ∧ Below w.heap.size w w' := by
  have hsl := fun wx => slice42 w.heap.size wx
  obtain ⟨src, hsrc, hs1, hs2, hs3, hs4⟩ := copy_src hv
  have hzl : zs.length = n := hv.1
  have hz := hv.2.1
  have hlt : ¬ (src.length : Int) < 8 := by rw [hs1, show n.min 8 = min n 8 from rfl]; omega
  have hl8 : src.length = 8 := by rw [hs1, show n.min 8 = min n 8 from rfl]; omega
  have hat : ∀ k, k < 8 → src.toArray[k]? = some (.int .u8 (zs.getD k 0)) := fun k hk => by
    rw [hsrc]; simp [hk, show k < zs.length from by omega]
  have hspl : splice zero8 0 src = src := by
    unfold splice; simp [zero8, hl8]
  have H1 : Hid (src.length = n.min 8) := hs1
  have H2 : Hid _ := hs2
  have H3 : Hid (src.length = 8) := hl8
  have H4 : Hid (splice zero8 0 src = src) := hspl
  have H5 : Hid _ := hat
  clear hs1 hs2 hv hl8 hspl hsrc hat
  have hz8 : #[Value.int IntKind.u8 0, Value.int IntKind.u8 0, Value.int IntKind.u8 0, Value.int IntKind.u8 0,
      Value.int IntKind.u8 0, Value.int IntKind.u8 0, Value.int IntKind.u8 0, Value.int IntKind.u8 0] = zero8.toArray := rfl
  go_enter Try.func34, Try.ntmps34
  go_wp2_with (first | (refine wpList_copy_splice rfl (.tmp 8) (.tmp 9) 23 23 rfl 5 Try.underlying23 info5s (some ⟨w.heap.size, 0, none⟩) a 8 8 n cap rfl rfl w.heap.size 0 zero8 52 (heap_alloc_new _ _) src H1.out H2.out hs3 hs4 w.heap.size w ((Below.refl _ _).alloc (Nat.le_refl _) _) (Nat.le_refl _) ?_; intro w1 hrow hbel; rw [H4.out] at hrow) | (refine wpList_load_row rfl 52 (.tmp 4) rfl w.heap.size rfl 52 src.toArray (0, 0) _ hrow.out u42 rfl (by rw [info42]; simp [H3.out]) ?_))
  go_loop [5, 13] (fun x i => ∃ k : Nat, k ≤ 8 ∧ i = .int .i64 (k : Int) ∧ x = .int .u64 (acc8 zs k)) (fun _ i => 8 - (intOf i).toNat)
  case atStart => exact ⟨0, by omega, rfl, rfl⟩
  case round =>
    obtain ⟨k, hk, rfl, rfl⟩ := hrel
    by_cases hlt' : k < 8
    · have hix := fun wx => index42 src.toArray k hlt' _ (H5.out k hlt') rfl wx
      obtain ⟨c, hcd⟩ : ∃ c, c = zs.getD k 0 := ⟨_, rfl⟩
      rw [← hcd] at hix
      obtain ⟨hc0, hc1⟩ : 0 ≤ c ∧ c ≤ 255 := by apply hz; rw [hcd]; simp [show k < zs.length from by omega]
      obtain ⟨ha0, ha1⟩ := acc8_bd zs hz k (by omega)
      have HA : Hid (acc8 zs (k + 1) = acc8 zs k + c * 2 ^ (8 * k)) := by show _ = _; rw [hcd]; rfl
      have HO : Hid (_ = _) := or_add8 (acc8 zs k) c k hlt' ha0 ha1 hc0 hc1
      clear hcd hz
      go_wp2
      go_round
      case rel => exact ⟨k + 1, by omega, by go_num, by rw [HA.out]; exact congrArg _ HO.out⟩
      case measure => simp [intOf]; omega
    · obtain rfl : k = 8 := by omega
      go_wp2
      go_ret2
      exact ⟨rfl, hbel⟩

theorem get64_any (a : Option Addr) (n cap : Nat) (zs : List Int) (w : World) (hv : BV w a n zs) :
    Calls Try.prog 34 #[.slice a n cap] w fun e w' => e = .returned (.tuple #[.int .u64 (if n < 8 then 0 else acc8 zs 8), .bool (!decide (n < 8))]) ∧ Below w.heap.size w w' := by
  by_cases h : n < 8
  · simp only [h, if_true, decide_true, Bool.not_true]
    exact get64_few a n cap zs w hv h
  · simp only [h, if_false, decide_false, Bool.not_false]
    exact get64_many a n cap zs w hv (by omega)
end Go.Proofs.Ytiedejeimhjngaa
