/- IntsSteps: the walk. -/
import Derived.Test.YtiedejeimhjngaaI5g
namespace Go.Proofs.Ytiedejeimhjngaa
open Go.ChangeShapes Go.WideShapes Go.ChangeAt Go.RowKit
set_option linter.unusedVariables false

/-- number j of those that go on by one step -/
def itS (x k : Int) : Nat → Int
  | 0 => x
  | j + 1 => rd (itS x k j + k)
theorem itS_shift (k : Int) : ∀ (j : Nat) (x : Int), itS (rd (x + k)) k j = itS x k (j + 1)
  | 0, _ => rfl
  | j + 1, x => by rw [itS, itS_shift k j x]; rfl
theorem steps_snoc (k : Int) : ∀ (j : Nat) (x : Int), steps x k (j + 1) = steps x k j ++ [itS x k j]
  | 0, _ => rfl
  | j + 1, x => by
    rw [steps, steps_snoc k j, itS_shift]; rfl
theorem itS_bd {x : Int} (k : Int) (h : -9223372036854775808 ≤ x ∧ x ≤ 9223372036854775807) : ∀ j, -9223372036854775808 ≤ itS x k j ∧ itS x k j ≤ 9223372036854775807
  | 0 => h
  | j + 1 => rd_bd _
theorem steps_i64 {x : Int} (k : Int) (h : -9223372036854775808 ≤ x ∧ x ≤ 9223372036854775807) : ∀ j, I64s (steps x k j)
  | 0, y, hy => by cases hy
  | j + 1, y, hy => by
    rw [steps_snoc] at hy
    rcases List.mem_append.1 hy with hy | hy
    · exact steps_i64 k h j y hy
    · rw [List.mem_singleton.1 hy]; exact itS_bd k h j
theorem steps_len0 {x k : Int} (hk : -64 ≤ k ∧ k ≤ 63) (m : Nat) : (deltaL 0 (steps x k (m + 1))).length = (deltaL 0 [x]).length + m := by
  rw [steps, deltaL_cons, deltaL_cons, List.length_append, List.length_append, steps_delta hk]; rfl
theorem one_len (x : Int) : 1 ≤ (deltaL 0 [x]).length ∧ (deltaL 0 [x]).length ≤ 10 := by
  have h1 := deltaL_len 0 [x]
  have h2 := deltaL_len10 0 [x]
  simpa using And.intro h1 h2
set_option maxHeartbeats 2000000 in
theorem steps_is (x : Int) (hx : -9223372036854775808 ≤ x ∧ x ≤ 9223372036854775807) (s : Int) (hs : -128 ≤ s ∧ s ≤ 127) (a : Int) (ha : 0 ≤ a ∧ a ≤ 255) (w : World) :
    Calls Try.prog 6 #[.int .i64 x, .int .i8 s, .int .u8 a] w fun e w' => e = .returned (.bool true) ∧ Below w.heap.size w w' := by
  go_enter Try.func6, Try.ntmps6
  go_wp2_with fail
  refine (shown5_is _).mono ?_
  rintro e w1 ⟨rfl, hb1⟩
  go_wp2_with fail
  obtain ⟨N, hN, hN1, hN60⟩ : ∃ N : Nat, 1 + a % 60 = (N : Int) ∧ 1 ≤ N ∧ N ≤ 60 := ⟨(1 + a % 60).toNat, by omega, by omega, by omega⟩
  obtain ⟨k, hk, hkb⟩ : ∃ k : Int, s / 2 = k ∧ (-64 ≤ k ∧ k ≤ 63) := ⟨_, rfl, by omega⟩
  rw [hN, hk]
  clear hN hk hs ha
  have o0 : OS 1 (w1.alloc (.cells #[] 2)) w1.heap.size (.slice (some ⟨w1.heap.size, 0, none⟩) 0 0) 0 (icells (steps x k 0)) := OS.lit (k := 1) w1 w1.heap.size (Nat.le_refl _) [] 0 2 rfl (by simp) (by simp) _ rfl
  have hw1 : Below w1.heap.size w1 (w1.alloc (.cells #[] 2)) := Joins.below_alloc1 _ _
  go_loopw [10, 11, 12] (fun v y i wr => ∃ (j : Nat) (y' : Int), j ≤ N ∧ i = .int .i64 (j : Int) ∧ y = .int .i64 y' ∧ Hid (y' = itS x k j) ∧ OS 1 wr w1.heap.size v j (icells (steps x k j)) ∧ Below w1.heap.size w1 wr) (fun _ _ i _ => N - (intOf i).toNat)
  case atStart => exact ⟨0, x, by omega, rfl, rfl, Lib.hid rfl, o0, hw1⟩
  case round =>
    clear o0 hw1
    obtain ⟨j, y, hj, rfl, rfl, HY, ho, hbel⟩ := hrel
    have hsz := hbel.size
    by_cases hlt : j < N
    · have hji : (j : Int) < (N : Int) := by omega
      have hwr := wrap_rd (y + k)
      obtain ⟨z, hz⟩ : ∃ z, rd (y + k) = z := ⟨_, rfl⟩
      rw [hz] at hwr
      have HZ := Lib.hid hz
      clear hz
      go_wp2_with (at_builtin; refine append_os el_i64s rfl (.tmp 30) (.tmp 32) rfl w1.heap.size _ j _ rfl (ho.alloc _) _ 1 1 (icells [y]) rfl (SV.lit' (k := 1) _ (icells [y]) 1 2 rfl (icells_one _) _ rfl) (by omega) (by omega) (by rw [heap_alloc]; omega) ?_; intro v2 w2 ho2 hb2; rw [← icells_app] at ho2)
      go_roundw
      case rel => exact ⟨j + 1, z, by omega, by go_num, rfl, Lib.hid (by rw [← HZ.out, HY.out]; rfl), by rw [steps_snoc, ← HY.out]; exact ho2, (hbel.alloc hsz _).trans hb2⟩
      case measure => simp [intOf]; omega
    · obtain rfl : j = N := by omega
      obtain ⟨g, c, rfl, -, hc1, -, -, -, -⟩ := ho.own hN1
      obtain ⟨A', C', hA, -, -, hv, -⟩ := ho.sv
      cases hA
      have hr := steps_i64 k hx j
      obtain ⟨m, rfl⟩ : ∃ m, j = m + 1 := ⟨j - 1, by omega⟩
      have hv1 : IV _ (some ⟨g, 0, none⟩) 1 [x] := IV.take hv 1 (by omega)
      have hr1 : I64s [x] := i64_take hr 1
      have HD := Lib.hid (steps_len0 (x := x) hkb m)
      have HF := Lib.hid (fixedL_len (steps x k (m + 1)))
      have HS := Lib.hid (steps_len k (m + 1) x)
      have h1 := one_len x
      have hw := Below.then hb1 hbel
      clear ho hbel HY hsz hlt hb1
      go_wp2_with fail
      refine (delta_any _ (m + 1) c (steps x k (m + 1)) _ hv hr (by omega)).mono ?_
      rintro e w2 ⟨vd, rfl, od, hb2⟩
      obtain ⟨O, hO⟩ : ∃ O, (deltaL 0 [x]).length = O := ⟨_, rfl⟩
      rw [hO] at h1
      have HO := Lib.hid hO
      rw [hO] at HD
      obtain ⟨ad, cd, rfl, -, -, bd, -⟩ := od.bvn (deltaL_bytes 0 _) (O + m) HD.out
      replace hv := hv.below hb2
      replace hv1 := hv1.below hb2
      replace hw := Below.then hw hb2
      clear od bd hb2 hO
      go_wp2_with fail
      refine (delta_any _ 1 c [x] _ hv1 hr1 (by omega)).mono ?_
      rintro e w3 ⟨vo, rfl, oo, hb3⟩
      obtain ⟨ao, co, rfl, -, -, bo, -⟩ := oo.bvn (deltaL_bytes 0 _) O HO.out
      replace hv := hv.below hb3
      replace hw := Below.then hw hb3
      clear oo bo hb3 hv1
      go_wp2_with fail
      refine (fixed_any _ (m + 1) c (steps x k (m + 1)) _ hv hr (by omega)).mono ?_
      rintro e w4 ⟨vf, rfl, of, hb4⟩
      obtain ⟨af, cf, rfl, -, -, bf, -⟩ := of.bvn (fixedL_bytes _) (8 * (m + 1)) (by rw [HF.out, HS.out])
      replace hw := Below.then hw hb4
      clear of bf hb4 hv
      go_wp2_with fail
      go_ret
      exact ⟨rfl, hw⟩
end Go.Proofs.Ytiedejeimhjngaa
