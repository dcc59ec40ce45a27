/- The contracts of Sum, and of what stands at the head of layer 2's statements. -/
import Derived.Test.YtfdkocpplhkccaaC
import Derived.Test.YtfdkocpplhkccaaC2p
import Derived.Lib.SlBytesConst
namespace Go.Proofs.Ytfdkocpplhkccaa
open Go.ChangeShapes Go.WideShapes Go.ChangeAt Go.RowKit
set_option linter.unusedVariables false

theorem u32_low (r : Nat) (hr : r < 4294967296) : bits BinOp.and IntKind.u32 (r : Int) 1 = ((r % 2 : Nat) : Int) := by
  have := u32_and_nat r 1 hr (by omega)
  rw [Nat.and_one_is_mod] at this
  exact this
theorem u32_poly (r : Nat) (hr : r < 4294967296) : bits BinOp.xor IntKind.u32 ((r : Int) / 2) 3988292384 = ((r / 2 ^^^ 3988292384 : Nat) : Int) := by
  exact u32_xor_nat (r / 2) 3988292384 (by omega) (by omega)

set_option maxHeartbeats 400000 in
theorem step_any (r : Nat) (w : World) (hr : r < 4294967296) :
    Calls Try.prog 23 #[.int .u32 (r : Int)] w fun e w' => e = .returned (.int .u32 (stepN r : Int)) ∧ w' = w := by
  by_cases h : r % 2 = 1
  · have hb : (bits BinOp.and IntKind.u32 (r : Int) 1 == 1) = true := by rw [u32_low r hr, h]; rfl
    have HR : Hid (bits BinOp.xor IntKind.u32 ((r : Int) / 2) 3988292384 = (stepN r : Int)) := by show _ = _; rw [u32_poly r hr, stepN, if_pos h]
    clear h
    go_enter Try.func23, Try.ntmps23
    go_wp2
    go_ret
    exact ⟨ret_int HR.out, rfl⟩
  · have hb : (bits BinOp.and IntKind.u32 (r : Int) 1 == 1) = false := by rw [u32_low r hr, show r % 2 = 0 from by omega]; rfl
    have HR : Hid ((r : Int) / 2 = (stepN r : Int)) := by show _ = _; rw [stepN, if_neg h]; omega
    clear h
    go_enter Try.func23, Try.ntmps23
    go_wp2
    go_ret
    exact ⟨ret_int HR.out, rfl⟩

theorem take_snoc (zs : List Int) (k : Nat) (c : Int) (hk : k < zs.length) (hc : c = zs.getD k 0) : zs.take (k + 1) = zs.take k ++ [c] := by
  rw [List.take_succ_eq_append_getElem hk, hc]; simp [List.getD, hk]
theorem u32_byte (r : Nat) (c : Int) (hr : r < 4294967296) (h0 : 0 ≤ c) (h1 : c ≤ 255) : bits BinOp.xor IntKind.u32 (r : Int) c = ((r ^^^ c.toNat : Nat) : Int) := by
  have := u32_xor_nat r c.toNat hr (by omega)
  rw [show ((c.toNat : Nat) : Int) = c from by omega] at this
  exact this
theorem u32_not (r : Nat) (hr : r < 4294967296) : bits BinOp.xor IntKind.u32 4294967295 (r : Int) = ((r ^^^ 4294967295 : Nat) : Int) := by
  have := u32_xor_nat 4294967295 r (by omega) hr
  rw [Nat.xor_comm] at this
  exact this

set_option maxHeartbeats 1000000 in
theorem sum_any (a : Option Addr) (n cap : Nat) (zs : List Int) (w : World) (hv : BV w a n zs) (hmax : n ≤ 140737488355328) :
    Calls Try.prog 13 #[.slice a n cap] w fun e w' => e = .returned (.int .u32 (crcN zs : Int)) ∧ w' = w := by
  obtain ⟨hlen, hz, hn⟩ := hv
  go_enter Try.func13, Try.ntmps13
  go_wp2
  go_loop [3, 8] (fun x i => ∃ (k r : Nat), k ≤ n ∧ i = .int .i64 (k : Int) ∧ x = .int .u32 (r : Int) ∧ r < 4294967296 ∧ Hid (r = regN (zs.take k) 4294967295)) (fun _ i => n - (intOf i).toNat)
  case atStart => exact ⟨0, 4294967295, by omega, rfl, rfl, by omega, rfl⟩
  case round =>
    obtain ⟨k, r, hkn, rfl, rfl, hr, HR⟩ := hrel
    by_cases hlt : k < n
    · rcases hn with hn | ⟨b, off, rfl, hcell⟩
      · omega
      have hc := hcell k hlt
      obtain ⟨c, hcd⟩ : ∃ c, c = zs.getD k 0 := ⟨_, rfl⟩
      rw [← hcd] at hc
      obtain ⟨hc0, hc1⟩ : 0 ≤ c ∧ c ≤ 255 := by apply hz; rw [hcd]; simp [show k < zs.length from by omega]
      have HX : Hid (bits BinOp.xor IntKind.u32 (r : Int) c = ((r ^^^ c.toNat : Nat) : Int)) := u32_byte r c hr hc0 hc1
      have hx : r ^^^ c.toNat < 4294967296 := xor_lt32 hr (by omega)
      have HS : Hid (regN (zs.take (k + 1)) 4294967295 = stepsN 8 (r ^^^ c.toNat)) := by
        show _ = _
        rw [take_snoc zs k c (by omega) hcd, regN_snoc, ← HR.out]
      clear hcd hcell hz HR
      go_wp2
      rw [HX.out]
      go_loop [3, 16] (fun x i => ∃ (j q : Nat), j ≤ 8 ∧ i = .int .i64 (j : Int) ∧ x = .int .u32 (q : Int) ∧ q < 4294967296 ∧ Hid (q = stepsN j (r ^^^ c.toNat))) (fun _ i => 8 - (intOf i).toNat)
      case atStart => exact ⟨0, r ^^^ c.toNat, by omega, rfl, rfl, hx, rfl⟩
      case round =>
        clear HX hx
        obtain ⟨j, q, hj, rfl, rfl, hq, HQ⟩ := hrel
        by_cases hj8 : j < 8
        · go_wp2_with (go_at_call 23; refine (step_any q _ hq).mono ?_; rintro e w' ⟨rfl, rfl⟩)
          go_round
          case rel =>
            refine ⟨j + 1, stepN q, by omega, by go_num, rfl, stepN_lt hq, ?_⟩
            show _ = _
            rw [stepsN_last, ← HQ.out]
          case measure => simp [intOf]; omega
        · obtain rfl : j = 8 := by omega
          go_wp2
          go_round
          case rel => exact ⟨k + 1, q, by omega, by go_num, rfl, hq, (show _ = _ by rw [HS.out, ← HQ.out])⟩
          case measure => simp [intOf]; omega
    · obtain rfl : k = n := by omega
      have HE : Hid (bits BinOp.xor IntKind.u32 4294967295 (r : Int) = (crcN zs : Int)) := by
        show _ = _
        rw [u32_not r hr, crcN, HR.out, List.take_of_length_le (by omega)]
      clear HR
      go_wp2
      go_ret
      exact ⟨ret_int HE.out, rfl⟩

theorem crc_shown : crcN [49, 50, 51, 52, 53, 54, 55, 56, 57] = 3421780262 := by decide +kernel
def nine : Array Value := #[.int .u8 49, .int .u8 50, .int .u8 51, .int .u8 52, .int .u8 53, .int .u8 54, .int .u8 55, .int .u8 56, .int .u8 57]
/-- the block that 'shown' makes -/
def nineObj : Obj := .cells nine 5 (9, 10)
theorem cell_new (w : World) (c : Array Value) (t : TypeId) (fz : Nat × Nat) (i : Nat) (v : Value) (h : c[i]? = some v) : (w.alloc (.cells c t fz)).cell? ⟨w.heap.size, i, none⟩ = some v := by
  have e : (w.alloc (.cells c t fz)).heap[w.heap.size]? = some (.cells c t fz) := by
    show (w.heap.push _)[w.heap.size]? = _
    simp
  simp only [World.cell?, e, h]; rfl
theorem BV.nine (w : World) : BV (w.alloc nineObj) (some ⟨w.heap.size, 0, none⟩) 9 [49, 50, 51, 52, 53, 54, 55, 56, 57] := by
  refine ⟨rfl, by decide, .inr ⟨_, _, rfl, fun i hi => ?_⟩⟩
  rw [nineObj, Nat.zero_add]
  refine cell_new _ _ _ _ _ _ ?_
  have : i = 0 ∨ i = 1 ∨ i = 2 ∨ i = 3 ∨ i = 4 ∨ i = 5 ∨ i = 6 ∨ i = 7 ∨ i = 8 := by omega
  rcases this with rfl | rfl | rfl | rfl | rfl | rfl | rfl | rfl | rfl <;> rfl
set_option maxHeartbeats 400000 in
theorem shown2_any (w : World) : Calls Try.prog 9 #[] w fun e w' => e = .returned (.bool true) ∧ w' = w.alloc nineObj := by
  have HB : Hid (BV (w.alloc nineObj) (some ⟨w.heap.size, 0, none⟩) 9 [49, 50, 51, 52, 53, 54, 55, 56, 57]) := BV.nine w
  have hk : (convert 22 22 (.slice (some ⟨w.heap.size, 0, none⟩) 9 9)).run Try.prog (w.alloc (.cells #[.int .u8 49, .int .u8 50, .int .u8 51, .int .u8 52, .int .u8 53, .int .u8 54, .int .u8 55, .int .u8 56, .int .u8 57] 5)) = .ok (.slice (some ⟨w.heap.size, 0, none⟩) 9 9) (w.alloc nineObj) := Lib.run_convert_bytes_const w 22 5 nine 9 9 Try.underlying22 Try.underlying5
  go_enter Try.func9, Try.ntmps9
  go_wp2_with (go_at_call 13; refine (sum_any _ 9 9 _ _ HB.out (by omega)).mono ?_; rintro e w' ⟨rfl, rfl⟩; rw [crc_shown])
  go_ret
  exact ⟨rfl, rfl⟩
theorem shown2_is (w : World) : Calls Try.prog 9 #[] w fun e w' => e = .returned (.bool true) ∧ Below w.heap.size w w' :=
  (shown2_any w).mono fun e w' h => ⟨h.1, by rw [h.2]; exact (Below.refl _ _).alloc (Nat.le_refl _) _⟩

set_option maxHeartbeats 400000 in
theorem short2_any (a : Option Addr) (n cap : Nat) (zs : List Int) (w : World) (hv : BV w a n zs) (hcap : n ≤ cap) :
    Calls Try.prog 10 #[.slice a n cap] w fun e w' => e = .returned (.slice a (min n 300) cap) ∧ w' = w := by
  by_cases h : 300 < n
  · obtain ⟨h1, h2, h3⟩ := hv
    rcases h3 with h3 | ⟨b, off, rfl, hcell⟩
    · omega
    clear hcell h2
    go_enter Try.func10, Try.ntmps10
    go_wp2
    go_ret
    exact ⟨ret_slice (by omega), rfl⟩
  · rw [Nat.min_eq_left (by omega)]
    clear hv
    go_enter Try.func10, Try.ntmps10
    go_wp2
    go_ret
    exact ⟨rfl, rfl⟩
theorem short2_is {a : Option Addr} {n cap : Nat} {zs : List Int} {w : World} (hv : BV w a n zs) (hcap : n ≤ cap) {m : Nat} (hm : m = min n 300) :
    Calls Try.prog 10 #[.slice a n cap] w fun e w' => e = .returned (.slice a m cap) ∧ w' = w := by
  subst hm; exact short2_any a n cap zs w hv hcap
end Go.Proofs.Ytfdkocpplhkccaa
