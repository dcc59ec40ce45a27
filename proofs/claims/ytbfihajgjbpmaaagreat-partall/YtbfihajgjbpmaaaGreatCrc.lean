/- Texts that belong together, one behind the other: C2p, C2s, C2f, C2q, C2u. -/
import Derived.Laws.BitsAll
import Derived.Test.YtbfihajgjbpmaaaGreatBase
import Derived.Lib.SlBytesConst
import Derived.Lib.SliceRun
/- Plain facts on the sum of bytes as a register that is moved down bit by bit: no Go in sight. -/
namespace Go.Proofs.YtbfihajgjbpmaaaGreat
set_option linter.unusedVariables false
set_option maxRecDepth 4000

/-- the register, moved down by one bit -/
def stepN (r : Nat) : Nat := if r % 2 = 1 then r / 2 ^^^ 3988292384 else r / 2
/-- the register, moved down by k bits -/
def stepsN : Nat → Nat → Nat
  | 0, r => r
  | k + 1, r => stepsN k (stepN r)
/-- the bytes as one number, the first the lowest -/
def numOf : List Int → Nat
  | [] => 0
  | c :: r => c.toNat ^^^ (numOf r * 256)
/-- the register behind some bytes -/
def regN : List Int → Nat → Nat
  | [], r => r
  | c :: zs, r => regN zs (stepsN 8 (r ^^^ c.toNat))
/-- the sum of some bytes -/
def crcN (zs : List Int) : Nat := regN zs 4294967295 ^^^ 4294967295

theorem xor_half (a b : Nat) : (a ^^^ b) / 2 = a / 2 ^^^ b / 2 := Nat.xor_div_two
theorem xor_low (a b : Nat) : (a ^^^ b) % 2 = 1 ↔ ¬ (a % 2 = 1 ↔ b % 2 = 1) := by
  have h := Nat.testBit_xor a b 0
  simp only [Nat.testBit_zero] at h
  by_cases ha : a % 2 = 1 <;> by_cases hb : b % 2 = 1 <;> simp [ha, hb] at h ⊢ <;> omega
theorem xor_lt32 {a b : Nat} (ha : a < 4294967296) (hb : b < 4294967296) : a ^^^ b < 4294967296 := Nat.xor_lt_two_pow (n := 32) ha hb
theorem xor_lt8 {a b : Nat} (ha : a < 256) (hb : b < 256) : a ^^^ b < 256 := Nat.xor_lt_two_pow (n := 8) ha hb
theorem xor_swap4 (a b c d : Nat) : (a ^^^ b) ^^^ (c ^^^ d) = (a ^^^ c) ^^^ (b ^^^ d) := by
  rw [Nat.xor_assoc, Nat.xor_assoc, ← Nat.xor_assoc b, Nat.xor_comm b c, Nat.xor_assoc c]

theorem stepN_xor (a b : Nat) : stepN (a ^^^ b) = stepN a ^^^ stepN b := by
  unfold stepN
  have h := xor_low a b
  rw [xor_half]
  by_cases ha : a % 2 = 1 <;> by_cases hb : b % 2 = 1
  · rw [if_neg (by rw [h]; simp [ha, hb]), if_pos ha, if_pos hb, xor_swap4, Nat.xor_self, Nat.xor_zero]
  · rw [if_pos (by rw [h]; simp [ha, hb]), if_pos ha, if_neg hb, Nat.xor_assoc, Nat.xor_assoc, Nat.xor_comm (b / 2)]
  · rw [if_pos (by rw [h]; simp [ha, hb]), if_neg ha, if_pos hb, Nat.xor_assoc]
  · rw [if_neg (by rw [h]; simp [ha, hb]), if_neg ha, if_neg hb]
theorem stepsN_xor : ∀ (k a b : Nat), stepsN k (a ^^^ b) = stepsN k a ^^^ stepsN k b
  | 0, a, b => rfl
  | k + 1, a, b => by rw [stepsN, stepsN, stepsN, stepN_xor, stepsN_xor k]
theorem stepN_two (a : Nat) : stepN (a * 2) = a := by unfold stepN; rw [if_neg (by omega)]; omega
theorem stepsN_pow : ∀ (k a : Nat), stepsN k (a * 2 ^ k) = a
  | 0, a => by simp [stepsN]
  | k + 1, a => by rw [stepsN, Nat.pow_succ, ← Nat.mul_assoc, stepN_two, stepsN_pow k]
theorem stepsN_add : ∀ (k j a : Nat), stepsN (k + j) a = stepsN j (stepsN k a)
  | 0, j, a => by rw [Nat.zero_add]; rfl
  | k + 1, j, a => by rw [show k + 1 + j = (k + j) + 1 from by omega, stepsN, stepsN, stepsN_add k j]
theorem stepsN_last (k a : Nat) : stepsN (k + 1) a = stepN (stepsN k a) := by rw [stepsN_add]; rfl
theorem stepN_lt {a : Nat} (h : a < 4294967296) : stepN a < 4294967296 := by
  unfold stepN
  split
  · exact xor_lt32 (by omega) (by omega)
  · omega
theorem stepsN_lt : ∀ (k : Nat) {a : Nat}, a < 4294967296 → stepsN k a < 4294967296
  | 0, _, h => h
  | k + 1, _, h => stepsN_lt k (stepN_lt h)
theorem xor_eq_zero {a b : Nat} (h : a ^^^ b = 0) : a = b := by
  have : (a ^^^ b) ^^^ b = b := by rw [h, Nat.zero_xor]
  rw [Nat.xor_assoc, Nat.xor_self, Nat.xor_zero] at this
  exact this
theorem stepN_zero {a : Nat} (h : a < 4294967296) (h0 : stepN a = 0) : a = 0 := by
  unfold stepN at h0
  split at h0
  · have := xor_eq_zero h0; omega
  · omega
theorem stepsN_zero : ∀ (k : Nat) {a : Nat}, a < 4294967296 → stepsN k a = 0 → a = 0
  | 0, _, _, h0 => h0
  | k + 1, _, h, h0 => stepN_zero h (stepsN_zero k (stepN_lt h) h0)

/-- bits in a row, 32 at most, that are not all 0, leave the register other than 0 -/
theorem burst (n t m : Nat) (ht : t ≤ n) (hm : m < 4294967296) (h : stepsN n (m * 2 ^ t) = 0) : m = 0 := by
  rw [show n = t + (n - t) from by omega, stepsN_add, stepsN_pow] at h
  exact stepsN_zero _ hm h

theorem regN_eq : ∀ (zs : List Int) (r : Nat), regN zs r = stepsN (8 * zs.length) (r ^^^ numOf zs)
  | [], r => by rw [regN, numOf, Nat.xor_zero]; rfl
  | c :: zs, r => by
    rw [regN, regN_eq zs, numOf, List.length_cons, show 8 * (zs.length + 1) = 8 + 8 * zs.length from by omega, stepsN_add, ← Nat.xor_assoc, stepsN_xor 8 (r ^^^ c.toNat), stepsN_pow 8]
theorem regN_lt : ∀ (zs : List Int) {r : Nat}, (∀ z ∈ zs, 0 ≤ z ∧ z ≤ 255) → r < 4294967296 → regN zs r < 4294967296
  | [], _, _, h => h
  | c :: zs, r, hz, h => by
    rw [regN]
    have hc := hz c (List.mem_cons_self ..)
    exact regN_lt zs (fun z h' => hz z (List.mem_cons_of_mem _ h')) (stepsN_lt 8 (xor_lt32 h (by omega)))
theorem regN_snoc : ∀ (zs : List Int) (c : Int) (r : Nat), regN (zs ++ [c]) r = stepsN 8 (regN zs r ^^^ c.toNat)
  | [], c, r => rfl
  | d :: zs, c, r => by rw [List.cons_append, regN, regN, regN_snoc zs]
theorem crcN_lt {zs : List Int} (hz : ∀ z ∈ zs, 0 ≤ z ∧ z ≤ 255) : crcN zs < 4294967296 := xor_lt32 (regN_lt zs hz (by omega)) (by omega)
theorem not32 (a : Nat) (h : a < 4294967296) : a ^^^ 4294967295 = 4294967295 - a := by
  have h1 := congrArg BitVec.toNat (BitVec.xor_allOnes (x := BitVec.ofNat 32 a))
  rw [BitVec.toNat_xor, BitVec.toNat_not, BitVec.toNat_allOnes, BitVec.toNat_ofNat, Nat.mod_eq_of_lt (show a < 2 ^ 32 from h)] at h1
  exact h1

/-- two rows of bytes of one length have one sum just if what they differ in leaves the register 0 -/
theorem crcN_eq {a b : List Int} (hl : a.length = b.length) : crcN a = crcN b ↔ stepsN (8 * a.length) (numOf a ^^^ numOf b) = 0 := by
  unfold crcN
  rw [regN_eq, regN_eq, ← hl, stepsN_xor, stepsN_xor, stepsN_xor]
  generalize stepsN (8 * a.length) 4294967295 = p
  generalize stepsN (8 * a.length) (numOf a) = x
  generalize stepsN (8 * a.length) (numOf b) = y
  constructor
  · intro h
    have h1 : (p ^^^ x ^^^ 4294967295) ^^^ (p ^^^ y ^^^ 4294967295) = 0 := by rw [h, Nat.xor_self]
    rw [xor_swap4, Nat.xor_self, Nat.xor_zero, xor_swap4, Nat.xor_self, Nat.zero_xor] at h1
    exact h1
  · intro h; rw [xor_eq_zero h]

theorem mul_xor (k x y : Nat) : (x ^^^ y) * 2 ^ k = x * 2 ^ k ^^^ y * 2 ^ k := by
  rw [← Nat.shiftLeft_eq, Nat.shiftLeft_xor_distrib, Nat.shiftLeft_eq, Nat.shiftLeft_eq]
/-- a byte of a row, in the stead of which another one stands -/
theorem numOf_set : ∀ (zs : List Int) (j : Nat) (c : Int) (d : Nat), j < zs.length → c.toNat = (zs.getD j 0).toNat ^^^ d → numOf (zs.set j c) = numOf zs ^^^ d * 2 ^ (8 * j)
  | [], j, c, d, h, _ => by simp at h
  | z :: zs, 0, c, d, h, hc => by
    simp at hc
    rw [List.set_cons_zero, numOf, numOf, hc, Nat.xor_assoc, Nat.xor_comm d, ← Nat.xor_assoc]
    simp
  | z :: zs, j + 1, c, d, h, hc => by
    rw [List.set_cons_succ, numOf, numOf, numOf_set zs j c d (by simpa using h) (by simpa using hc), Nat.xor_assoc, show 8 * (j + 1) = 8 * j + 8 from by omega, Nat.pow_add, ← Nat.mul_assoc]
    congr 1
    exact mul_xor 8 _ _

end Go.Proofs.YtbfihajgjbpmaaaGreat
/- The contracts of Sum, and of what stands at the head of layer 2's statements. -/
namespace Go.Proofs.YtbfihajgjbpmaaaGreat
open Go.ChangeShapes Go.WideShapes Go.ChangeAt Go.RowKit
set_option linter.unusedVariables false
set_option maxRecDepth 4000

theorem u32_low (r : Nat) (hr : r < 4294967296) : bits BinOp.and IntKind.u32 (r : Int) 1 = ((r % 2 : Nat) : Int) := by
  have := u32_and_nat r 1 hr (by omega)
  rw [Nat.and_one_is_mod] at this
  exact this
theorem u32_poly (r : Nat) (hr : r < 4294967296) : bits BinOp.xor IntKind.u32 ((r : Int) / 2) 3988292384 = ((r / 2 ^^^ 3988292384 : Nat) : Int) := by
  exact u32_xor_nat (r / 2) 3988292384 (by omega) (by omega)

set_option maxHeartbeats 400000 in
theorem step_any (r : Nat) (w : World) (hr : r < 4294967296) :
    Calls Tryz.prog 114 #[.int .u32 (r : Int)] w fun e w' => e = .returned (.int .u32 (stepN r : Int)) ∧ w' = w := by
  by_cases h : r % 2 = 1
  · have hb : (bits BinOp.and IntKind.u32 (r : Int) 1 == 1) = true := by rw [u32_low r hr, h]; rfl
    have HR : Hid (bits BinOp.xor IntKind.u32 ((r : Int) / 2) 3988292384 = (stepN r : Int)) := by show _ = _; rw [u32_poly r hr, stepN, if_pos h]
    clear h
    go_enter Tryz.func114, Tryz.ntmps114
    go_wp2
    go_ret
    exact ⟨ret_int HR.out, rfl⟩
  · have hb : (bits BinOp.and IntKind.u32 (r : Int) 1 == 1) = false := by rw [u32_low r hr, show r % 2 = 0 from by omega]; rfl
    have HR : Hid ((r : Int) / 2 = (stepN r : Int)) := by show _ = _; rw [stepN, if_neg h]; omega
    clear h
    go_enter Tryz.func114, Tryz.ntmps114
    go_wp2
    go_ret
    exact ⟨ret_int HR.out, rfl⟩

theorem take_snoc (zs : List Int) (k : Nat) (c : Int) (hk : k < zs.length) (hc : c = zs.getD k 0) : zs.take (k + 1) = zs.take k ++ [c] := by
  rw [List.take_succ_eq_append_getElem hk, hc]; simp [List.getD, hk]
theorem u32_byte (r : Nat) (c : Int) (hr : r < 4294967296) (h0 : 0 ≤ c) (h1 : c ≤ 255) : bits BinOp.xor IntKind.u32 (r : Int) c = ((r ^^^ c.toNat : Nat) : Int) := by
  have := u32_xor_nat r c.toNat hr (by omega)
  rw [show ((c.toNat : Nat) : Int) = c from by omega] at this
  exact this
theorem u32_not (r : Nat) (hr : r < 4294967296) : bits BinOp.xor IntKind.u32 4294967295 (r : Int) = ((r ^^^ 4294967295 : Nat) : Int) := by
  have := u32_xor_nat 4294967295 r (by omega) hr
  rw [Nat.xor_comm] at this
  exact this

set_option maxHeartbeats 1000000 in
theorem sum_any (a : Option Addr) (n cap : Nat) (zs : List Int) (w : World) (hv : BV w a n zs) (hmax : n ≤ 140737488355328) :
    Calls Tryz.prog 103 #[.slice a n cap] w fun e w' => e = .returned (.int .u32 (crcN zs : Int)) ∧ w' = w := by
  obtain ⟨hlen, hz, hn⟩ := hv
  go_enter Tryz.func103, Tryz.ntmps103
  go_wp2
  go_loop [3, 8] (fun x i => ∃ (k r : Nat), k ≤ n ∧ i = .int .i64 (k : Int) ∧ x = .int .u32 (r : Int) ∧ r < 4294967296 ∧ Hid (r = regN (zs.take k) 4294967295)) (fun _ i => n - (intOf i).toNat)
  case atStart => exact ⟨0, 4294967295, by omega, rfl, rfl, by omega, rfl⟩
  case round =>
    obtain ⟨k, r, hkn, rfl, rfl, hr, HR⟩ := hrel
    by_cases hlt : k < n
    · rcases hn with hn | ⟨b, off, rfl, hcell⟩
      · omega
      have hc := hcell k hlt
      obtain ⟨c, hcd⟩ : ∃ c, c = zs.getD k 0 := ⟨_, rfl⟩
      rw [← hcd] at hc
      obtain ⟨hc0, hc1⟩ : 0 ≤ c ∧ c ≤ 255 := by apply hz; rw [hcd]; simp [show k < zs.length from by omega]
      have HX : Hid (bits BinOp.xor IntKind.u32 (r : Int) c = ((r ^^^ c.toNat : Nat) : Int)) := u32_byte r c hr hc0 hc1
      have hx : r ^^^ c.toNat < 4294967296 := xor_lt32 hr (by omega)
      have HS : Hid (regN (zs.take (k + 1)) 4294967295 = stepsN 8 (r ^^^ c.toNat)) := by
        show _ = _
        rw [take_snoc zs k c (by omega) hcd, regN_snoc, ← HR.out]
      clear hcd hcell hz HR
      go_wp2
      rw [HX.out]
      go_loop [3, 16] (fun x i => ∃ (j q : Nat), j ≤ 8 ∧ i = .int .i64 (j : Int) ∧ x = .int .u32 (q : Int) ∧ q < 4294967296 ∧ Hid (q = stepsN j (r ^^^ c.toNat))) (fun _ i => 8 - (intOf i).toNat)
      case atStart => exact ⟨0, r ^^^ c.toNat, by omega, rfl, rfl, hx, rfl⟩
      case round =>
        clear HX hx
        obtain ⟨j, q, hj, rfl, rfl, hq, HQ⟩ := hrel
        by_cases hj8 : j < 8
        · go_wp2_with (go_at_call 114; refine (step_any q _ hq).mono ?_; rintro e w' ⟨rfl, rfl⟩)
          go_round
          case rel =>
            refine ⟨j + 1, stepN q, by omega, by go_num, rfl, stepN_lt hq, ?_⟩
            show _ = _
            rw [stepsN_last, ← HQ.out]
          case measure => simp [intOf]; omega
        · obtain rfl : j = 8 := by omega
          go_wp2
          go_round
          case rel => exact ⟨k + 1, q, by omega, by go_num, rfl, hq, (show _ = _ by rw [HS.out, ← HQ.out])⟩
          case measure => simp [intOf]; omega
    · obtain rfl : k = n := by omega
      have HE : Hid (bits BinOp.xor IntKind.u32 4294967295 (r : Int) = (crcN zs : Int)) := by
        show _ = _
        rw [u32_not r hr, crcN, HR.out, List.take_of_length_le (by omega)]
      clear HR
      go_wp2
      go_ret
      exact ⟨ret_int HE.out, rfl⟩

end Go.Proofs.YtbfihajgjbpmaaaGreat
/- Frames: plain facts, and the contracts of Frame and Unframe. -/
namespace Go.Proofs.YtbfihajgjbpmaaaGreat
open Go.ChangeShapes Go.WideShapes Go.ChangeAt Go.RowKit
set_option linter.unusedVariables false
set_option maxRecDepth 4000

/-- the sum of some bytes as four bytes -/
def sealL (zs : List Int) : List Int := (w8 (crcN zs : Int)).take 4
/-- the frame of some bytes -/
def frameL (zs : List Int) : List Int := pv (zs.length : Int) ++ sealL zs ++ zs
theorem sealL_len (zs : List Int) : (sealL zs).length = 4 := rfl
theorem sealL_bytes (zs : List Int) : ∀ z ∈ sealL zs, 0 ≤ z ∧ z ≤ 255 := fun z hz => w8_bytes _ z (List.mem_of_mem_take hz)

theorem BV.seal (x : Int) (w : World) : BV (w.alloc (p64Obj x)) (some ⟨w.heap.size, 0, none⟩) 4 ((Go.Proofs.YtbfihajgjbpmaaaGreat.w8 x).take 4) := (BV.w8 x w).take 4 (by omega)
set_option maxHeartbeats 400000 in
theorem seal_any (a : Option Addr) (n cap : Nat) (zs : List Int) (w : World) (hv : BV w a n zs) (hmax : n ≤ 140737488355328) :
    Calls Tryz.prog 87 #[.slice a n cap] w fun e w' => e = .returned (.slice (some ⟨w.heap.size, 0, none⟩) 4 8) ∧ w' = w.alloc (p64Obj (crcN zs : Int)) := by
  have hlt := crcN_lt hv.2.1
  have h0 : (0 : Int) ≤ (crcN zs : Int) := by omega
  have h1 : (crcN zs : Int) ≤ 18446744073709551615 := by omega
  have h2 : IntKind.u64.wrap (crcN zs : Int) = (crcN zs : Int) := by rw [IntKind.wrap_u64]; omega
  generalize hx : crcN zs = x at *
  have HX : Hid (crcN zs = x) := hx
  clear hx
  go_enter Tryz.func87, Tryz.ntmps87
  go_wp2_with (go_at_call 103; refine (sum_any _ _ _ _ _ hv hmax).mono ?_; rintro e w' ⟨rfl, rfl⟩; rw [HX.out])
  refine (put64_any x _ h0 h1).mono ?_
  rintro e w' ⟨rfl, rfl⟩
  go_wp2_with fail
  go_ret
  exact ⟨rfl, rfl⟩

set_option maxHeartbeats 400000 in
theorem frame_any (a : Option Addr) (n cap : Nat) (zs : List Int) (w : World) (hv : BV w a n zs) (hmax : n ≤ 140737488350000) :
    Calls Tryz.prog 55 #[.slice a n cap] w fun e w' => ∃ v, e = .returned v ∧ OW w' w.heap.size v (frameL zs) ∧ Below w.heap.size w w' := by
  have h0 : (0 : Int) ≤ (n : Int) := by omega
  have h1 : (n : Int) ≤ 18446744073709551615 := by omega
  have h10 := pv_len10 (x := (n : Int)) (by omega)
  have HL : Hid (zs.length = n) := hv.1
  have hb1 : Below w.heap.size w (w.alloc (pvObj (n : Int))) := (Below.refl _ _).alloc (Nat.le_refl _) _
  have ho1 := OW.pv (n : Int) w w.heap.size (Nat.le_refl _) (by omega) _ rfl
  have hv1 := hv.below hb1
  go_enter Tryz.func55, Tryz.ntmps55
  go_wp2_with (go_at_call 86; refine (putvar_any (n : Int) _ h0 h1).mono ?_; rintro e w' ⟨rfl, rfl⟩)
  generalize w.alloc (pvObj (n : Int)) = w1 at *
  have hs1 := hb1.size
  refine (seal_any _ _ _ _ _ hv1 (by omega)).mono ?_
  rintro e w' ⟨rfl, rfl⟩
  have hsl : BV (w1.alloc (p64Obj (crcN zs : Int))) (some ⟨w1.heap.size, 0, none⟩) 4 (sealL zs) := BV.seal _ w1
  go_wp2_with (first | (at_builtin; refine append_ow rfl (.tmp 8) (.tmp 10) rfl w.heap.size _ _ rfl (ho1.alloc _) _ 4 _ (sealL zs) rfl hsl (by omega) (by rw [heap_alloc]; omega) ?_; intro v2 w2 ho2 hb2; have hk2 := (hb1.alloc hs1 _).trans hb2; have hv2 := hv.below hk2; have hs2 := hk2.size) | (at_builtin; refine append_ow rfl (.tmp 12) (.tmp 13) rfl w.heap.size _ _ rfl ho2 _ n _ zs rfl hv2 (by rw [List.length_append, sealL_len]; omega) hs2 ?_; intro v3 w3 ho3 hb3; have hk3 := hk2.trans hb3))
  go_ret
  refine ⟨_, rfl, ?_, hk3⟩
  rw [frameL, HL.out]
  exact ho3

set_option maxHeartbeats 400000 in
theorem clone_any (a : Option Addr) (n cap : Nat) (zs : List Int) (w : World) (hv : BV w a n zs) (hmax : n ≤ 140737488350000) :
    Calls Tryz.prog 96 #[.slice a n cap] w fun e w' => ∃ v, e = .returned v ∧ OW w' w.heap.size v zs ∧ Below w.heap.size w w' := by
  cases a with
  | none =>
    have hn : n = 0 := by
      rcases hv.2.2 with h | ⟨b, off, h, _⟩
      · exact h
      · cases h
    subst hn
    have hz : zs = [] := List.eq_nil_of_length_eq_zero hv.1
    clear hv
    have hnil : ∀ wx, (binOp .eql 26 (.slice none 0 cap) (.slice none 0 0)).run Tryz.prog wx = .ok (.bool true) wx := fun wx => Lib.run_eql_slice_nil wx 26 5 none 0 cap 0 0 Tryz.underlying26
    go_enter Tryz.func96, Tryz.ntmps96
    go_wp2
    go_ret
    exact ⟨_, rfl, .inl ⟨rfl, hz⟩, Below.refl _ _⟩
  | some x =>
    have hnil : ∀ wx, (binOp .eql 26 (.slice (some x) n cap) (.slice none 0 0)).run Tryz.prog wx = .ok (.bool false) wx := fun wx => Lib.run_eql_slice_nil wx 26 5 (some x) n cap 0 0 Tryz.underlying26
    go_enter Tryz.func96, Tryz.ntmps96
    go_wp2_with (at_builtin; refine append_ow rfl (.tmp 5) (.tmp 6) rfl w.heap.size _ [] rfl (OW.empty _ _ (Nat.le_refl _) _ rfl) _ n _ zs rfl (hv.alloc _) (by simp only [List.length_nil]; omega) (by rw [heap_alloc]; omega) ?_; intro v2 w2 ho2 hb2)
    go_ret
    rw [List.nil_append] at ho2
    exact ⟨_, rfl, ho2, ((Below.refl _ _).alloc (Nat.le_refl _) _).trans hb2⟩

/-- where a slice lies that is cut from place l on -/
def cutAt (b off cap l : Nat) : Option Addr := if cap = l then some ⟨b, off, none⟩ else some ⟨b, off + l, none⟩
theorem BV.part {w : World} {b off n : Nat} {zs : List Int} (h : BV w (some ⟨b, off, none⟩) n zs) (cap l m : Nat) (hc : n ≤ cap) (hm : l + m ≤ n) : BV w (cutAt b off cap l) m ((zs.drop l).take m) := by
  have h1 := (h.cut l cap (by omega) hc).take m (by omega)
  exact h1
theorem slice_lh (b off len cap : Nat) (l h : Int) (L m : Nat) (hl : l = L) (hh : h = L + m) (hc : L + m ≤ cap) (w : World) :
    (Instr.slice 26 (.slice (some ⟨b, off, none⟩) len cap) (some (.int .i64 l)) (some (.int .i64 h)) none).run Tryz.prog w = .ok (.slice (cutAt b off cap L) m (cap - L)) w := by
  subst hl hh
  rw [run_slice_lh w 26 _ len cap underB .i64 .i64 _ _ (by omega) (by omega) (by omega), sizeB]
  have ha : (⟨b, off, none⟩ : Addr).add L = ⟨b, off + L, none⟩ := by unfold Addr.add; split <;> simp_all
  simp only [Result.andThen, sliced, Nat.mul_one, Int.toNat_natCast, Option.map_some, ha, cutAt]
  rw [show ((L : Int) + (m : Int)).toNat - L = m from by omega]

/-- what some bytes say as a frame: the bytes within, how many bytes it has, the error -/
def unf (zs : List Int) : List Int × Int × Int :=
  if (varR zs).2 = 0 ∨ 1048576 < (varR zs).1 ∨ (zs.length : Int) < (varR zs).2 + 4 + (varR zs).1 then ([], 0, 10)
  else if (zs.drop (varR zs).2.toNat).take 4 = sealL ((zs.drop ((varR zs).2.toNat + 4)).take (varR zs).1.toNat) then ((zs.drop ((varR zs).2.toNat + 4)).take (varR zs).1.toNat, (varR zs).2 + 4 + (varR zs).1, 0)
  else ([], 0, 11)
theorem unf_bad {zs : List Int} {s k : Int} (hs : (varR zs).1 = s) (hk : (varR zs).2 = k) (h : k = 0 ∨ 1048576 < s ∨ (zs.length : Int) < k + 4 + s) : unf zs = ([], 0, 10) := by
  subst hs hk; rw [unf, if_pos h]
theorem unf_some {zs : List Int} {s k : Nat} (hs : (varR zs).1 = s) (hk : (varR zs).2 = k) (h : ¬ (k = 0 ∨ 1048576 < s ∨ zs.length < k + 4 + s)) :
    unf zs = if (zs.drop k).take 4 = sealL ((zs.drop (k + 4)).take s) then ((zs.drop (k + 4)).take s, (k : Int) + 4 + s, 0) else ([], 0, 11) := by
  rw [unf, hs, hk, if_neg (by omega), Int.toNat_natCast, Int.toNat_natCast]

set_option maxHeartbeats 1000000 in
theorem unframe_any (a : Option Addr) (n cap : Nat) (zs : List Int) (w : World) (hv : BV w a n zs) (hcap : n ≤ cap) (hmax : n ≤ 140737488350000) :
    Calls Tryz.prog 68 #[.slice a n cap] w fun e w' => ∃ v, e = .returned (.tuple #[v, .int .i64 (unf zs).2.1, .int .i64 (unf zs).2.2]) ∧ OW w' w.heap.size v (unf zs).1 ∧ Below w.heap.size w w' := by
  obtain ⟨hr0, hr1, hk0, hk1, hkn⟩ := varR_bd zs hv.2.1
  obtain ⟨s, hs⟩ : ∃ s, (varR zs).1 = s := ⟨_, rfl⟩
  obtain ⟨k, hk⟩ : ∃ k, (varR zs).2 = k := ⟨_, rfl⟩
  rw [hs] at hr0 hr1
  rw [hk] at hk0 hk1 hkn
  have hlen := hv.1
  have HS : Hid ((varR zs).1 = s) := hs
  have HK : Hid ((varR zs).2 = k) := hk
  clear hs hk
  by_cases h1 : k = 0
  · have HU : Hid (unf zs = ([], 0, 10)) := unf_bad HS.out HK.out (.inl h1)
    subst h1
    go_enter Tryz.func68, Tryz.ntmps68
    go_wp2_with (go_at_call 95; refine (var_any _ _ _ _ _ hv).mono ?_; rintro e w' ⟨rfl, rfl⟩; rw [HS.out, HK.out])
    go_ret3
    rw [HU.out]
    exact ⟨_, rfl, .inl ⟨rfl, rfl⟩, Below.refl _ _⟩
  · have hk0' : (k == 0) = false := by rw [beq_eq_false_iff_ne]; exact h1
    by_cases h2 : 1048576 < s
    · have HU : Hid (unf zs = ([], 0, 10)) := unf_bad HS.out HK.out (.inr (.inl h2))
      go_enter Tryz.func68, Tryz.ntmps68
      go_wp2_with (go_at_call 95; refine (var_any _ _ _ _ _ hv).mono ?_; rintro e w' ⟨rfl, rfl⟩; rw [HS.out, HK.out])
      go_ret3
      rw [HU.out]
      exact ⟨_, rfl, .inl ⟨rfl, rfl⟩, Below.refl _ _⟩
    · obtain ⟨S, rfl⟩ : ∃ S : Nat, s = S := ⟨s.toNat, by omega⟩
      obtain ⟨K, rfl⟩ : ∃ K : Nat, k = K := ⟨k.toNat, by omega⟩
      have hw1 : IntKind.i64.wrap (S : Int) = (S : Int) := by rw [IntKind.wrap_i64]; omega
      by_cases h3 : (n : Int) < (K : Int) + 4 + (S : Int)
      · have HU : Hid (unf zs = ([], 0, 10)) := unf_bad HS.out HK.out (.inr (.inr (by omega)))
        go_enter Tryz.func68, Tryz.ntmps68
        go_wp2_with (go_at_call 95; refine (var_any _ _ _ _ _ hv).mono ?_; rintro e w' ⟨rfl, rfl⟩; rw [HS.out, HK.out])
        go_ret3
        rw [HU.out]
        exact ⟨_, rfl, .inl ⟨rfl, rfl⟩, Below.refl _ _⟩
      · have HU : Hid (unf zs = _) := unf_some HS.out HK.out (by omega)
        obtain ⟨b, off, rfl, -⟩ : ∃ b off, a = some ⟨b, off, none⟩ ∧ True := by
          rcases hv.2.2 with h | ⟨b, off, h, _⟩
          · omega
          · exact ⟨b, off, h, trivial⟩
        have hD := hv.part cap (K + 4) S hcap (by omega)
        have hF := hv.part cap K 4 hcap (by omega)
        have hsD := fun wx => slice_lh b off n cap ((K : Int) + 4) ((K : Int) + 4 + (S : Int)) (K + 4) S (by omega) (by omega) (by omega) wx
        have hsF := fun wx => slice_lh b off n cap (K : Int) ((K : Int) + 4) K 4 (by omega) (by omega) (by omega) wx
        generalize (zs.drop (K + 4)).take S = D at *
        generalize (zs.drop K).take 4 = F at *
        generalize cutAt b off cap (K + 4) = aD at *
        generalize cutAt b off cap K = aF at *
        go_enter Tryz.func68, Tryz.ntmps68
        go_wp2_with (go_at_call 95; refine (var_any _ _ _ _ _ hv).mono ?_; rintro e w' ⟨rfl, rfl⟩; rw [HS.out, HK.out])
        have hk9 : Below w'.heap.size w' (w'.drew.alloc (p64Obj (crcN D : Int))) := (Below.refl _ _).drew.alloc (Nat.le_refl _) _
        have hS47 : S ≤ 140737488350000 := by omega
        have hS48 : S ≤ 140737488355328 := by omega
        refine wp_region_noPanic ?_
        refine wp_region_held_drew (S := Ext (World.drew _)) (by kernel_rfl) (Ext.refl _) (fun hS => ?_)
        refine take_at (i := 0) (v := ?_) (some 35) rfl (by kernel_rfl) (by kernel_rfl) (by kernel_rfl) rfl (fun _ _ _ h => h) (Or.inl ⟨by rfl, ?_⟩) hS ?_
        rotate_left
        · (intro wq hq; go_simp); first | done | with_reducible rfl
        try simp only [Act.put, List.setIfInBounds_toArray, List.set_cons_zero, List.set_cons_succ]
        refine take_at (i := 1) (v := ?_) (some 36) rfl (by kernel_rfl) (by kernel_rfl) (by kernel_rfl) rfl (fun _ _ _ h => h) (Or.inl ⟨by rfl, ?_⟩) hS ?_
        rotate_left
        · (intro wq hq; go_simp); first | done | with_reducible rfl
        try simp only [Act.put, List.setIfInBounds_toArray, List.set_cons_zero, List.set_cons_succ]
        refine take_at (i := 2) (v := ?_) (some 37) rfl (by kernel_rfl) (by kernel_rfl) (by kernel_rfl) rfl (fun _ _ _ h => h) (Or.inl ⟨by rfl, ?_⟩) hS ?_
        rotate_left
        · (intro wq hq; go_simp); first | done | with_reducible rfl
        try simp only [Act.put, List.setIfInBounds_toArray, List.set_cons_zero, List.set_cons_succ]
        refine take_at (i := 3) (v := ?_) (some 38) rfl (by kernel_rfl) (by kernel_rfl) (by kernel_rfl) rfl (fun _ _ _ h => h) (Or.inl ⟨by rfl, ?_⟩) hS ?_
        rotate_left
        · (intro wq hq; go_simp); first | done | with_reducible rfl
        try simp only [Act.put, List.setIfInBounds_toArray, List.set_cons_zero, List.set_cons_succ]
        refine take_at (i := 4) (v := ?_) (some 39) rfl (by kernel_rfl) (by kernel_rfl) (by kernel_rfl) rfl (fun _ _ _ h => h) (Or.inl ⟨by rfl, ?_⟩) hS ?_
        rotate_left
        · (intro wq hq; go_simp); first | done | with_reducible rfl
        try simp only [Act.put, List.setIfInBounds_toArray, List.set_cons_zero, List.set_cons_succ]
        refine wpAnyH_ready (rs := [5]) (by kernel_rfl) (by simp) ?_
        refine AllReadyH.cons rfl (fun K hK => ?_) AllReadyH.nil
        go_simp
        refine (seal_any _ _ _ _ _ hD.drew hS48).mono ?_
        rintro e w1 ⟨rfl, rfl⟩
        refine hK.out _ _ ((Ext.refl _).alloc _) (fun hS0 => ?_)
        clear hK K
        try simp only [Act.put, List.setIfInBounds_toArray, List.set_cons_zero, List.set_cons_succ]
        clear hS
        refine held_now hS0 (fun hS => ?_)
        clear hS0
        have hq1 := hF.below hk9
        have hq2 : BV (w'.drew.alloc (p64Obj (crcN D : Int))) (some ⟨w'.heap.size, 0, none⟩) 4 (sealL D) := BV.seal _ w'.drew
        refine wpAnyH_ready (rs := [6]) (by kernel_rfl) (by simp) ?_
        refine AllReadyH.cons rfl (fun K hK => ?_) AllReadyH.nil
        go_simp
        refine (equal_any _ _ _ _ _ _ _ _ _ hq1 hq2).mono ?_
        rintro e w1 ⟨rfl, rfl⟩
        refine hK.out _ _ (Ext.refl _) (fun hS0 => ?_)
        clear hK K
        try simp only [Act.put, List.setIfInBounds_toArray, List.set_cons_zero, List.set_cons_succ]
        clear hS
        refine held_now hS0 (fun hS => ?_)
        clear hS0
        refine take_at (i := 7) (v := ?_) (some 42) rfl (by kernel_rfl) (by kernel_rfl) (by kernel_rfl) rfl (fun _ _ _ h => h) (Or.inl ⟨by rfl, ?_⟩) hS ?_
        rotate_left
        · (intro wq hq; go_simp); first | done | with_reducible rfl
        try simp only [Act.put, List.setIfInBounds_toArray, List.set_cons_zero, List.set_cons_succ]
        refine wpAnyH_done (by kernel_rfl) (NoPanic.normal ?_) _
        clear hS hq1 hq2
        have hD1 := hD.below hk9
        generalize w'.drew.alloc (p64Obj (crcN D : Int)) = w1 at *
        by_cases hfd : F = sealL D
        · have HU2 : Hid (unf zs = (D, (K : Int) + 4 + (S : Int), 0)) := by show _ = _; rw [HU.out, if_pos hfd]
          have hd : decide (F = sealL D) = true := by rw [decide_eq_true_iff]; exact hfd
          rw [hd]
          clear hfd hd HU
          go_wp2_with (go_at_call 96; refine (clone_any _ _ _ _ _ hD1 hS47).mono ?_; rintro e w2 ⟨v, rfl, ho2, hb2⟩)
          go_ret3
          rw [HU2.out]
          exact ⟨_, rfl, ho2.mono hk9.size, hk9.trans (hb2.mono hk9.size)⟩
        · have HU2 : Hid (unf zs = ([], 0, 11)) := by show _ = _; rw [HU.out, if_neg hfd]
          have hd : decide (F = sealL D) = false := by rw [decide_eq_false_iff_not]; exact hfd
          rw [hd]
          clear hfd hd HU
          go_wp2_with fail
          go_ret3
          rw [HU2.out]
          exact ⟨_, rfl, .inl ⟨rfl, rfl⟩, hk9⟩
end Go.Proofs.YtbfihajgjbpmaaaGreat
/- What frames say: plain facts. -/
namespace Go.Proofs.YtbfihajgjbpmaaaGreat
set_option linter.unusedVariables false
set_option maxRecDepth 4000

/-- any bytes behind a length and four bytes -/
theorem unf_of (n : Nat) (q d rest : List Int) (hn : d.length = n) (hq : q.length = 4) (hm : n ≤ 1048576) :
    unf (pv (n : Int) ++ q ++ d ++ rest) = if q = sealL d then (d, ((pv (n : Int)).length : Int) + 4 + n, 0) else ([], 0, 11) := by
  have hv := varR_put (n : Int) (q ++ d ++ rest) (by omega) (by omega)
  have e : pv (n : Int) ++ q ++ d ++ rest = pv (n : Int) ++ (q ++ d ++ rest) := by simp [List.append_assoc]
  have hp := pv_pos (n : Int)
  rw [e, unf_some (s := n) (k := (pv (n : Int)).length) (by rw [hv]) (by rw [hv]) (by simp only [List.length_append]; omega)]
  have d1 : (pv (n : Int) ++ (q ++ d ++ rest)).drop (pv (n : Int)).length = q ++ d ++ rest := by rw [List.drop_left]
  have d2 : (pv (n : Int) ++ (q ++ d ++ rest)).drop ((pv (n : Int)).length + 4) = d ++ rest := by
    rw [← List.drop_drop, d1, List.append_assoc]
    rw [← hq]; exact List.drop_left
  rw [d1, d2, List.take_left' hn, List.append_assoc, List.take_left' hq]
theorem frameL_len (b : List Int) : (frameL b).length = (pv (b.length : Int)).length + 4 + b.length := by
  rw [frameL]; simp only [List.length_append, sealL_len]
theorem frameL_bytes {b : List Int} (hb : ∀ z ∈ b, 0 ≤ z ∧ z ≤ 255) : ∀ z ∈ frameL b, 0 ≤ z ∧ z ≤ 255 := by
  intro z hz
  rw [frameL] at hz
  rcases List.mem_append.1 hz with h | h
  · rcases List.mem_append.1 h with h | h
    · exact pv_bytes (by omega) z h
    · exact sealL_bytes b z h
  · exact hb z h
/-- what was framed is told, whatever is behind it -/
theorem unf_frame (b rest : List Int) (hm : b.length ≤ 1048576) : unf (frameL b ++ rest) = (b, ((frameL b).length : Int), 0) := by
  have h := unf_of b.length (sealL b) b rest rfl (sealL_len b) hm
  rw [if_pos rfl] at h
  rw [frameL_len, frameL, h]
  simp only [Int.natCast_add]
  rfl
end Go.Proofs.YtbfihajgjbpmaaaGreat
/- Bytes of the call's own that are written; bits that are turned within a frame. -/
namespace Go.Proofs.YtbfihajgjbpmaaaGreat
open Go.ChangeShapes Go.WideShapes Go.ChangeAt Go.RowKit
set_option linter.unusedVariables false
set_option maxRecDepth 4000

/-- a byte of what is owned is written -/
theorem OW.set {w : World} {base g n cap : Nat} {bs : List Int} (h : OW w base (.slice (some ⟨g, 0, none⟩) n cap) bs) (i : Nat) (c : Int) (hi : i < n) : OW (w.setCell ⟨g, i, none⟩ (.int .u8 c)) base (.slice (some ⟨g, 0, none⟩) n cap) (bs.set i c) := by
  rcases h with ⟨h, _⟩ | ⟨g', cap', cur, T, hv, hg, hh, hl, hm, hs, ht⟩
  · cases h
  · cases hv
    refine .inr ⟨g, cap, cur.setIfInBounds i (.int .u8 c), T, by rw [List.length_set], hg, ?_, by rw [List.length_set]; exact hl, hm, by simpa using hs, ?_⟩
    · rw [setCell_eq_setRow w g i cur T (0, 0) _ hh]
      exact setRow_heap w g cur _ T _ hh
    · rw [List.length_set, Array.toList_setIfInBounds, List.take_set, ht, List.map_set]
theorem OW.own {w : World} {base g n cap : Nat} {bs : List Int} (h : OW w base (.slice (some ⟨g, 0, none⟩) n cap) bs) : base ≤ g ∧ bs.length = n := by
  rcases h with ⟨h, _⟩ | ⟨g', cap', cur, T, hv, hg, _⟩
  · cases h
  · cases hv; exact ⟨hg, rfl⟩
theorem OW.free {w : World} {base g n cap : Nat} {bs : List Int} (h : OW w base (.slice (some ⟨g, 0, none⟩) n cap) bs) (i : Nat) : w.frozen? ⟨g, i, none⟩ = false := by
  rcases h with ⟨h, _⟩ | ⟨g', cap', cur, T, hv, hg, hh, _⟩
  · cases h
  · cases hv; simp [World.frozen?, hh]
theorem OW.at {w : World} {base g n cap : Nat} {bs : List Int} (h : OW w base (.slice (some ⟨g, 0, none⟩) n cap) bs) (i : Nat) (hi : i < n) : w.cell? ⟨g, i, none⟩ = some (.int .u8 (bs.getD i 0)) := by
  rcases h with ⟨h, _⟩ | ⟨g', cap', cur, T, hv, hg, hh, hl, hm, hs, ht⟩
  · cases h
  · cases hv
    have e : cur[i]? = some (.int .u8 (bs.getD i 0)) := by
      have h1 : (cur.toList.take bs.length)[i]? = some (.int .u8 (bs.getD i 0)) := by rw [ht]; simp [hi]
      rw [List.getElem?_take_of_lt hi] at h1
      simpa using h1
    simp only [World.cell?, hh, e]; rfl
theorem OW.one (w : World) (x : Int) (base : Nat) (hb : base ≤ w.heap.size) (g : Nat) (hg : g = w.heap.size) : OW (w.alloc (.cells #[.int .u8 x] 5)) base (.slice (some ⟨g, 0, none⟩) 1 1) [x] := by
  subst hg
  exact .inr ⟨w.heap.size, 1, _, 5, rfl, hb, heap_alloc_new _ _, Nat.le_refl _, by unfold maxLen; omega, rfl, rfl⟩

/-- what is known of the bytes within the frame when i bits have been looked at -/
structure Turned (X D : List Int) (bit i m : Nat) (nn : Bool) : Prop where
  len : D.length = X.length
  bytes : ∀ z ∈ D, 0 ≤ z ∧ z ≤ 255
  lt : m < 2 ^ i
  num : numOf D = numOf X ^^^ m * 2 ^ bit
  flag : nn = true ↔ m = 0
  same : m = 0 → D = X
theorem pow_split (Z : Nat) : 2 ^ (Z % 8) * 2 ^ (8 * (Z / 8)) = 2 ^ Z := by rw [← Nat.pow_add]; congr 1; omega
theorem byte_bit (Z : Nat) : 2 ^ (Z % 8) < 256 := by
  have : 2 ^ (Z % 8) ≤ 2 ^ 7 := Nat.pow_le_pow_right (by omega) (by omega)
  omega
theorem Turned.turn {X D : List Int} {bit i m : Nat} {nn : Bool} (h : Turned X D bit i m nn) (c : Int) (hc : c = D.getD ((bit + i) / 8) 0) (hb : bit + i < 8 * X.length) :
    Turned X (D.set ((bit + i) / 8) ((c.toNat ^^^ 2 ^ ((bit + i) % 8) : Nat) : Int)) bit (i + 1) (m ^^^ 2 ^ i) false := by
  have hl := h.len
  have hm := h.lt
  have hne : m ^^^ 2 ^ i ≠ 0 := fun e => by have := xor_eq_zero e; omega
  have hcb : 0 ≤ c ∧ c ≤ 255 := by apply h.bytes; rw [hc]; simp [show (bit + i) / 8 < D.length from by omega]
  have hp : 2 ^ i < 2 ^ (i + 1) := Nat.pow_lt_pow_right (by omega) (by omega)
  refine ⟨by rw [List.length_set, hl], ?_, Nat.xor_lt_two_pow (by omega) hp, ?_, by simp [hne], fun e => absurd e hne⟩
  · intro z hz
    rcases List.mem_or_eq_of_mem_set hz with hz | rfl
    · exact h.bytes z hz
    · have := xor_lt8 (show c.toNat < 256 by omega) (byte_bit (bit + i)); omega
  · rw [numOf_set D ((bit + i) / 8) _ (2 ^ ((bit + i) % 8)) (by omega) (by rw [Int.toNat_natCast, hc]), h.num, pow_split, mul_xor, Nat.xor_assoc, ← Nat.pow_add, Nat.add_comm i bit]
theorem Turned.told {X D : List Int} {bit i m : Nat} {nn : Bool} (h : Turned X D bit i m nn) (hi : i ≤ 32) (hb : bit ≤ 8 * X.length) (hm : m ≠ 0) : crcN X ≠ crcN D := by
  intro e
  rw [crcN_eq h.len.symm, h.num, ← Nat.xor_assoc, Nat.xor_self, Nat.zero_xor] at e
  have : 2 ^ i ≤ 2 ^ 32 := Nat.pow_le_pow_right (by omega) hi
  exact hm (burst _ bit m hb (Nat.lt_of_lt_of_le h.lt this) e)
end Go.Proofs.YtbfihajgjbpmaaaGreat
