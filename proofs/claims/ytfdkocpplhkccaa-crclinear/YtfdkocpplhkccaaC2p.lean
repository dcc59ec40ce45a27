/- Plain facts on the sum of bytes as a register that is moved down bit by bit: no Go in sight. -/
import Derived.Laws.BitsAll
namespace Go.Proofs.Ytfdkocpplhkccaa
set_option linter.unusedVariables false

/-- the register, moved down by one bit -/
def stepN (r : Nat) : Nat := if r % 2 = 1 then r / 2 ^^^ 3988292384 else r / 2
/-- the register, moved down by k bits -/
def stepsN : Nat → Nat → Nat
  | 0, r => r
  | k + 1, r => stepsN k (stepN r)
/-- the bytes as one number, the first the lowest -/
def numOf : List Int → Nat
  | [] => 0
  | c :: r => c.toNat ^^^ (numOf r * 256)
/-- the register behind some bytes -/
def regN : List Int → Nat → Nat
  | [], r => r
  | c :: zs, r => regN zs (stepsN 8 (r ^^^ c.toNat))
/-- the sum of some bytes -/
def crcN (zs : List Int) : Nat := regN zs 4294967295 ^^^ 4294967295

theorem xor_half (a b : Nat) : (a ^^^ b) / 2 = a / 2 ^^^ b / 2 := Nat.xor_div_two
theorem xor_low (a b : Nat) : (a ^^^ b) % 2 = 1 ↔ ¬ (a % 2 = 1 ↔ b % 2 = 1) := by
  have h := Nat.testBit_xor a b 0
  simp only [Nat.testBit_zero] at h
  by_cases ha : a % 2 = 1 <;> by_cases hb : b % 2 = 1 <;> simp [ha, hb] at h ⊢ <;> omega
theorem xor_lt32 {a b : Nat} (ha : a < 4294967296) (hb : b < 4294967296) : a ^^^ b < 4294967296 := Nat.xor_lt_two_pow (n := 32) ha hb
theorem xor_lt8 {a b : Nat} (ha : a < 256) (hb : b < 256) : a ^^^ b < 256 := Nat.xor_lt_two_pow (n := 8) ha hb
theorem xor_swap4 (a b c d : Nat) : (a ^^^ b) ^^^ (c ^^^ d) = (a ^^^ c) ^^^ (b ^^^ d) := by
  rw [Nat.xor_assoc, Nat.xor_assoc, ← Nat.xor_assoc b, Nat.xor_comm b c, Nat.xor_assoc c]

theorem stepN_xor (a b : Nat) : stepN (a ^^^ b) = stepN a ^^^ stepN b := by
  unfold stepN
  have h := xor_low a b
  rw [xor_half]
  by_cases ha : a % 2 = 1 <;> by_cases hb : b % 2 = 1
  · rw [if_neg (by rw [h]; simp [ha, hb]), if_pos ha, if_pos hb, xor_swap4, Nat.xor_self, Nat.xor_zero]
  · rw [if_pos (by rw [h]; simp [ha, hb]), if_pos ha, if_neg hb, Nat.xor_assoc, Nat.xor_assoc, Nat.xor_comm (b / 2)]
  · rw [if_pos (by rw [h]; simp [ha, hb]), if_neg ha, if_pos hb, Nat.xor_assoc]
  · rw [if_neg (by rw [h]; simp [ha, hb]), if_neg ha, if_neg hb]
theorem stepsN_xor : ∀ (k a b : Nat), stepsN k (a ^^^ b) = stepsN k a ^^^ stepsN k b
  | 0, a, b => rfl
  | k + 1, a, b => by rw [stepsN, stepsN, stepsN, stepN_xor, stepsN_xor k]
theorem stepN_two (a : Nat) : stepN (a * 2) = a := by unfold stepN; rw [if_neg (by omega)]; omega
theorem stepsN_pow : ∀ (k a : Nat), stepsN k (a * 2 ^ k) = a
  | 0, a => by simp [stepsN]
  | k + 1, a => by rw [stepsN, Nat.pow_succ, ← Nat.mul_assoc, stepN_two, stepsN_pow k]
theorem stepsN_add : ∀ (k j a : Nat), stepsN (k + j) a = stepsN j (stepsN k a)
  | 0, j, a => by rw [Nat.zero_add]; rfl
  | k + 1, j, a => by rw [show k + 1 + j = (k + j) + 1 from by omega, stepsN, stepsN, stepsN_add k j]
theorem stepsN_last (k a : Nat) : stepsN (k + 1) a = stepN (stepsN k a) := by rw [stepsN_add]; rfl
theorem stepN_lt {a : Nat} (h : a < 4294967296) : stepN a < 4294967296 := by
  unfold stepN
  split
  · exact xor_lt32 (by omega) (by omega)
  · omega
theorem stepsN_lt : ∀ (k : Nat) {a : Nat}, a < 4294967296 → stepsN k a < 4294967296
  | 0, _, h => h
  | k + 1, _, h => stepsN_lt k (stepN_lt h)
theorem xor_eq_zero {a b : Nat} (h : a ^^^ b = 0) : a = b := by
  have : (a ^^^ b) ^^^ b = b := by rw [h, Nat.zero_xor]
  rw [Nat.xor_assoc, Nat.xor_self, Nat.xor_zero] at this
  exact this
theorem stepN_zero {a : Nat} (h : a < 4294967296) (h0 : stepN a = 0) : a = 0 := by
  unfold stepN at h0
  split at h0
  · have := xor_eq_zero h0; omega
  · omega
theorem stepsN_zero : ∀ (k : Nat) {a : Nat}, a < 4294967296 → stepsN k a = 0 → a = 0
  | 0, _, _, h0 => h0
  | k + 1, _, h, h0 => stepN_zero h (stepsN_zero k (stepN_lt h) h0)

/-- bits in a row, 32 at most, that are not all 0, leave the register other than 0 -/
theorem burst (n t m : Nat) (ht : t ≤ n) (hm : m < 4294967296) (h : stepsN n (m * 2 ^ t) = 0) : m = 0 := by
  rw [show n = t + (n - t) from by omega, stepsN_add, stepsN_pow] at h
  exact stepsN_zero _ hm h

theorem regN_eq : ∀ (zs : List Int) (r : Nat), regN zs r = stepsN (8 * zs.length) (r ^^^ numOf zs)
  | [], r => by rw [regN, numOf, Nat.xor_zero]; rfl
  | c :: zs, r => by
    rw [regN, regN_eq zs, numOf, List.length_cons, show 8 * (zs.length + 1) = 8 + 8 * zs.length from by omega, stepsN_add, ← Nat.xor_assoc, stepsN_xor 8 (r ^^^ c.toNat), stepsN_pow 8]
theorem regN_lt : ∀ (zs : List Int) {r : Nat}, (∀ z ∈ zs, 0 ≤ z ∧ z ≤ 255) → r < 4294967296 → regN zs r < 4294967296
  | [], _, _, h => h
  | c :: zs, r, hz, h => by
    rw [regN]
    have hc := hz c (List.mem_cons_self ..)
    exact regN_lt zs (fun z h' => hz z (List.mem_cons_of_mem _ h')) (stepsN_lt 8 (xor_lt32 h (by omega)))
theorem regN_snoc : ∀ (zs : List Int) (c : Int) (r : Nat), regN (zs ++ [c]) r = stepsN 8 (regN zs r ^^^ c.toNat)
  | [], c, r => rfl
  | d :: zs, c, r => by rw [List.cons_append, regN, regN, regN_snoc zs]
theorem crcN_lt {zs : List Int} (hz : ∀ z ∈ zs, 0 ≤ z ∧ z ≤ 255) : crcN zs < 4294967296 := xor_lt32 (regN_lt zs hz (by omega)) (by omega)
theorem not32 (a : Nat) (h : a < 4294967296) : a ^^^ 4294967295 = 4294967295 - a := by
  have h1 := congrArg BitVec.toNat (BitVec.xor_allOnes (x := BitVec.ofNat 32 a))
  rw [BitVec.toNat_xor, BitVec.toNat_not, BitVec.toNat_allOnes, BitVec.toNat_ofNat, Nat.mod_eq_of_lt (show a < 2 ^ 32 from h)] at h1
  exact h1

/-- two rows of bytes of one length have one sum just if what they differ in leaves the register 0 -/
theorem crcN_eq {a b : List Int} (hl : a.length = b.length) : crcN a = crcN b ↔ stepsN (8 * a.length) (numOf a ^^^ numOf b) = 0 := by
  unfold crcN
  rw [regN_eq, regN_eq, ← hl, stepsN_xor, stepsN_xor, stepsN_xor]
  generalize stepsN (8 * a.length) 4294967295 = p
  generalize stepsN (8 * a.length) (numOf a) = x
  generalize stepsN (8 * a.length) (numOf b) = y
  constructor
  · intro h
    have h1 : (p ^^^ x ^^^ 4294967295) ^^^ (p ^^^ y ^^^ 4294967295) = 0 := by rw [h, Nat.xor_self]
    rw [xor_swap4, Nat.xor_self, Nat.xor_zero, xor_swap4, Nat.xor_self, Nat.zero_xor] at h1
    exact h1
  · intro h; rw [xor_eq_zero h]

theorem numOf_app : ∀ (a b : List Int), numOf (a ++ b) = numOf a ^^^ numOf b * 2 ^ (8 * a.length)
  | [], b => by simp [numOf]
  | c :: a, b => by
    rw [List.cons_append, numOf, numOf, numOf_app a b, Nat.xor_assoc]
    congr 1
    have e : ∀ x : Nat, x * 256 = x <<< 8 := fun x => by rw [Nat.shiftLeft_eq]
    rw [e, Nat.shiftLeft_xor_distrib, ← e, ← e, List.length_cons, Nat.mul_assoc, show 8 * (a.length + 1) = 8 * a.length + 8 from by omega, Nat.pow_add]
theorem mul_xor (k x y : Nat) : (x ^^^ y) * 2 ^ k = x * 2 ^ k ^^^ y * 2 ^ k := by
  rw [← Nat.shiftLeft_eq, Nat.shiftLeft_xor_distrib, Nat.shiftLeft_eq, Nat.shiftLeft_eq]
/-- a byte of a row, in the stead of which another one stands -/
theorem numOf_set : ∀ (zs : List Int) (j : Nat) (c : Int) (d : Nat), j < zs.length → c.toNat = (zs.getD j 0).toNat ^^^ d → numOf (zs.set j c) = numOf zs ^^^ d * 2 ^ (8 * j)
  | [], j, c, d, h, _ => by simp at h
  | z :: zs, 0, c, d, h, hc => by
    simp at hc
    rw [List.set_cons_zero, numOf, numOf, hc, Nat.xor_assoc, Nat.xor_comm d, ← Nat.xor_assoc]
    simp
  | z :: zs, j + 1, c, d, h, hc => by
    rw [List.set_cons_succ, numOf, numOf, numOf_set zs j c d (by simpa using h) (by simpa using hc), Nat.xor_assoc, show 8 * (j + 1) = 8 * j + 8 from by omega, Nat.pow_add, ← Nat.mul_assoc]
    congr 1
    exact mul_xor 8 _ _

theorem swap_zero {z : Nat} (hz : z < 256) (h : z ^^^ z * 2 ^ 8 = 0) : z = 0 := by
  have := xor_eq_zero h; omega
theorem swap_lt {z : Nat} (hz : z < 256) : z ^^^ z * 2 ^ 8 < 4294967296 := xor_lt32 (by omega) (by omega)
theorem two_bytes (x y : Int) (b : Nat) : numOf [x, y] ^^^ numOf [y, x] = (x.toNat ^^^ y.toNat) ^^^ (x.toNat ^^^ y.toNat) * 2 ^ 8 := by
  simp only [numOf, Nat.zero_mul, Nat.xor_zero]
  rw [xor_swap4, show y.toNat * 256 = y.toNat * 2 ^ 8 from rfl, show x.toNat * 256 = x.toNat * 2 ^ 8 from rfl, ← mul_xor, Nat.xor_comm y.toNat x.toNat]
theorem bytes_eq {x y : Int} (hx : 0 ≤ x) (hy : 0 ≤ y) (h : x.toNat ^^^ y.toNat = 0) : x = y := by
  have := xor_eq_zero h; omega
/-- two bytes that change places ahead of some others -/
theorem swap_ahead (x y : Int) (b : List Int) (hx : 0 ≤ x ∧ x ≤ 255) (hy : 0 ≤ y ∧ y ≤ 255) : crcN ([x, y] ++ b) = crcN ([y, x] ++ b) ↔ x = y := by
  constructor
  · intro h
    rw [crcN_eq (by simp), numOf_app, numOf_app, show [y, x].length = [x, y].length from rfl, xor_swap4, Nat.xor_self, Nat.xor_zero, two_bytes x y 0] at h
    have hz : x.toNat ^^^ y.toNat < 256 := xor_lt8 (by omega) (by omega)
    have := burst _ 0 _ (Nat.zero_le _) (swap_lt hz) (by rw [Nat.pow_zero, Nat.mul_one]; exact h)
    exact bytes_eq hx.1 hy.1 (swap_zero hz this)
  · rintro rfl; rfl
/-- two bytes that change places behind some others -/
theorem swap_behind (x y : Int) (b : List Int) (hx : 0 ≤ x ∧ x ≤ 255) (hy : 0 ≤ y ∧ y ≤ 255) : crcN (b ++ [x, y]) = crcN (b ++ [y, x]) ↔ x = y := by
  constructor
  · intro h
    rw [crcN_eq (by simp), numOf_app, numOf_app, xor_swap4, Nat.xor_self, Nat.zero_xor, ← mul_xor, two_bytes x y 0] at h
    have hz : x.toNat ^^^ y.toNat < 256 := xor_lt8 (by omega) (by omega)
    have := burst _ (8 * b.length) _ (by simp only [List.length_append]; omega) (swap_lt hz) h
    exact bytes_eq hx.1 hy.1 (swap_zero hz this)
  · rintro rfl; rfl

/-- three rows of bytes, xor of each other -/
def xor3 (a b c : Int) : Int := ((a.toNat ^^^ b.toNat ^^^ c.toNat : Nat) : Int)
def xorB : List Int → List Int → List Int → List Int
  | a :: l, b :: r, c :: s => xor3 a b c :: xorB l r s
  | _, _, _ => []
theorem numOf_xorB : ∀ (a b c : List Int), a.length = b.length → a.length = c.length → numOf (xorB a b c) = numOf a ^^^ numOf b ^^^ numOf c ∧ (xorB a b c).length = a.length
  | [], [], [], _, _ => by simp [xorB, numOf]
  | a :: l, b :: r, c :: s, h1, h2 => by
    obtain ⟨ih, il⟩ := numOf_xorB l r s (by simpa using h1) (by simpa using h2)
    refine ⟨?_, by rw [xorB, List.length_cons, List.length_cons, il]⟩
    rw [xorB, numOf, numOf, numOf, numOf, ih, xor3, Int.toNat_natCast, show (256 : Nat) = 2 ^ 8 from rfl, mul_xor, mul_xor, xor_swap4 a.toNat, ← xor_swap4 (a.toNat ^^^ b.toNat)]
/-- the sum of three rows, xor of each other, is the sums, xor of each other -/
theorem crc_linear (a b c : List Int) (h1 : a.length = b.length) (h2 : a.length = c.length) : crcN (xorB a b c) = crcN a ^^^ crcN b ^^^ crcN c := by
  obtain ⟨hx, hl⟩ := numOf_xorB a b c h1 h2
  unfold crcN
  rw [regN_eq, regN_eq, regN_eq, regN_eq, hx, hl, ← h1, ← h2]
  simp only [stepsN_xor]
  generalize stepsN (8 * a.length) 4294967295 = p
  generalize stepsN (8 * a.length) (numOf a) = x
  generalize stepsN (8 * a.length) (numOf b) = y
  generalize stepsN (8 * a.length) (numOf c) = z
  rw [xor_swap4 (p ^^^ x), xor_swap4 p x p y, Nat.xor_self, Nat.zero_xor, Nat.xor_self, Nat.xor_zero]
  have lc : ∀ i j k : Nat, i ^^^ (j ^^^ k) = j ^^^ (i ^^^ k) := fun i j k => by rw [← Nat.xor_assoc, Nat.xor_comm i, Nat.xor_assoc]
  simp only [Nat.xor_assoc]
  rw [lc p x, lc p y]
theorem xorB_snoc : ∀ (a b c : List Int) (k : Nat), k < a.length → k < b.length → k < c.length → xorB (a.take (k + 1)) (b.take (k + 1)) (c.take (k + 1)) = xorB (a.take k) (b.take k) (c.take k) ++ [xor3 (a.getD k 0) (b.getD k 0) (c.getD k 0)]
  | a :: l, b :: r, c :: s, 0, _, _, _ => by simp [xorB]
  | a :: l, b :: r, c :: s, k + 1, h1, h2, h3 => by
    have := xorB_snoc l r s k (by simpa using h1) (by simpa using h2) (by simpa using h3)
    simp only [List.take_succ_cons, xorB, List.cons_append, List.getD_cons_succ] at this ⊢
    rw [this]
  | [], _, _, _, h, _, _ => by simp at h
  | _ :: _, [], _, _, _, h, _ => by simp at h
  | _ :: _, _ :: _, [], _, _, _, h => by simp at h
theorem xor3_bd {a b c : Int} (ha : a ≤ 255) (hb : b ≤ 255) (hc : c ≤ 255) : 0 ≤ xor3 a b c ∧ xor3 a b c ≤ 255 := by
  have := xor_lt8 (xor_lt8 (show a.toNat < 256 by omega) (show b.toNat < 256 by omega)) (show c.toNat < 256 by omega)
  unfold xor3; omega
end Go.Proofs.Ytfdkocpplhkccaa
