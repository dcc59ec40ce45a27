/- CrcSwaps: the walk. -/
import Derived.Test.YtfdkocpplhkccaaC2s
import Derived.Test.YtfdkocpplhkccaaK2
namespace Go.Proofs.Ytfdkocpplhkccaa
open Go.ChangeShapes Go.WideShapes Go.ChangeAt Go.RowKit
set_option linter.unusedVariables false

theorem OW.two (w : World) (x y : Int) (base : Nat) (hb : base ≤ w.heap.size) (g : Nat) (hg : g = w.heap.size) : OW (w.alloc (.cells #[.int .u8 x, .int .u8 y] 5)) base (.slice (some ⟨g, 0, none⟩) 2 2) [x, y] := by
  subst hg
  exact .inr ⟨w.heap.size, 2, _, 5, rfl, hb, heap_alloc_new _ _, Nat.le_refl _, by unfold maxLen; omega, rfl, rfl⟩
theorem BV.two (w : World) (x y : Int) (hx : 0 ≤ x ∧ x ≤ 255) (hy : 0 ≤ y ∧ y ≤ 255) : BV (w.alloc (.cells #[.int .u8 x, .int .u8 y] 5)) (some ⟨w.heap.size, 0, none⟩) 2 [x, y] := by
  refine ⟨rfl, by simp; omega, .inr ⟨_, _, rfl, fun i hi => ?_⟩⟩
  rw [Nat.zero_add]
  refine cell_new _ _ _ _ _ _ ?_
  have : i = 0 ∨ i = 1 := by omega
  rcases this with rfl | rfl <;> rfl
theorem bytes_two {x y : Int} (hx : 0 ≤ x ∧ x ≤ 255) (hy : 0 ≤ y ∧ y ≤ 255) : ∀ z ∈ [x, y], 0 ≤ z ∧ z ≤ 255 := by simp; omega
theorem bytes_app {a b : List Int} (ha : ∀ z ∈ a, 0 ≤ z ∧ z ≤ 255) (hb : ∀ z ∈ b, 0 ≤ z ∧ z ≤ 255) : ∀ z ∈ a ++ b, 0 ≤ z ∧ z ≤ 255 := by
  intro z hz
  rcases List.mem_append.1 hz with h | h
  · exact ha z h
  · exact hb z h

set_option maxHeartbeats 2000000 in
theorem crcSwaps_walk (a : Option Addr) (n cap : Nat) (zs : List Int) (x y : Int) (w : World) (hv : BV w a n zs) (hcap : n ≤ cap) (hx0 : 0 ≤ x) (hx1 : x ≤ 255) (hy0 : 0 ≤ y) (hy1 : y ≤ 255) :
    Calls Try.prog 8 #[.slice a n cap, .int .u8 x, .int .u8 y] w fun e w' => e = .returned (.bool true) ∧ Below w.heap.size w w' := by
  have hL := hv.take (min n 300) (by omega)
  obtain ⟨m, L, hm, hLe⟩ : ∃ m L, m = min n 300 ∧ L = zs.take (min n 300) := ⟨_, _, rfl, rfl⟩
  rw [← hLe, ← hm] at hL
  have hm3 : m ≤ 300 := by omega
  have hlen := hL.1
  have HM : Hid (m = min n 300) := hm
  clear hm hLe
  have hxy := bytes_two ⟨hx0, hx1⟩ ⟨hy0, hy1⟩
  have hyx := bytes_two ⟨hy0, hy1⟩ ⟨hx0, hx1⟩
  have e1 := swap_ahead x y L ⟨hx0, hx1⟩ ⟨hy0, hy1⟩
  have e2 := swap_behind x y L ⟨hx0, hx1⟩ ⟨hy0, hy1⟩
  obtain ⟨A, hA⟩ : ∃ A, A = [x, y] ++ L := ⟨_, rfl⟩
  obtain ⟨C, hC⟩ : ∃ C, C = [y, x] ++ L := ⟨_, rfl⟩
  obtain ⟨D, hD⟩ : ∃ D, D = L ++ [x, y] := ⟨_, rfl⟩
  obtain ⟨E, hE⟩ : ∃ E, E = L ++ [y, x] := ⟨_, rfl⟩
  rw [← hA, ← hC] at e1
  rw [← hD, ← hE] at e2
  have HE1 : Hid (crcN A = crcN C ↔ x = y) := e1
  have HE2 : Hid (crcN D = crcN E ↔ x = y) := e2
  have HA : Hid (A = [x, y] ++ L) := hA
  have HC : Hid (C = [y, x] ++ L) := hC
  have HD : Hid (D = L ++ [x, y]) := hD
  have HE : Hid (E = L ++ [y, x]) := hE
  have hAl : A.length = m + 2 := by rw [hA]; simp; omega
  have hCl : C.length = m + 2 := by rw [hC]; simp; omega
  have hDl : D.length = m + 2 := by rw [hD]; simp; omega
  have hEl : E.length = m + 2 := by rw [hE]; simp; omega
  have hAb : ∀ z ∈ A, 0 ≤ z ∧ z ≤ 255 := by rw [hA]; exact bytes_app hxy hL.2.1
  have hCb : ∀ z ∈ C, 0 ≤ z ∧ z ≤ 255 := by rw [hC]; exact bytes_app hyx hL.2.1
  have hDb : ∀ z ∈ D, 0 ≤ z ∧ z ≤ 255 := by rw [hD]; exact bytes_app hL.2.1 hxy
  have hEb : ∀ z ∈ E, 0 ≤ z ∧ z ≤ 255 := by rw [hE]; exact bytes_app hL.2.1 hyx
  clear e1 e2 hA hC hD hE
  have HAl : Hid (A.length = m + 2) := hAl
  have HCl : Hid (C.length = m + 2) := hCl
  have HDl : Hid (D.length = m + 2) := hDl
  have HEl : Hid (E.length = m + 2) := hEl
  clear hAl hCl hDl hEl
  go_enter Try.func8, Try.ntmps8
  go_wp2_with (go_at_call 9; refine (shown2_is _).mono ?_; rintro e w0 ⟨rfl, hb0⟩)
  have hv0 := hv.below hb0
  have hL0 := hL.below hb0
  have hs0 := hb0.size
  clear hv hL
  refine (short2_is (hv0.alloc _) hcap HM.out).mono ?_
  rintro e w' ⟨rfl, rfl⟩
  go_wp2_with (at_builtin; refine append_ow rfl (.tmp 15) (.tmp 17) rfl w0.heap.size _ [x, y] rfl (OW.two _ x y _ (Nat.le_refl _) _ rfl) _ m _ L rfl (hL0.alloc _) (by simp only [List.length_cons, List.length_nil]; omega) (by rw [heap_alloc]; omega) ?_; intro v1 w1 ho1 hb1; rw [← HA.out] at ho1; obtain ⟨a1, c1, rfl, -, -, hA1, -⟩ := ho1.bvn hAb _ HAl.out)
  have hk1 : Below w0.heap.size w0 w1 := ((Below.refl _ _).alloc (Nat.le_refl _) _).trans hb1
  have hv1 := hv0.below hk1
  have hL1 := hL0.below hk1
  have hw1 : Below w.heap.size w w1 := hb0.trans (hk1.mono hs0)
  clear hb0 hb1 ho1 hk1 hv0 hL0 hs0
  refine (short2_is (hv1.alloc _) hcap HM.out).mono ?_
  rintro e w' ⟨rfl, rfl⟩
  go_wp2_with (at_builtin; refine append_ow rfl (.tmp 21) (.tmp 23) rfl w1.heap.size _ [y, x] rfl (OW.two _ y x _ (Nat.le_refl _) _ rfl) _ m _ L rfl (hL1.alloc _) (by simp only [List.length_cons, List.length_nil]; omega) (by rw [heap_alloc]; omega) ?_; intro v2 w2 ho2 hb2; rw [← HC.out] at ho2; obtain ⟨a2, c2, rfl, -, -, hA2, -⟩ := ho2.bvn hCb _ HCl.out)
  have hk2 : Below w1.heap.size w1 w2 := ((Below.refl _ _).alloc (Nat.le_refl _) _).trans hb2
  have hv2 := hv1.below hk2
  have hL2 := hL1.below hk2
  have hA1 := hA1.below hk2
  have hw2 : Below w.heap.size w w2 := hw1.trans (hk2.mono hw1.size)
  clear hw1 hb2 ho2 hk2 hv1 hL1
  refine (short2_is (hv2.alloc _) hcap HM.out).mono ?_
  rintro e w' ⟨rfl, rfl⟩
  go_wp2_with (first | (at_builtin; refine append_ow rfl (.tmp 25) (.tmp 27) rfl w2.heap.size _ [] rfl (OW.empty _ _ (Nat.le_refl _) _ rfl) _ m _ L rfl (hL2.alloc _) (by simp only [List.length_nil]; omega) (by rw [heap_alloc]; omega) ?_; intro v3 w3 ho3 hb3; rw [List.nil_append] at ho3; have hs3 : w2.heap.size ≤ w3.heap.size := Nat.le_trans (by rw [heap_alloc]; omega) hb3.size) | (at_builtin; refine append_ow rfl (.tmp 28) (.tmp 31) rfl w2.heap.size _ L rfl (ho3.alloc _) _ 2 _ [x, y] rfl (BV.two _ _ _ (by omega) (by omega)) (by omega) (by rw [heap_alloc]; omega) ?_; intro v4 w4 ho4 hb4; rw [← HD.out] at ho4; obtain ⟨aw4, cw4, rfl, -, -, hA3, -⟩ := ho4.bvn hDb _ HDl.out))
  have hk4 : Below w2.heap.size w2 w4 := (((Below.refl _ _).alloc (Nat.le_refl _) _).trans hb3).trans (((Below.refl _ _).alloc hs3 _).trans hb4)
  have hv4 := hv2.below hk4
  have hL4 := hL2.below hk4
  have hA1 := hA1.below hk4
  have hA2 := hA2.below hk4
  have hw4 : Below w.heap.size w w4 := hw2.trans (hk4.mono hw2.size)
  clear hw2 hb3 hb4 ho3 ho4 hk4 hv2 hL2 hs3
  refine (short2_is (hv4.alloc _) hcap HM.out).mono ?_
  rintro e w' ⟨rfl, rfl⟩
  have hL2 := hL4
  go_wp2_with (first | (at_builtin; refine append_ow rfl (.tmp 33) (.tmp 35) rfl w4.heap.size _ [] rfl (OW.empty _ _ (Nat.le_refl _) _ rfl) _ m _ L rfl (hL2.alloc _) (by simp only [List.length_nil]; omega) (by rw [heap_alloc]; omega) ?_; intro v3 w5 ho3 hb3; rw [List.nil_append] at ho3; have hs3 : w4.heap.size ≤ w5.heap.size := Nat.le_trans (by rw [heap_alloc]; omega) hb3.size) | (at_builtin; refine append_ow rfl (.tmp 36) (.tmp 39) rfl w4.heap.size _ L rfl (ho3.alloc _) _ 2 _ [y, x] rfl (BV.two _ _ _ (by omega) (by omega)) (by omega) (by rw [heap_alloc]; omega) ?_; intro v4 w6 ho4 hb4; rw [← HE.out] at ho4; obtain ⟨aw6, cw6, rfl, -, -, hA4, -⟩ := ho4.bvn hEb _ HEl.out))
  have hk4 : Below w4.heap.size w4 w6 := (((Below.refl _ _).alloc (Nat.le_refl _) _).trans hb3).trans (((Below.refl _ _).alloc hs3 _).trans hb4)
  have hA1 := hA1.below hk4
  have hA2 := hA2.below hk4
  have hA3 := hA3.below hk4
  have hw6 : Below w.heap.size w w6 := hw4.trans (hk4.mono hw4.size)
  clear hw4 hb3 hb4 ho3 ho4 hk4 hv4 hL2 hL4 hs3
  have hm2 : m + 2 ≤ 140737488355328 := by omega
  refine (sum_any _ _ _ _ _ hA1 hm2).mono ?_
  rintro e w' ⟨rfl, rfl⟩
  have b1 : (((crcN A : Nat) : Int) == ((crcN C : Nat) : Int)) = (x == y) := by
    rw [Bool.eq_iff_iff, beq_iff_eq, beq_iff_eq, ← HE1.out]; omega
  have b2 : (((crcN D : Nat) : Int) == ((crcN E : Nat) : Int)) = (x == y) := by
    rw [Bool.eq_iff_iff, beq_iff_eq, beq_iff_eq, ← HE2.out]; omega
  go_wp2_with fail
  refine (sum_any _ _ _ _ _ hA2 hm2).mono ?_
  rintro e w' ⟨rfl, rfl⟩
  go_wp2_with fail
  refine (sum_any _ _ _ _ _ hA3 hm2).mono ?_
  rintro e w' ⟨rfl, rfl⟩
  go_wp2_with fail
  refine (sum_any _ _ _ _ _ hA4 hm2).mono ?_
  rintro e w' ⟨rfl, rfl⟩
  clear hA1 hA2 hA3 hA4 HE1 HE2 HA HC HD HE HAl HCl HDl HEl hAb hCb hDb hEb hxy hyx
  generalize crcN A = p at *
  generalize crcN C = q at *
  generalize crcN D = r at *
  generalize crcN E = s at *
  by_cases hq : x = y
  · subst hq
    rw [beq_self_eq_true] at b1 b2
    go_wp2_with fail
    go_ret
    exact ⟨rfl, hw6⟩
  · have hq' : (x == y) = false := by rw [beq_eq_false_iff_ne]; exact hq
    rw [hq'] at b1 b2
    go_wp2_with fail
    go_ret
    exact ⟨rfl, hw6⟩
end Go.Proofs.Ytfdkocpplhkccaa
