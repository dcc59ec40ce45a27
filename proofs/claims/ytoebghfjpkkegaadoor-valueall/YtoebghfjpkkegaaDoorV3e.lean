/- The statements' own helpers: shown, kind, fit, some, short. -/
import Derived.Test.YtoebghfjpkkegaaDoorV3d
namespace Go.Proofs.YtoebghfjpkkegaaDoor
open Go.ChangeShapes Go.WideShapes Go.ChangeAt Go.RowKit
set_option linter.unusedVariables false

theorem empty_is (s : ByteArray) : s.toList.isEmpty = decide (s.size = 0) := by
  rw [ByteArray.toList_eq]
  rcases hs : s.data.toList with _ | ⟨a, l⟩
  · have : s.size = 0 := by have h := congrArg List.length hs; rw [Array.length_toList] at h; exact h
    simp [this]
  · have : s.size ≠ 0 := by have h := congrArg List.length hs; rw [Array.length_toList] at h; have h2 : s.size = s.data.size := rfl; simp at h; omega
    simp [this]
theorem fits_num {t n : Int} (h : t = 1 ∨ t = 2) : fitsB t n ⟨#[]⟩ = true := by rw [fitsB, if_pos h, empty_is]; rfl
/-- at most k bytes of a text -/
def cut (k : Nat) (s : ByteArray) : ByteArray := if s.size ≤ k then s else s.extract 0 k
theorem cut_size (k : Nat) (s : ByteArray) : (cut k s).size ≤ k := by
  unfold cut; split
  · assumption
  · simp [ByteArray.size_extract]; omega
theorem cut_all {k : Nat} {s : ByteArray} (h : s.size ≤ k) : cut k s = s := by rw [cut, if_pos h]
theorem cut_part {k : Nat} {s : ByteArray} (h : ¬ s.size ≤ k) : cut k s = s.extract 0 k := by rw [cut, if_neg h]
/-- a value that is made to fit -/
def fitN (t n : Int) : Int := if t = 3 then 0 else n
def fitS (t : Int) (s : ByteArray) : ByteArray := if t = 3 then cut 60 s else ⟨#[]⟩
theorem fitN_t {t n : Int} (h : t = 3) : fitN t n = 0 := by rw [fitN, if_pos h]
theorem fitN_n {t n : Int} (h : t ≠ 3) : fitN t n = n := by rw [fitN, if_neg h]
theorem fitS_t {t : Int} {s : ByteArray} (h : t = 3) : fitS t s = cut 60 s := by rw [fitS, if_pos h]
theorem fitS_n {t : Int} {s : ByteArray} (h : t ≠ 3) : fitS t s = ⟨#[]⟩ := by rw [fitS, if_neg h]
theorem fit_fits {t n : Int} {s : ByteArray} (h : t = 1 ∨ t = 2 ∨ t = 3) : fitsB t (fitN t n) (fitS t s) = true := by
  by_cases h3 : t = 3
  · subst h3
    have := cut_size 60 s
    rw [fitN_t rfl, fitS_t rfl]
    simp [fitsB]; omega
  · rw [fitN_n h3, fitS_n h3]
    exact fits_num (by omega)
theorem digits_most : digits 18446744073709551615 = [49, 56, 52, 52, 54, 55, 52, 52, 48, 55, 51, 55, 48, 57, 53, 53, 49, 54, 49, 53] := by kernel_rfl
set_option maxHeartbeats 400000 in
theorem shown3_is (w : World) (htab : Tab w) : Calls Tryd.prog 9 #[] w fun e w' => e = .returned (.bool true) ∧ Below w.heap.size w w' := by
  have e1 : Hid (strOfNums (textL 2 (-1) ⟨#[]⟩) = { data := #[49, 56, 52, 52, 54, 55, 52, 52, 48, 55, 51, 55, 48, 57, 53, 53, 49, 54, 49, 53] }) := Lib.hid (by
    rw [textL_is (fits_num (.inr rfl)), if_neg (by decide), if_pos rfl, show (IntKind.u64.wrap (-1)).toNat = 18446744073709551615 from by decide, digits_most]; rfl)
  have e2 : cmpV 2 (-1) ⟨#[]⟩ 1 ⟨#[]⟩ = 1 := by rw [cmpV_is (by rw [fits_num (.inr rfl), fits_num (.inr rfl)]; rfl)]; decide
  go_enter Tryd.func9, Tryd.ntmps9
  go_wp2_with fail
  refine (text_any 2 (-1) ⟨#[]⟩ _ (by omega) (by omega) htab).mono ?_
  rw [e1.out]
  rintro e w1 ⟨rfl, hb⟩
  go_wp2_with fail
  refine (compare_any 2 (-1) 1 ⟨#[]⟩ ⟨#[]⟩ _).mono ?_
  rw [e2]
  rintro e w2 ⟨rfl, hb2⟩
  go_wp2
  go_ret
  exact ⟨rfl, Below.then hb hb2⟩
theorem bx2 (w : World) (o : Obj) (n : Int) (s : ByteArray) : Bx ((w.alloc o).alloc (.cells #[.int .i64 n, .string s] 23)) (w.heap.size + 1) n s := by
  have := Bx.new (w.alloc o) n s 23
  rwa [show (w.alloc o).heap.size = w.heap.size + 1 by simp] at this
set_option maxHeartbeats 400000 in
theorem kind_any (t : Int) (w : World) (h0 : 0 ≤ t) (h1 : t ≤ 255) : Calls Tryd.prog 22 #[.int .u8 t] w fun e w' => e = .returned (.int .i64 (1 + t % 3)) ∧ w' = w := by
  go_enter Tryd.func22, Tryd.ntmps22
  go_wp2
  go_ret
  exact ⟨rfl, rfl⟩
theorem kind_of (t : Int) (h0 : 0 ≤ t) : 1 + t % 3 = 1 ∨ 1 + t % 3 = 2 ∨ 1 + t % 3 = 3 := by omega
set_option maxHeartbeats 400000 in
theorem fit_any (t n : Int) (s : ByteArray) (w : World) : Calls Tryd.prog 23 #[.int .i64 t, VV n s] w fun e w' => e = .returned (VV (fitN t n) (fitS t s)) ∧ Below w.heap.size w w' := by
  by_cases h3 : t = 3
  · subst h3
    rw [fitN_t rfl, fitS_t rfl]
    by_cases hs : s.size ≤ 60
    · rw [cut_all hs]
      go_enter Tryd.func23, Tryd.ntmps23
      go_wp2
      (try simp only [Exit.inBlock, Exit.then])
      exact bodyPost_ret (res_vv rfl _ _ rfl (bx2 _ _ _ _)) rfl ⟨rfl, Joins.below_alloc2 _ _ _⟩
    · rw [cut_part hs]
      go_enter Tryd.func23, Tryd.ntmps23
      go_wp2
      (try simp only [Exit.inBlock, Exit.then])
      exact bodyPost_ret (res_vv rfl _ _ rfl (bx2 _ _ _ _)) rfl ⟨rfl, Joins.below_alloc2 _ _ _⟩
  · rw [fitN_n h3, fitS_n h3]
    go_enter Tryd.func23, Tryd.ntmps23
    go_wp2
    (try simp only [Exit.inBlock, Exit.then])
    exact bodyPost_ret (res_vv rfl _ _ rfl (bx2 _ _ _ _)) rfl ⟨rfl, Joins.below_alloc2 _ _ _⟩
set_option maxHeartbeats 400000 in
theorem some_any (n : Int) (s : ByteArray) (w : World) : Calls Tryd.prog 10 #[VV n s] w fun e w' => e = .returned (VV n (cut 100 s)) ∧ Below w.heap.size w w' := by
  by_cases hs : s.size ≤ 100
  · rw [cut_all hs]
    go_enter Tryd.func10, Tryd.ntmps10
    go_wp2
    (try simp only [Exit.inBlock, Exit.then])
    exact bodyPost_ret (res_vv rfl _ _ rfl (bx2 _ _ _ _)) rfl ⟨rfl, Joins.below_alloc2 _ _ _⟩
  · rw [cut_part hs]
    go_enter Tryd.func10, Tryd.ntmps10
    go_wp2
    (try simp only [Exit.inBlock, Exit.then])
    exact bodyPost_ret (res_vv rfl _ _ rfl (bx2 _ _ _ _)) rfl ⟨rfl, Joins.below_alloc2 _ _ _⟩
set_option maxHeartbeats 400000 in
theorem short3_any (s : ByteArray) (w : World) : Calls Tryd.prog 11 #[.string s] w fun e w' => e = .returned (.string (cut 200 s)) ∧ w' = w := by
  by_cases hs : s.size ≤ 200
  · rw [cut_all hs]
    go_enter Tryd.func11, Tryd.ntmps11
    go_wp2
    go_ret
    exact ⟨rfl, rfl⟩
  · rw [cut_part hs]
    go_enter Tryd.func11, Tryd.ntmps11
    go_wp2
    go_ret
    exact ⟨rfl, rfl⟩
end Go.Proofs.YtoebghfjpkkegaaDoor
