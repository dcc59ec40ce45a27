/- The document's own answers for layer 3: Fits, both, texts, Compare, Add. -/
import Derived.Test.YtllgnafbemmcaaaV3o
namespace Go.Proofs.Ytllgnafbemmcaaa
open Go.ChangeShapes Go.WideShapes Go.ChangeAt Go.RowKit
set_option linter.unusedVariables false

set_option maxHeartbeats 400000 in
theorem rfits_any (t n : Int) (s : ByteArray) (w : World) :
    Calls Try.prog 28 #[.int .i64 t, VV n s] w fun e w' => e = .returned (.bool (fitsB t n s)) ∧ Below w.heap.size w w' := by
  by_cases h1 : t = 1
  · subst h1
    go_enter Try.func28, Try.ntmps28
    go_wp2
    go_ret
    exact ⟨rfl, Joins.below_alloc1 _ _⟩
  · by_cases h2 : t = 2
    · subst h2
      go_enter Try.func28, Try.ntmps28
      go_wp2
      go_ret
      exact ⟨rfl, Joins.below_alloc1 _ _⟩
    · by_cases h3 : t = 3
      · subst h3
        by_cases h4 : n = 0
        · subst h4
          go_enter Try.func28, Try.ntmps28
          go_wp2
          go_ret
          exact ⟨rfl, Joins.below_alloc1 _ _⟩
        · go_enter Try.func28, Try.ntmps28
          go_wp2
          go_ret
          exact ⟨by simp [fitsB, h4], Joins.below_alloc1 _ _⟩
      · go_enter Try.func28, Try.ntmps28
        go_wp2
        go_ret
        exact ⟨by simp [fitsB, h1, h2, h3], Joins.below_alloc1 _ _⟩
set_option maxHeartbeats 400000 in
theorem rboth_any (t n m : Int) (s r : ByteArray) (w : World) :
    Calls Try.prog 45 #[.int .i64 t, VV n s, VV m r] w fun e w' => e = .returned (.bool (fitsB t n s && fitsB t m r)) ∧ Below w.heap.size w w' := by
  go_enter Try.func45, Try.ntmps45
  go_wp2_with fail
  refine (rfits_any t n s _).mono ?_
  rintro e w' ⟨rfl, hb⟩
  have h2 := (Bx.new (w.alloc (.cells #[.int .i64 n, .string s] 50)) m r 50).below hb
  rw [show (w.alloc (.cells #[.int .i64 n, .string s] 50)).heap.size = w.heap.size + 1 by simp] at h2
  obtain ⟨c0, c1⟩ := h2
  go_wp2_with fail
  refine (rfits_any t m r _).mono ?_
  rintro e w2 ⟨rfl, hb2⟩
  cases hf : fitsB t n s
  · go_wp2_with fail
    go_ret
    exact ⟨by rw [hf]; rfl, Below.then (after2 hb) hb2⟩
  · go_wp2_with fail
    go_ret
    exact ⟨by rw [hf, Bool.true_and]; rfl, Below.then (after2 hb) hb2⟩
theorem drop_at (s : ByteArray) (k : Nat) (h : k < s.size) : (nums s).drop k = (nums s).getD k 0 :: (nums s).drop (k + 1) := by
  have hk : k < (nums s).length := by rw [nums_len]; exact h
  rw [List.drop_eq_getElem_cons hk, List.getD_eq_getElem?_getD, List.getElem?_eq_getElem hk]; rfl
theorem drop_out (s : ByteArray) : (nums s).drop s.size = [] := List.drop_eq_nil_of_le (by rw [nums_len]; exact Nat.le_refl _)
set_option maxHeartbeats 4000000 in
theorem rtexts_any (a b : ByteArray) (w : World) (ha : a.size ≤ 200) (hb : b.size ≤ 200) :
    Calls Try.prog 46 #[.string a, .string b] w fun e w' => e = .returned (.int .i64 (cmpL (nums a) (nums b))) ∧ Below w.heap.size w w' := by
  go_enter Try.func46, Try.ntmps46
  go_wp2
  go_loopw [5] (fun i wr => ∃ (k : Nat), k ≤ a.size ∧ k ≤ b.size ∧ i = .int .i64 (k : Int) ∧ Hid (cmpL (nums a) (nums b) = cmpL ((nums a).drop k) ((nums b).drop k)) ∧ Below w.heap.size w wr) (fun i _ => a.size - (intOf i).toNat)
  case atStart => exact ⟨0, by omega, by omega, rfl, Lib.hid (by simp), Below.refl _ _⟩
  case round =>
    obtain ⟨k, h1, h2, rfl, HC, hbel⟩ := hrel
    by_cases k1 : k < a.size
    · by_cases k2 : k < b.size
      · have i1 := index_str a k k1
        have i2 := index_str b k k2
        rw [drop_at a k k1, drop_at b k k2, cmpL] at HC
        generalize (nums a).getD k 0 = x at *
        generalize (nums b).getD k 0 = y at *
        have k1' : (k : Int) < (a.size : Int) := by omega
        have k2' : (k : Int) < (b.size : Int) := by omega
        rcases (by omega : x < y ∨ y < x ∨ x = y) with l | l | rfl
        · rw [if_pos l] at HC
          have l' : decide (x < y) = true := by simp [l]
          go_wp2_with fail
          refine wp_region_noPanic ?_
          refine wp_region_held_drew (S := Below w.heap.size w) (by kernel_rfl) (hbel.drew) (fun hS => ?_)
          refine take_at (i := 0) (v := ?_) (some 18) rfl (by kernel_rfl) (by kernel_rfl) (by kernel_rfl) rfl (fun _ _ _ h => h) (Or.inl ⟨by rfl, ?_⟩) hS ?_
          rotate_left
          · (intro wq hq; go_simp); first | done | with_reducible rfl
          try simp only [Act.put, List.setIfInBounds_toArray, List.set_cons_zero, List.set_cons_succ]
          refine take_at (i := 1) (v := ?_) (some 19) rfl (by kernel_rfl) (by kernel_rfl) (by kernel_rfl) rfl (fun _ _ _ h => h) (Or.inl ⟨by rfl, ?_⟩) hS ?_
          rotate_left
          · (intro wq hq; go_simp); first | done | with_reducible rfl
          try simp only [Act.put, List.setIfInBounds_toArray, List.set_cons_zero, List.set_cons_succ]
          refine take_at (i := 2) (v := ?_) (some 20) rfl (by kernel_rfl) (by kernel_rfl) (by kernel_rfl) rfl (fun _ _ _ h => h) (Or.inl ⟨by rfl, ?_⟩) hS ?_
          rotate_left
          · (intro wq hq; go_simp); first | done | with_reducible rfl
          try simp only [Act.put, List.setIfInBounds_toArray, List.set_cons_zero, List.set_cons_succ]
          refine take_at (i := 3) (v := ?_) (some 21) rfl (by kernel_rfl) (by kernel_rfl) (by kernel_rfl) rfl (fun _ _ _ h => h) (Or.inl ⟨by rfl, ?_⟩) hS ?_
          rotate_left
          · (intro wq hq; go_simp); first | done | with_reducible rfl
          try simp only [Act.put, List.setIfInBounds_toArray, List.set_cons_zero, List.set_cons_succ]
          refine take_at (i := 4) (v := ?_) (some 22) rfl (by kernel_rfl) (by kernel_rfl) (by kernel_rfl) rfl (fun _ _ _ h => h) (Or.inl ⟨by rfl, ?_⟩) hS ?_
          rotate_left
          · (intro wq hq; go_simp); first | done | with_reducible rfl
          try simp only [Act.put, List.setIfInBounds_toArray, List.set_cons_zero, List.set_cons_succ]
          refine take_at (i := 5) (v := ?_) (some 23) rfl (by kernel_rfl) (by kernel_rfl) (by kernel_rfl) rfl (fun _ _ _ h => h) (Or.inl ⟨by rfl, ?_⟩) hS ?_
          rotate_left
          · (intro wq hq; go_simp); first | done | with_reducible rfl
          try simp only [Act.put, List.setIfInBounds_toArray, List.set_cons_zero, List.set_cons_succ]
          refine take_at (i := 6) (v := ?_) (some 24) rfl (by kernel_rfl) (by kernel_rfl) (by kernel_rfl) rfl (fun _ _ _ h => h) (Or.inl ⟨by rfl, ?_⟩) hS ?_
          rotate_left
          · (intro wq hq; go_simp); first | done | with_reducible rfl
          try simp only [Act.put, List.setIfInBounds_toArray, List.set_cons_zero, List.set_cons_succ]
          refine wpAnyH_done (by kernel_rfl) (NoPanic.normal ?_) _
          go_wp2_with fail
          go_ret
          exact ⟨ret_int HC.out.symm, hbel.drew⟩
        · have l0 : ¬ x < y := by omega
          rw [if_neg l0, if_pos l] at HC
          have l' : decide (x < y) = false := by simp; omega
          have l2 : decide (y < x) = true := by simp [l]
          go_wp2_with fail
          refine wp_region_noPanic ?_
          refine wp_region_held_drew (S := Below w.heap.size w) (by kernel_rfl) (hbel.drew) (fun hS => ?_)
          refine take_at (i := 0) (v := ?_) (some 18) rfl (by kernel_rfl) (by kernel_rfl) (by kernel_rfl) rfl (fun _ _ _ h => h) (Or.inl ⟨by rfl, ?_⟩) hS ?_
          rotate_left
          · (intro wq hq; go_simp); first | done | with_reducible rfl
          try simp only [Act.put, List.setIfInBounds_toArray, List.set_cons_zero, List.set_cons_succ]
          refine take_at (i := 1) (v := ?_) (some 19) rfl (by kernel_rfl) (by kernel_rfl) (by kernel_rfl) rfl (fun _ _ _ h => h) (Or.inl ⟨by rfl, ?_⟩) hS ?_
          rotate_left
          · (intro wq hq; go_simp); first | done | with_reducible rfl
          try simp only [Act.put, List.setIfInBounds_toArray, List.set_cons_zero, List.set_cons_succ]
          refine take_at (i := 2) (v := ?_) (some 20) rfl (by kernel_rfl) (by kernel_rfl) (by kernel_rfl) rfl (fun _ _ _ h => h) (Or.inl ⟨by rfl, ?_⟩) hS ?_
          rotate_left
          · (intro wq hq; go_simp); first | done | with_reducible rfl
          try simp only [Act.put, List.setIfInBounds_toArray, List.set_cons_zero, List.set_cons_succ]
          refine take_at (i := 3) (v := ?_) (some 21) rfl (by kernel_rfl) (by kernel_rfl) (by kernel_rfl) rfl (fun _ _ _ h => h) (Or.inl ⟨by rfl, ?_⟩) hS ?_
          rotate_left
          · (intro wq hq; go_simp); first | done | with_reducible rfl
          try simp only [Act.put, List.setIfInBounds_toArray, List.set_cons_zero, List.set_cons_succ]
          refine take_at (i := 4) (v := ?_) (some 22) rfl (by kernel_rfl) (by kernel_rfl) (by kernel_rfl) rfl (fun _ _ _ h => h) (Or.inl ⟨by rfl, ?_⟩) hS ?_
          rotate_left
          · (intro wq hq; go_simp); first | done | with_reducible rfl
          try simp only [Act.put, List.setIfInBounds_toArray, List.set_cons_zero, List.set_cons_succ]
          refine take_at (i := 5) (v := ?_) (some 23) rfl (by kernel_rfl) (by kernel_rfl) (by kernel_rfl) rfl (fun _ _ _ h => h) (Or.inl ⟨by rfl, ?_⟩) hS ?_
          rotate_left
          · (intro wq hq; go_simp); first | done | with_reducible rfl
          try simp only [Act.put, List.setIfInBounds_toArray, List.set_cons_zero, List.set_cons_succ]
          refine take_at (i := 6) (v := ?_) (some 24) rfl (by kernel_rfl) (by kernel_rfl) (by kernel_rfl) rfl (fun _ _ _ h => h) (Or.inl ⟨by rfl, ?_⟩) hS ?_
          rotate_left
          · (intro wq hq; go_simp); first | done | with_reducible rfl
          try simp only [Act.put, List.setIfInBounds_toArray, List.set_cons_zero, List.set_cons_succ]
          refine wpAnyH_done (by kernel_rfl) (NoPanic.normal ?_) _
          go_wp2_with fail
          refine wp_region_noPanic ?_
          refine wp_region_held_drew (S := Below w.heap.size w) (by kernel_rfl) (hbel.drew.drew) (fun hS => ?_)
          refine take_at (i := 0) (v := ?_) (some 25) rfl (by kernel_rfl) (by kernel_rfl) (by kernel_rfl) rfl (fun _ _ _ h => h) (Or.inl ⟨by rfl, ?_⟩) hS ?_
          rotate_left
          · (intro wq hq; go_simp); first | done | with_reducible rfl
          try simp only [Act.put, List.setIfInBounds_toArray, List.set_cons_zero, List.set_cons_succ]
          refine take_at (i := 1) (v := ?_) (some 26) rfl (by kernel_rfl) (by kernel_rfl) (by kernel_rfl) rfl (fun _ _ _ h => h) (Or.inl ⟨by rfl, ?_⟩) hS ?_
          rotate_left
          · (intro wq hq; go_simp); first | done | with_reducible rfl
          try simp only [Act.put, List.setIfInBounds_toArray, List.set_cons_zero, List.set_cons_succ]
          refine take_at (i := 2) (v := ?_) (some 27) rfl (by kernel_rfl) (by kernel_rfl) (by kernel_rfl) rfl (fun _ _ _ h => h) (Or.inl ⟨by rfl, ?_⟩) hS ?_
          rotate_left
          · (intro wq hq; go_simp); first | done | with_reducible rfl
          try simp only [Act.put, List.setIfInBounds_toArray, List.set_cons_zero, List.set_cons_succ]
          refine take_at (i := 3) (v := ?_) (some 28) rfl (by kernel_rfl) (by kernel_rfl) (by kernel_rfl) rfl (fun _ _ _ h => h) (Or.inl ⟨by rfl, ?_⟩) hS ?_
          rotate_left
          · (intro wq hq; go_simp); first | done | with_reducible rfl
          try simp only [Act.put, List.setIfInBounds_toArray, List.set_cons_zero, List.set_cons_succ]
          refine take_at (i := 4) (v := ?_) (some 29) rfl (by kernel_rfl) (by kernel_rfl) (by kernel_rfl) rfl (fun _ _ _ h => h) (Or.inl ⟨by rfl, ?_⟩) hS ?_
          rotate_left
          · (intro wq hq; go_simp); first | done | with_reducible rfl
          try simp only [Act.put, List.setIfInBounds_toArray, List.set_cons_zero, List.set_cons_succ]
          refine take_at (i := 5) (v := ?_) (some 30) rfl (by kernel_rfl) (by kernel_rfl) (by kernel_rfl) rfl (fun _ _ _ h => h) (Or.inl ⟨by rfl, ?_⟩) hS ?_
          rotate_left
          · (intro wq hq; go_simp); first | done | with_reducible rfl
          try simp only [Act.put, List.setIfInBounds_toArray, List.set_cons_zero, List.set_cons_succ]
          refine take_at (i := 6) (v := ?_) (some 31) rfl (by kernel_rfl) (by kernel_rfl) (by kernel_rfl) rfl (fun _ _ _ h => h) (Or.inl ⟨by rfl, ?_⟩) hS ?_
          rotate_left
          · (intro wq hq; go_simp); first | done | with_reducible rfl
          try simp only [Act.put, List.setIfInBounds_toArray, List.set_cons_zero, List.set_cons_succ]
          refine wpAnyH_done (by kernel_rfl) (NoPanic.normal ?_) _
          go_wp2_with fail
          go_ret
          exact ⟨ret_int HC.out.symm, hbel.drew.drew⟩
        · have l0 : ¬ x < x := by omega
          rw [if_neg l0, if_neg l0] at HC
          have l' : decide (x < x) = false := by simp
          go_wp2_with fail
          refine wp_region_noPanic ?_
          refine wp_region_held_drew (S := Below w.heap.size w) (by kernel_rfl) (hbel.drew) (fun hS => ?_)
          refine take_at (i := 0) (v := ?_) (some 18) rfl (by kernel_rfl) (by kernel_rfl) (by kernel_rfl) rfl (fun _ _ _ h => h) (Or.inl ⟨by rfl, ?_⟩) hS ?_
          rotate_left
          · (intro wq hq; go_simp); first | done | with_reducible rfl
          try simp only [Act.put, List.setIfInBounds_toArray, List.set_cons_zero, List.set_cons_succ]
          refine take_at (i := 1) (v := ?_) (some 19) rfl (by kernel_rfl) (by kernel_rfl) (by kernel_rfl) rfl (fun _ _ _ h => h) (Or.inl ⟨by rfl, ?_⟩) hS ?_
          rotate_left
          · (intro wq hq; go_simp); first | done | with_reducible rfl
          try simp only [Act.put, List.setIfInBounds_toArray, List.set_cons_zero, List.set_cons_succ]
          refine take_at (i := 2) (v := ?_) (some 20) rfl (by kernel_rfl) (by kernel_rfl) (by kernel_rfl) rfl (fun _ _ _ h => h) (Or.inl ⟨by rfl, ?_⟩) hS ?_
          rotate_left
          · (intro wq hq; go_simp); first | done | with_reducible rfl
          try simp only [Act.put, List.setIfInBounds_toArray, List.set_cons_zero, List.set_cons_succ]
          refine take_at (i := 3) (v := ?_) (some 21) rfl (by kernel_rfl) (by kernel_rfl) (by kernel_rfl) rfl (fun _ _ _ h => h) (Or.inl ⟨by rfl, ?_⟩) hS ?_
          rotate_left
          · (intro wq hq; go_simp); first | done | with_reducible rfl
          try simp only [Act.put, List.setIfInBounds_toArray, List.set_cons_zero, List.set_cons_succ]
          refine take_at (i := 4) (v := ?_) (some 22) rfl (by kernel_rfl) (by kernel_rfl) (by kernel_rfl) rfl (fun _ _ _ h => h) (Or.inl ⟨by rfl, ?_⟩) hS ?_
          rotate_left
          · (intro wq hq; go_simp); first | done | with_reducible rfl
          try simp only [Act.put, List.setIfInBounds_toArray, List.set_cons_zero, List.set_cons_succ]
          refine take_at (i := 5) (v := ?_) (some 23) rfl (by kernel_rfl) (by kernel_rfl) (by kernel_rfl) rfl (fun _ _ _ h => h) (Or.inl ⟨by rfl, ?_⟩) hS ?_
          rotate_left
          · (intro wq hq; go_simp); first | done | with_reducible rfl
          try simp only [Act.put, List.setIfInBounds_toArray, List.set_cons_zero, List.set_cons_succ]
          refine take_at (i := 6) (v := ?_) (some 24) rfl (by kernel_rfl) (by kernel_rfl) (by kernel_rfl) rfl (fun _ _ _ h => h) (Or.inl ⟨by rfl, ?_⟩) hS ?_
          rotate_left
          · (intro wq hq; go_simp); first | done | with_reducible rfl
          try simp only [Act.put, List.setIfInBounds_toArray, List.set_cons_zero, List.set_cons_succ]
          refine wpAnyH_done (by kernel_rfl) (NoPanic.normal ?_) _
          go_wp2_with fail
          refine wp_region_noPanic ?_
          refine wp_region_held_drew (S := Below w.heap.size w) (by kernel_rfl) (hbel.drew.drew) (fun hS => ?_)
          refine take_at (i := 0) (v := ?_) (some 25) rfl (by kernel_rfl) (by kernel_rfl) (by kernel_rfl) rfl (fun _ _ _ h => h) (Or.inl ⟨by rfl, ?_⟩) hS ?_
          rotate_left
          · (intro wq hq; go_simp); first | done | with_reducible rfl
          try simp only [Act.put, List.setIfInBounds_toArray, List.set_cons_zero, List.set_cons_succ]
          refine take_at (i := 1) (v := ?_) (some 26) rfl (by kernel_rfl) (by kernel_rfl) (by kernel_rfl) rfl (fun _ _ _ h => h) (Or.inl ⟨by rfl, ?_⟩) hS ?_
          rotate_left
          · (intro wq hq; go_simp); first | done | with_reducible rfl
          try simp only [Act.put, List.setIfInBounds_toArray, List.set_cons_zero, List.set_cons_succ]
          refine take_at (i := 2) (v := ?_) (some 27) rfl (by kernel_rfl) (by kernel_rfl) (by kernel_rfl) rfl (fun _ _ _ h => h) (Or.inl ⟨by rfl, ?_⟩) hS ?_
          rotate_left
          · (intro wq hq; go_simp); first | done | with_reducible rfl
          try simp only [Act.put, List.setIfInBounds_toArray, List.set_cons_zero, List.set_cons_succ]
          refine take_at (i := 3) (v := ?_) (some 28) rfl (by kernel_rfl) (by kernel_rfl) (by kernel_rfl) rfl (fun _ _ _ h => h) (Or.inl ⟨by rfl, ?_⟩) hS ?_
          rotate_left
          · (intro wq hq; go_simp); first | done | with_reducible rfl
          try simp only [Act.put, List.setIfInBounds_toArray, List.set_cons_zero, List.set_cons_succ]
          refine take_at (i := 4) (v := ?_) (some 29) rfl (by kernel_rfl) (by kernel_rfl) (by kernel_rfl) rfl (fun _ _ _ h => h) (Or.inl ⟨by rfl, ?_⟩) hS ?_
          rotate_left
          · (intro wq hq; go_simp); first | done | with_reducible rfl
          try simp only [Act.put, List.setIfInBounds_toArray, List.set_cons_zero, List.set_cons_succ]
          refine take_at (i := 5) (v := ?_) (some 30) rfl (by kernel_rfl) (by kernel_rfl) (by kernel_rfl) rfl (fun _ _ _ h => h) (Or.inl ⟨by rfl, ?_⟩) hS ?_
          rotate_left
          · (intro wq hq; go_simp); first | done | with_reducible rfl
          try simp only [Act.put, List.setIfInBounds_toArray, List.set_cons_zero, List.set_cons_succ]
          refine take_at (i := 6) (v := ?_) (some 31) rfl (by kernel_rfl) (by kernel_rfl) (by kernel_rfl) rfl (fun _ _ _ h => h) (Or.inl ⟨by rfl, ?_⟩) hS ?_
          rotate_left
          · (intro wq hq; go_simp); first | done | with_reducible rfl
          try simp only [Act.put, List.setIfInBounds_toArray, List.set_cons_zero, List.set_cons_succ]
          refine wpAnyH_done (by kernel_rfl) (NoPanic.normal ?_) _
          go_wp2_with fail
          go_roundw
          case rel => exact ⟨k + 1, by omega, by omega, by go_num, HC, hbel.drew.drew⟩
          case measure => (simp [intOf]; omega)
      · obtain rfl : k = b.size := by omega
        rw [drop_at a _ k1, drop_out b, cmpL] at HC
        have k1' : (b.size : Int) < (a.size : Int) := by omega
        have k2' : ¬ ((b.size : Int) < (b.size : Int)) := by omega
        have k3' : ¬ ((a.size : Int) < (b.size : Int)) := by omega
        go_wp2_with fail
        go_ret
        exact ⟨ret_int HC.out.symm, hbel⟩
    · obtain rfl : k = a.size := by omega
      have k1' : ¬ ((a.size : Int) < (a.size : Int)) := by omega
      by_cases k2 : a.size < b.size
      · rw [drop_at b _ k2, drop_out a, cmpL] at HC
        have k2' : ((a.size : Int) < (b.size : Int)) := by omega
        go_wp2_with fail
        go_ret
        exact ⟨ret_int HC.out.symm, hbel⟩
      · have hab : a.size = b.size := by omega
        have HAB := Lib.hid hab
        rw [drop_out a, hab, drop_out b, cmpL] at HC
        clear hab
        have k2' : ¬ ((a.size : Int) < (b.size : Int)) := by omega
        have k3' : ¬ ((b.size : Int) < (a.size : Int)) := by have := HAB.out; omega
        go_wp2_with fail
        go_ret
        exact ⟨ret_int HC.out.symm, hbel⟩
set_option maxHeartbeats 1000000 in
theorem rcompare_any (t n m : Int) (s r : ByteArray) (w : World) (q1 : -9223372036854775808 ≤ n ∧ n ≤ 9223372036854775807) (q2 : -9223372036854775808 ≤ m ∧ m ≤ 9223372036854775807) :
    Calls Try.prog 40 #[.int .i64 t, VV n s, VV m r] w fun e w' => e = .returned (.int .i64 (cmpV t n s m r)) ∧ Below w.heap.size w w' := by
  go_enter Try.func40, Try.ntmps40
  go_wp2_with fail
  refine (rboth_any t n m s r _).mono ?_
  rintro e w' ⟨rfl, hb⟩
  have h2 := (Bx.new (w.alloc (.cells #[.int .i64 n, .string s] 50)) m r 50).below hb
  have h1 := ((Bx.new w n s 50).alloc (.cells #[.int .i64 m, .string r] 50)).below hb
  rw [show (w.alloc (.cells #[.int .i64 n, .string s] 50)).heap.size = w.heap.size + 1 by simp] at h2
  obtain ⟨c0, c1⟩ := h1
  obtain ⟨d0, d1⟩ := h2
  have hb' := after2 hb
  clear hb
  cases hf : (fitsB t n s && fitsB t m r)
  · have hn := Lib.hid (cmpV_not hf)
    clear hf
    go_wp2_with fail
    go_ret
    exact ⟨ret_int hn.out.symm, hb'⟩
  · have hn := Lib.hid (cmpV_is hf)
    have HF := Lib.hid hf
    clear hf
    by_cases h2 : t = 2
    · subst h2
      have h21 : ¬ ((2 : Int) = 1) := by decide
      rw [if_neg h21, if_pos rfl] at hn
      by_cases a0 : n < 0 <;> by_cases a1 : m < 0
      · have e0 : decide (n < 0) = true := decide_eq_true a0
        have e1 : decide (m < 0) = true := decide_eq_true a1
        rcases (by omega : n < m ∨ m < n ∨ n = m) with l | l | rfl <;>
          ((try have l2 : ¬ n < m := by omega); (try have l3 : ¬ m < n := by omega); go_wp2_with fail; go_ret; exact ⟨ret_int (by rw [hn.out]; simp only [cmpI, IntKind.wrap_u64]; (repeat' split) <;> omega), hb'⟩)
      · have e0 : decide (n < 0) = true := decide_eq_true a0
        have e1 : decide (m < 0) = false := decide_eq_false a1
        go_wp2_with fail; go_ret; exact ⟨ret_int (by rw [hn.out]; simp only [cmpI, IntKind.wrap_u64]; (repeat' split) <;> omega), hb'⟩
      · have e0 : decide (n < 0) = false := decide_eq_false a0
        have e1 : decide (m < 0) = true := decide_eq_true a1
        go_wp2_with fail; go_ret; exact ⟨ret_int (by rw [hn.out]; simp only [cmpI, IntKind.wrap_u64]; (repeat' split) <;> omega), hb'⟩
      · have e0 : decide (n < 0) = false := decide_eq_false a0
        have e1 : decide (m < 0) = false := decide_eq_false a1
        rcases (by omega : n < m ∨ m < n ∨ n = m) with l | l | rfl <;>
          ((try have l2 : ¬ n < m := by omega); (try have l3 : ¬ m < n := by omega); go_wp2_with fail; go_ret; exact ⟨ret_int (by rw [hn.out]; simp only [cmpI, IntKind.wrap_u64]; (repeat' split) <;> omega), hb'⟩)
    · by_cases h3 : t = 3
      · subst h3
        rw [if_neg (by decide), if_neg (by decide), cmp_nums] at hn
        have hs : s.size ≤ 200 ∧ r.size ≤ 200 := by
          have h := HF.out
          rw [Bool.and_eq_true] at h
          have e1 := fits_size h.1
          have e2 := fits_size h.2
          omega
        have hsr := Lib.hid hs
        clear hs
        go_wp2_with (go_at_call 46; refine (rtexts_any s r _ hsr.out.1 hsr.out.2).mono ?_; rintro e w3 ⟨rfl, hb3⟩)
        go_ret
        exact ⟨ret_int hn.out.symm, Below.then hb' hb3⟩
      · have h1 : t = 1 := by
          have h := HF.out
          rw [Bool.and_eq_true] at h
          have h := h.1
          unfold fitsB at h
          by_cases h12 : t = 1 ∨ t = 2
          · omega
          · rw [if_neg h12, if_neg h3] at h; cases h
        subst h1
        rw [if_pos rfl] at hn
        rcases (by omega : n < m ∨ m < n ∨ n = m) with l | l | rfl
        · go_wp2_with fail
          go_ret
          exact ⟨ret_int (by rw [hn.out, cmpI, if_pos l]), hb'⟩
        · have l2 : ¬ n < m := by omega
          go_wp2_with fail
          go_ret
          exact ⟨ret_int (by rw [hn.out, cmpI, if_neg (by omega), if_pos l]), hb'⟩
        · have l2 : ¬ n < n := by omega
          go_wp2_with fail
          go_ret
          exact ⟨ret_int (by rw [hn.out, cmpI, if_neg (by omega), if_neg (by omega)]), hb'⟩
end Go.Proofs.Ytllgnafbemmcaaa
