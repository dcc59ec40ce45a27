/- IntsOne: the walk. -/
import Derived.Test.YtiedejeimhjngaaI5u
import Derived.Test.YtiedejeimhjngaaI5b
namespace Go.Proofs.Ytiedejeimhjngaa
open Go.ChangeShapes Go.WideShapes Go.ChangeAt Go.RowKit
set_option linter.unusedVariables false

set_option maxHeartbeats 2000000 in
theorem one_is (a : Option Addr) (n c : Nat) (zs : List Int) (w : World) (hv : BV w a n zs) (hc : n ≤ c) :
    Calls Try.prog 5 #[.slice a n c] w fun e w' => e = .returned (.bool true) ∧ Below w.heap.size w w' := by
  go_enter Try.func5, Try.ntmps5
  go_wp2_with fail
  refine (shown5_is _).mono ?_
  rintro e w1 ⟨rfl, hb1⟩
  replace hv := hv.below hb1
  by_cases h5 : n ≤ 500
  · have h5i : ¬ (500 : Int) < (n : Int) := by omega
    go_wp2_with fail
    refine (takeI_any a n c zs _ hv (by omega) (by omega)).mono ?_
    rintro e w2 he
    rcases he with ⟨A, N, C, l, rfl, hC, hN, hi, hl, hp, hb2⟩ | ⟨rfl, hno, hb2⟩
    · have HP := Lib.hid hp
      clear hp
      replace hv := hv.below hb2
      replace hb1 := Below.then hb1 hb2
      clear hb2
      rw [← HP.out] at hv
      have hst := str_beq (putI_bytes l) (putI_bytes l)
      go_wp2_with fail
      refine wp_region_noPanic ?_
      refine region_g 10 (Ext (World.drew _)) (by kernel_rfl) (Ext.refl _) (fun hS => ?_)
      refine take_w (i := 0) (v := ?_) (some 29) rfl (by kernel_rfl) rfl (fun _ _ _ h => h) (Or.inl ⟨by rfl, ?_⟩) hS ?_
      rotate_left
      · (intro wq hq; go_simp); first | done | with_reducible rfl
      try simp only [Act.put, List.setIfInBounds_toArray, List.set_cons_zero, List.set_cons_succ]
      replace hS := Till.list 0 hS
      refine take_w (i := 1) (v := ?_) (some 30) rfl (by kernel_rfl) rfl (fun _ _ _ h => h) (Or.inl ⟨by rfl, ?_⟩) hS ?_
      rotate_left
      · (intro wq hq; go_simp); first | done | with_reducible rfl
      try simp only [Act.put, List.setIfInBounds_toArray, List.set_cons_zero, List.set_cons_succ]
      replace hS := Till.list 1 hS
      refine take_w (i := 2) (v := ?_) (some 31) rfl (by kernel_rfl) rfl (fun _ _ _ h => h) (Or.inl ⟨by rfl, ?_⟩) hS ?_
      rotate_left
      · (intro wq hq; go_simp); first | done | with_reducible rfl
      try simp only [Act.put, List.setIfInBounds_toArray, List.set_cons_zero, List.set_cons_succ]
      replace hS := Till.list 2 hS
      refine take_w (i := 5) (v := ?_) (some 34) rfl (by kernel_rfl) rfl (fun _ _ _ h => h) (Or.inl ⟨by rfl, ?_⟩) hS ?_
      rotate_left
      · (intro wq hq; go_simp); first | done | with_reducible rfl
      try simp only [Act.put, List.setIfInBounds_toArray, List.set_cons_zero, List.set_cons_succ]
      replace hS := Till.list 5 hS
      refine take_n (i := 6) (v := .string (strOfNums (putI l))) (some 35) rfl (by kernel_rfl) rfl (fun _ _ _ h => h) (Or.inl ⟨by rfl, ?_⟩) hS ?_
      · (intro wq hq; (have hcv := conv_any (hv.ext hq) c; go_simp))
      try simp only [Act.put, List.setIfInBounds_toArray, List.set_cons_zero, List.set_cons_succ]
      replace hS := Till.list 6 hS
      refine ready_g (rs := [3]) (by kernel_rfl) (by simp) ?_
      refine AllReadyG.cons rfl (fun Kont hK => ?_) AllReadyG.nil
      go_simp
      refine (putI_any A N C l _ hl.drew hi (by omega)).mono ?_
      rintro e w3 ⟨vp, rfl, op, hb3⟩
      obtain ⟨ap, cp, rfl, -, -, bp, -⟩ := op.bvn (putI_bytes l) _ rfl
      replace hb1 := Below.then hb1.drew hb3
      refine hK.out _ _ (Or.inr ((hS.get (by kernel_rfl)).trans (Ext.below hb3))) (fun hS0 => ?_)
      clear hK Kont
      try simp only [Act.put, List.setIfInBounds_toArray, List.set_cons_zero, List.set_cons_succ]
      clear hS
      refine now_t (by kernel_rfl) hS0 (fun hS => ?_)
      clear hS0
      refine take_n (i := 4) (v := .string (strOfNums (putI l))) (some 33) rfl (by kernel_rfl) rfl (fun _ _ _ h => h) (Or.inl ⟨by rfl, ?_⟩) hS ?_
      · (intro wq hq; (have hcv := conv_any (bp.ext hq) cp; go_simp))
      try simp only [Act.put, List.setIfInBounds_toArray, List.set_cons_zero, List.set_cons_succ]
      replace hS := Till.list 4 hS
      refine take_w (i := 7) (v := ?_) (some 36) rfl (by kernel_rfl) rfl (fun _ _ _ h => h) (Or.inl ⟨by rfl, ?_⟩) hS ?_
      rotate_left
      · (intro wq hq; go_simp); first | done | with_reducible rfl
      try simp only [Act.put, List.setIfInBounds_toArray, List.set_cons_zero, List.set_cons_succ]
      replace hS := Till.list 7 hS
      refine take_w (i := 8) (v := ?_) (some 37) rfl (by kernel_rfl) rfl (fun _ _ _ h => h) (Or.inl ⟨by rfl, ?_⟩) hS ?_
      rotate_left
      · (intro wq hq; go_simp); first | done | with_reducible rfl
      try simp only [Act.put, List.setIfInBounds_toArray, List.set_cons_zero, List.set_cons_succ]
      replace hS := Till.list 8 hS
      refine take_w (i := 9) (v := ?_) (some 2) rfl (by kernel_rfl) rfl (fun _ _ _ h => h) (Or.inl ⟨by rfl, ?_⟩) hS ?_
      rotate_left
      · (intro wq hq; go_simp); first | done | with_reducible rfl
      try simp only [Act.put, List.setIfInBounds_toArray, List.set_cons_zero, List.set_cons_succ]
      replace hS := Till.list 9 hS
      refine done_g (by kernel_rfl) (NoPanic.normal ?_) _
      clear hS
      go_wp2_with fail
      go_ret
      exact ⟨rfl, hb1⟩
    · clear hno
      replace hb1 := Below.then hb1 hb2
      go_wp2_with fail
      go_ret
      exact ⟨rfl, hb1⟩
  · have h5i : (500 : Int) < (n : Int) := by omega
    have h5c : 500 ≤ c := by omega
    replace hv := hv.take 500 (by omega)
    generalize zs.take 500 = ys at hv
    go_wp2_with fail
    refine (takeI_any a 500 c ys _ hv (by omega) (by omega)).mono ?_
    rintro e w2 he
    rcases he with ⟨A, N, C, l, rfl, hC, hN, hi, hl, hp, hb2⟩ | ⟨rfl, hno, hb2⟩
    · have HP := Lib.hid hp
      clear hp
      replace hv := hv.below hb2
      replace hb1 := Below.then hb1 hb2
      clear hb2
      rw [← HP.out] at hv
      have hst := str_beq (putI_bytes l) (putI_bytes l)
      go_wp2_with fail
      refine wp_region_noPanic ?_
      refine region_g 10 (Ext (World.drew _)) (by kernel_rfl) (Ext.refl _) (fun hS => ?_)
      refine take_w (i := 0) (v := ?_) (some 29) rfl (by kernel_rfl) rfl (fun _ _ _ h => h) (Or.inl ⟨by rfl, ?_⟩) hS ?_
      rotate_left
      · (intro wq hq; go_simp); first | done | with_reducible rfl
      try simp only [Act.put, List.setIfInBounds_toArray, List.set_cons_zero, List.set_cons_succ]
      replace hS := Till.list 0 hS
      refine take_w (i := 1) (v := ?_) (some 30) rfl (by kernel_rfl) rfl (fun _ _ _ h => h) (Or.inl ⟨by rfl, ?_⟩) hS ?_
      rotate_left
      · (intro wq hq; go_simp); first | done | with_reducible rfl
      try simp only [Act.put, List.setIfInBounds_toArray, List.set_cons_zero, List.set_cons_succ]
      replace hS := Till.list 1 hS
      refine take_w (i := 2) (v := ?_) (some 31) rfl (by kernel_rfl) rfl (fun _ _ _ h => h) (Or.inl ⟨by rfl, ?_⟩) hS ?_
      rotate_left
      · (intro wq hq; go_simp); first | done | with_reducible rfl
      try simp only [Act.put, List.setIfInBounds_toArray, List.set_cons_zero, List.set_cons_succ]
      replace hS := Till.list 2 hS
      refine take_w (i := 5) (v := ?_) (some 34) rfl (by kernel_rfl) rfl (fun _ _ _ h => h) (Or.inl ⟨by rfl, ?_⟩) hS ?_
      rotate_left
      · (intro wq hq; go_simp); first | done | with_reducible rfl
      try simp only [Act.put, List.setIfInBounds_toArray, List.set_cons_zero, List.set_cons_succ]
      replace hS := Till.list 5 hS
      refine take_n (i := 6) (v := .string (strOfNums (putI l))) (some 35) rfl (by kernel_rfl) rfl (fun _ _ _ h => h) (Or.inl ⟨by rfl, ?_⟩) hS ?_
      · (intro wq hq; (have hcv := conv_any (hv.ext hq) c; go_simp))
      try simp only [Act.put, List.setIfInBounds_toArray, List.set_cons_zero, List.set_cons_succ]
      replace hS := Till.list 6 hS
      refine ready_g (rs := [3]) (by kernel_rfl) (by simp) ?_
      refine AllReadyG.cons rfl (fun Kont hK => ?_) AllReadyG.nil
      go_simp
      refine (putI_any A N C l _ hl.drew hi (by omega)).mono ?_
      rintro e w3 ⟨vp, rfl, op, hb3⟩
      obtain ⟨ap, cp, rfl, -, -, bp, -⟩ := op.bvn (putI_bytes l) _ rfl
      replace hb1 := Below.then hb1.drew hb3
      refine hK.out _ _ (Or.inr ((hS.get (by kernel_rfl)).trans (Ext.below hb3))) (fun hS0 => ?_)
      clear hK Kont
      try simp only [Act.put, List.setIfInBounds_toArray, List.set_cons_zero, List.set_cons_succ]
      clear hS
      refine now_t (by kernel_rfl) hS0 (fun hS => ?_)
      clear hS0
      refine take_n (i := 4) (v := .string (strOfNums (putI l))) (some 33) rfl (by kernel_rfl) rfl (fun _ _ _ h => h) (Or.inl ⟨by rfl, ?_⟩) hS ?_
      · (intro wq hq; (have hcv := conv_any (bp.ext hq) cp; go_simp))
      try simp only [Act.put, List.setIfInBounds_toArray, List.set_cons_zero, List.set_cons_succ]
      replace hS := Till.list 4 hS
      refine take_w (i := 7) (v := ?_) (some 36) rfl (by kernel_rfl) rfl (fun _ _ _ h => h) (Or.inl ⟨by rfl, ?_⟩) hS ?_
      rotate_left
      · (intro wq hq; go_simp); first | done | with_reducible rfl
      try simp only [Act.put, List.setIfInBounds_toArray, List.set_cons_zero, List.set_cons_succ]
      replace hS := Till.list 7 hS
      refine take_w (i := 8) (v := ?_) (some 37) rfl (by kernel_rfl) rfl (fun _ _ _ h => h) (Or.inl ⟨by rfl, ?_⟩) hS ?_
      rotate_left
      · (intro wq hq; go_simp); first | done | with_reducible rfl
      try simp only [Act.put, List.setIfInBounds_toArray, List.set_cons_zero, List.set_cons_succ]
      replace hS := Till.list 8 hS
      refine take_w (i := 9) (v := ?_) (some 2) rfl (by kernel_rfl) rfl (fun _ _ _ h => h) (Or.inl ⟨by rfl, ?_⟩) hS ?_
      rotate_left
      · (intro wq hq; go_simp); first | done | with_reducible rfl
      try simp only [Act.put, List.setIfInBounds_toArray, List.set_cons_zero, List.set_cons_succ]
      replace hS := Till.list 9 hS
      refine done_g (by kernel_rfl) (NoPanic.normal ?_) _
      clear hS
      go_wp2_with fail
      go_ret
      exact ⟨rfl, hb1⟩
    · clear hno
      replace hb1 := Below.then hb1 hb2
      go_wp2_with fail
      go_ret
      exact ⟨rfl, hb1⟩
end Go.Proofs.Ytiedejeimhjngaa
