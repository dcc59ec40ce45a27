/- IntsBegins: the walk. -/
import Derived.Test.YtiedejeimhjngaaI5b
import Derived.Test.YtiedejeimhjngaaR2
namespace Go.Proofs.Ytiedejeimhjngaa
open Go.ChangeShapes Go.WideShapes Go.ChangeAt Go.RowKit
set_option linter.unusedVariables false

set_option maxHeartbeats 2000000 in
theorem begins_is (A : Option Addr) (n C : Nat) (l0 : List Int) (A' : Option Addr) (n' C' : Nat) (k0 : List Int) (w : World) (hv0 : IV w A n l0) (hr0 : I64s l0) (hc0 : n ≤ C) (hv0' : IV w A' n' k0) (hr0' : I64s k0) (hc0' : n' ≤ C') :
    Calls Try.prog 8 #[.slice A n C, .slice A' n' C'] w fun e w' => e = .returned (.bool true) ∧ Below w.heap.size w w' := by
  go_enter Try.func8, Try.ntmps8
  go_wp2_with fail
  refine (shown5_is _).mono ?_
  rintro e w1 ⟨rfl, hb1⟩
  have hv1 := hv0.below hb1
  have hv1' := hv0'.below hb1
  obtain ⟨N, l, hm, hN, -, hv, hr⟩ := few5_is hv1 hr0
  obtain ⟨M, k, hm', hM, -, hk, hr'⟩ := few5_is hv1' hr0'
  go_wp2_with fail
  refine (few5_any A n C l0 _ hv1 hc0 hm.out).mono ?_
  rintro e w' ⟨rfl, rfl⟩
  go_wp2_with fail
  refine (few5_any A' n' C' k0 _ hv1' hc0' hm'.out).mono ?_
  rintro e w' ⟨rfl, rfl⟩
  clear hv0 hv1 hm hr0 hv0' hv1' hm' hr0' hc0 hc0'
  have HL := Lib.hid (IV.len hv)
  have HK := Lib.hid (IV.len hk)
  have o0 : OS 1 (w'.alloc (.cells #[] 2)) w'.heap.size (.slice (some ⟨w'.heap.size, 0, none⟩) 0 0) 0 [] := OS.lit (k := 1) w' w'.heap.size (Nat.le_refl _) [] 0 2 rfl (by simp) (by simp) _ rfl
  have hw1 : Below w'.heap.size w' (w'.alloc (.cells #[] 2)) := Joins.below_alloc1 _ _
  go_wp2_with (at_builtin; first | (refine append_os el_i64s rfl (.tmp 16) (.tmp 17) rfl w'.heap.size _ 0 [] rfl o0 A N C (icells l) rfl (hv.alloc _) (by omega) (by omega) (by simp) ?_; intro v2 w2 ho2 hb2; have hw2 := hw1.trans hb2; have hk2 := hk.below hw2; rw [Nat.zero_add, List.nil_append] at ho2) | (refine append_os el_i64s rfl (.tmp 18) (.tmp 19) rfl w'.heap.size _ N (icells l) rfl ho2 A' M C' (icells k) rfl hk2 (by omega) (by omega) hw2.size ?_; intro v3 w3 ho3 hb3; have hw3 := hw2.trans hb3; rw [← icells_app] at ho3; obtain ⟨Aa, Ca, rfl, hCa, -, va, -, -⟩ := ho3.sv))
  replace hv := hv.below hw3
  replace hk := hk.below hw3
  replace hb1 := Below.then hb1 hw3
  clear o0 hw1 ho2 hb2 hw2 hk2 ho3 hb3 hw3
  have hra := i64_app hr hr'
  have HDA := Lib.hid (deltaL_app 0 l k)
  have HFA := Lib.hid (fixedL_app l k)
  refine (delta_any Aa (N + M) Ca (l ++ k) _ va hra (by omega)).mono ?_
  rintro e w4 ⟨vd, rfl, od, hb4⟩
  replace hb1 := Below.then hb1 hb4
  replace hv := hv.below hb4
  replace hk := hk.below hb4
  replace va := va.below hb4
  go_wp2_with fail
  refine (fixed_any Aa (N + M) Ca (l ++ k) _ va hra (by omega)).mono ?_
  rintro e w5 ⟨vf, rfl, of, hb5⟩
  replace hb1 := Below.then hb1 hb5
  replace hv := hv.below hb5
  replace hk := hk.below hb5
  replace od := od.below hb5
  clear va
  go_wp2_with fail
  refine (delta_any A N C l _ hv hr (by omega)).mono ?_
  rintro e w6 ⟨vo, rfl, oo, hb6⟩
  replace hb1 := Below.then hb1 hb6
  replace hv := hv.below hb6
  replace hk := hk.below hb6
  replace od := od.below hb6
  replace of := of.below hb6
  go_wp2_with fail
  refine (fixed_any A N C l _ hv hr (by omega)).mono ?_
  rintro e w7 ⟨vt, rfl, ot, hb7⟩
  replace hb1 := Below.then hb1 hb7
  replace hk := hk.below hb7
  replace od := od.below hb7
  replace of := of.below hb7
  replace oo := oo.below hb7
  clear hb4 hb5 hb6 hb7 hv
  obtain ⟨D, hD⟩ : ∃ D, (deltaL 0 l).length = D := ⟨_, rfl⟩
  obtain ⟨F, hF⟩ : ∃ F, (fixedL l).length = F := ⟨_, rfl⟩
  obtain ⟨G, hG⟩ : ∃ G, (deltaL 0 (l ++ k)).length = G := ⟨_, rfl⟩
  obtain ⟨H, hH⟩ : ∃ H, (fixedL (l ++ k)).length = H := ⟨_, rfl⟩
  have hDG : D ≤ G := by rw [← hD, ← hG, HDA.out, List.length_append]; omega
  have hFH : F ≤ H := by rw [← hF, ← hH, HFA.out, List.length_append]; omega
  obtain ⟨ad, cd, rfl, hcd, -, bd, -⟩ := od.bvn (deltaL_bytes 0 _) G hG
  obtain ⟨af, cf, rfl, -, -, bf, -⟩ := of.bvn (fixedL_bytes _) H hH
  obtain ⟨ao, co, rfl, -, -, bo, -⟩ := oo.bvn (deltaL_bytes 0 l) D hD
  obtain ⟨at', ct, rfl, -, -, bt, -⟩ := ot.bvn (fixedL_bytes l) F hF
  have bx := bd.take D hDG
  have e1 : (deltaL 0 (l ++ k)).take D = deltaL 0 l := by rw [HDA.out, ← hD]; exact List.take_left' rfl
  rw [e1] at bx
  rw [HFA.out] at bf
  have hst := str_beq (deltaL_bytes 0 l) (deltaL_bytes 0 l)
  have hst2 : ((strOfNums (fixedL l ++ fixedL k)).toList == (strOfNums (fixedL l) ++ strOfNums (fixedL k)).toList) = true := by rw [str_add]; exact beq_self_eq_true _
  have hsm : ¬ 9223372036854775807 < (strOfNums (fixedL l)).size + (strOfNums (fixedL k)).size := by rw [strOfNums_size, strOfNums_size, fixedL_len, fixedL_len, HL.out, HK.out]; omega
  have i1 : ¬ (G : Int) < (D : Int) := by omega
  have i2 : ¬ (H : Int) < (F : Int) := by omega
  have hsl := slice_hi ad G cd (D : Int) (by omega) (by omega)
  rw [show ((D : Int)).toNat = D by omega] at hsl
  clear od of oo ot bd hD hF hG hH e1
  go_wp2_with fail
  refine wp_region_noPanic ?_
  refine region_g 23 (Ext (World.drew _)) (by kernel_rfl) (Ext.refl _) (fun hS => ?_)
  refine take_w (i := 0) (v := ?_) (some 41) rfl (by kernel_rfl) rfl (fun _ _ _ h => h) (Or.inl ⟨by rfl, ?_⟩) hS ?_
  rotate_left
  · (intro wq hq; go_simp); first | done | with_reducible rfl
  try simp only [Act.put, List.setIfInBounds_toArray, List.set_cons_zero, List.set_cons_succ]
  replace hS := Till.list 0 hS
  refine take_w (i := 1) (v := ?_) (some 42) rfl (by kernel_rfl) rfl (fun _ _ _ h => h) (Or.inl ⟨by rfl, ?_⟩) hS ?_
  rotate_left
  · (intro wq hq; go_simp); first | done | with_reducible rfl
  try simp only [Act.put, List.setIfInBounds_toArray, List.set_cons_zero, List.set_cons_succ]
  replace hS := Till.list 1 hS
  refine take_w (i := 2) (v := ?_) (some 43) rfl (by kernel_rfl) rfl (fun _ _ _ h => h) (Or.inl ⟨by rfl, ?_⟩) hS ?_
  rotate_left
  · (intro wq hq; go_simp); first | done | with_reducible rfl
  try simp only [Act.put, List.setIfInBounds_toArray, List.set_cons_zero, List.set_cons_succ]
  replace hS := Till.list 2 hS
  refine take_w (i := 3) (v := ?_) (some 44) rfl (by kernel_rfl) rfl (fun _ _ _ h => h) (Or.inl ⟨by rfl, ?_⟩) hS ?_
  rotate_left
  · (intro wq hq; go_simp); first | done | with_reducible rfl
  try simp only [Act.put, List.setIfInBounds_toArray, List.set_cons_zero, List.set_cons_succ]
  replace hS := Till.list 3 hS
  refine take_w (i := 7) (v := ?_) (some 48) rfl (by kernel_rfl) rfl (fun _ _ _ h => h) (Or.inl ⟨by rfl, ?_⟩) hS ?_
  rotate_left
  · (intro wq hq; go_simp); first | done | with_reducible rfl
  try simp only [Act.put, List.setIfInBounds_toArray, List.set_cons_zero, List.set_cons_succ]
  replace hS := Till.list 7 hS
  refine take_w (i := 4) (v := ?_) (some 45) rfl (by kernel_rfl) rfl (fun _ _ _ h => h) (Or.inl ⟨by rfl, ?_⟩) hS ?_
  rotate_left
  · (intro wq hq; go_simp); first | done | with_reducible rfl
  try simp only [Act.put, List.setIfInBounds_toArray, List.set_cons_zero, List.set_cons_succ]
  replace hS := Till.list 4 hS
  refine take_w (i := 5) (v := ?_) (some 46) rfl (by kernel_rfl) rfl (fun _ _ _ h => h) (Or.inl ⟨by rfl, ?_⟩) hS ?_
  rotate_left
  · (intro wq hq; go_simp); first | done | with_reducible rfl
  try simp only [Act.put, List.setIfInBounds_toArray, List.set_cons_zero, List.set_cons_succ]
  replace hS := Till.list 5 hS
  refine take_n (i := 6) (v := .string (strOfNums (deltaL 0 l))) (some 47) rfl (by kernel_rfl) rfl (fun _ _ _ h => h) (Or.inl ⟨by rfl, ?_⟩) hS ?_
  · (intro wq hq; (have hcv := conv_any (bx.ext hq) cd; go_simp))
  try simp only [Act.put, List.setIfInBounds_toArray, List.set_cons_zero, List.set_cons_succ]
  replace hS := Till.list 6 hS
  refine take_n (i := 8) (v := .string (strOfNums (deltaL 0 l))) (some 49) rfl (by kernel_rfl) rfl (fun _ _ _ h => h) (Or.inl ⟨by rfl, ?_⟩) hS ?_
  · (intro wq hq; (have hcv := conv_any (bo.ext hq) co; go_simp))
  try simp only [Act.put, List.setIfInBounds_toArray, List.set_cons_zero, List.set_cons_succ]
  replace hS := Till.list 8 hS
  refine take_w (i := 9) (v := ?_) (some 50) rfl (by kernel_rfl) rfl (fun _ _ _ h => h) (Or.inl ⟨by rfl, ?_⟩) hS ?_
  rotate_left
  · (intro wq hq; go_simp); first | done | with_reducible rfl
  try simp only [Act.put, List.setIfInBounds_toArray, List.set_cons_zero, List.set_cons_succ]
  replace hS := Till.list 9 hS
  refine take_w (i := 10) (v := ?_) (some 51) rfl (by kernel_rfl) rfl (fun _ _ _ h => h) (Or.inl ⟨by rfl, ?_⟩) hS ?_
  rotate_left
  · (intro wq hq; go_simp); first | done | with_reducible rfl
  try simp only [Act.put, List.setIfInBounds_toArray, List.set_cons_zero, List.set_cons_succ]
  replace hS := Till.list 10 hS
  refine take_w (i := 11) (v := ?_) (some 52) rfl (by kernel_rfl) rfl (fun _ _ _ h => h) (Or.inl ⟨by rfl, ?_⟩) hS ?_
  rotate_left
  · (intro wq hq; go_simp); first | done | with_reducible rfl
  try simp only [Act.put, List.setIfInBounds_toArray, List.set_cons_zero, List.set_cons_succ]
  replace hS := Till.list 11 hS
  refine take_w (i := 12) (v := ?_) (some 53) rfl (by kernel_rfl) rfl (fun _ _ _ h => h) (Or.inl ⟨by rfl, ?_⟩) hS ?_
  rotate_left
  · (intro wq hq; go_simp); first | done | with_reducible rfl
  try simp only [Act.put, List.setIfInBounds_toArray, List.set_cons_zero, List.set_cons_succ]
  replace hS := Till.list 12 hS
  refine take_w (i := 14) (v := ?_) (some 55) rfl (by kernel_rfl) rfl (fun _ _ _ h => h) (Or.inl ⟨by rfl, ?_⟩) hS ?_
  rotate_left
  · (intro wq hq; go_simp); first | done | with_reducible rfl
  try simp only [Act.put, List.setIfInBounds_toArray, List.set_cons_zero, List.set_cons_succ]
  replace hS := Till.list 14 hS
  refine take_w (i := 16) (v := ?_) (some 57) rfl (by kernel_rfl) rfl (fun _ _ _ h => h) (Or.inl ⟨by rfl, ?_⟩) hS ?_
  rotate_left
  · (intro wq hq; go_simp); first | done | with_reducible rfl
  try simp only [Act.put, List.setIfInBounds_toArray, List.set_cons_zero, List.set_cons_succ]
  replace hS := Till.list 16 hS
  refine take_n (i := 13) (v := .string (strOfNums (fixedL l ++ fixedL k))) (some 54) rfl (by kernel_rfl) rfl (fun _ _ _ h => h) (Or.inl ⟨by rfl, ?_⟩) hS ?_
  · (intro wq hq; (have hcv := conv_any (bf.ext hq) cf; go_simp))
  try simp only [Act.put, List.setIfInBounds_toArray, List.set_cons_zero, List.set_cons_succ]
  replace hS := Till.list 13 hS
  refine take_n (i := 15) (v := .string (strOfNums (fixedL l))) (some 56) rfl (by kernel_rfl) rfl (fun _ _ _ h => h) (Or.inl ⟨by rfl, ?_⟩) hS ?_
  · (intro wq hq; (have hcv := conv_any (bt.ext hq) ct; go_simp))
  try simp only [Act.put, List.setIfInBounds_toArray, List.set_cons_zero, List.set_cons_succ]
  replace hS := Till.list 15 hS
  refine ready_g (rs := [17]) (by kernel_rfl) (by simp) ?_
  refine AllReadyG.cons rfl (fun Kont hK => ?_) AllReadyG.nil
  go_simp
  refine (fixed_any A' M C' k _ hk.drew hr' (by omega)).mono ?_
  rintro e w8 ⟨vk, rfl, ok, hb8⟩
  obtain ⟨ak, ck, rfl, -, -, bk, -⟩ := ok.bvn (fixedL_bytes k) _ rfl
  replace hb1 := Below.then hb1.drew hb8
  refine hK.out _ _ (Or.inr ((hS.get (by kernel_rfl)).trans (Ext.below hb8))) (fun hS0 => ?_)
  clear hK Kont
  try simp only [Act.put, List.setIfInBounds_toArray, List.set_cons_zero, List.set_cons_succ]
  clear hS
  refine now_t (by kernel_rfl) hS0 (fun hS => ?_)
  clear hS0
  refine take_n (i := 18) (v := .string (strOfNums (fixedL k))) (some 59) rfl (by kernel_rfl) rfl (fun _ _ _ h => h) (Or.inl ⟨by rfl, ?_⟩) hS ?_
  · (intro wq hq; (have hcv := conv_any (bk.ext hq) ck; go_simp))
  try simp only [Act.put, List.setIfInBounds_toArray, List.set_cons_zero, List.set_cons_succ]
  replace hS := Till.list 18 hS
  refine take_w (i := 19) (v := ?_) (some 60) rfl (by kernel_rfl) rfl (fun _ _ _ h => h) (Or.inl ⟨by rfl, ?_⟩) hS ?_
  rotate_left
  · (intro wq hq; go_simp); first | done | with_reducible rfl
  try simp only [Act.put, List.setIfInBounds_toArray, List.set_cons_zero, List.set_cons_succ]
  replace hS := Till.list 19 hS
  refine take_w (i := 20) (v := ?_) (some 61) rfl (by kernel_rfl) rfl (fun _ _ _ h => h) (Or.inl ⟨by rfl, ?_⟩) hS ?_
  rotate_left
  · (intro wq hq; go_simp); first | done | with_reducible rfl
  try simp only [Act.put, List.setIfInBounds_toArray, List.set_cons_zero, List.set_cons_succ]
  replace hS := Till.list 20 hS
  refine take_w (i := 21) (v := ?_) (some 62) rfl (by kernel_rfl) rfl (fun _ _ _ h => h) (Or.inl ⟨by rfl, ?_⟩) hS ?_
  rotate_left
  · (intro wq hq; go_simp); first | done | with_reducible rfl
  try simp only [Act.put, List.setIfInBounds_toArray, List.set_cons_zero, List.set_cons_succ]
  replace hS := Till.list 21 hS
  refine take_w (i := 22) (v := ?_) (some 4) rfl (by kernel_rfl) rfl (fun _ _ _ h => h) (Or.inl ⟨by rfl, ?_⟩) hS ?_
  rotate_left
  · (intro wq hq; go_simp); first | done | with_reducible rfl
  try simp only [Act.put, List.setIfInBounds_toArray, List.set_cons_zero, List.set_cons_succ]
  replace hS := Till.list 22 hS
  refine done_g (by kernel_rfl) (NoPanic.normal ?_) _
  clear hS
  go_wp2_with fail
  go_ret
  exact ⟨rfl, hb1⟩
end Go.Proofs.Ytiedejeimhjngaa
