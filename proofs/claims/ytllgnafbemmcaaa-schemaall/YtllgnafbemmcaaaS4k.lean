/- SchemaKeys: the walk. -/
import Derived.Test.YtllgnafbemmcaaaS4j
namespace Go.Proofs.Ytllgnafbemmcaaa
open Go.ChangeShapes Go.WideShapes Go.ChangeAt Go.RowKit
set_option linter.unusedVariables false

abbrev arr2 (R0 : Option Addr) (n0 c0 : Nat) (R1 : Option Addr) (n1 c1 : Nat) : Array Value := #[.slice R0 n0 c0, .slice R1 n1 c1]
set_option maxHeartbeats 4000000 in
theorem keys_is {l0 l1 l2 l3 l4 l5 l6 l7 n keys mode grain : Int} (h : ShW l0 l1 l2 l3 l4 l5 l6 l7 n keys mode grain) (R0 : Option Addr) (n0 k0 : Nat) (u0 : List (Int × ByteArray)) (R1 : Option Addr) (n1 k1 : Nat) (u1 : List (Int × ByteArray)) (nn : Int) (hnn : 0 ≤ nn ∧ nn ≤ 255) (w : World)
    (h0 : WV w R0 n0 u0) (hn0 : n0 ≤ maxLen) (h1 : WV w R1 n1 u1) (hn1 : n1 ≤ maxLen) (q0 : RgV u0) (q1 : RgV u1) :
    Calls Try.prog 8 #[ShV l0 l1 l2 l3 l4 l5 l6 l7 n keys mode grain, .agg (arr2 R0 n0 k0 R1 n1 k1), .int .u8 nn] w fun e w' => e = .returned (.bool true) ∧ Below w.heap.size w w' := by
  have t := (Bk.new w (shC l0 l1 l2 l3 l4 l5 l6 l7 n keys mode grain) 43).alloc (.cells (arr2 R0 n0 k0 R1 n1 k1) 55)
  have t' := Bk.new (w.alloc (.cells (shC l0 l1 l2 l3 l4 l5 l6 l7 n keys mode grain) 43)) (arr2 R0 n0 k0 R1 n1 k1) 55
  rw [heap_alloc] at t'
  go_enter Try.func8, Try.ntmps8
  go_wp2_with fail
  refine (shown4_is _).mono ?_
  rintro e w1 ⟨rfl, hb1⟩
  have t1 := t.below hb1
  have tr := t'.below hb1
  have hw1 := after2 hb1
  have h0 := h0.below hw1
  have h1 := h1.below hw1
  clear t t' hb1
  obtain ⟨⟨x0, x1, x2, x3⟩, ⟨x4, x5, x6, x7⟩, ⟨x8, x9, x10, x11⟩⟩ := t1.shape
  go_wp2_with fail
  refine (made_good h _).mono ?_
  rintro e w2 ⟨A, N, C, K, m, g, ts, rfl, hk, hN, ho, hb2⟩
  clear x0 x1 x2 x3 x4 x5 x6 x7 x8 x9 x10 x11 t1
  obtain ⟨_, _, hA, hC1, hC2, hv, -⟩ := ho.sv
  cases hA
  have hkk := Lib.hid (MadeG.keys hk)
  have hty : Hid (Ty ts) := Lib.hid (check_is hk).2.2.2.2.2.2.2.2
  have hlt := Lib.hid (IV.len hv)
  have hx := Sx.new w2 A N C K m g 24
  have h0 := (h0.below hb2).alloc (.cells #[.slice A N C, .int .i64 K, .int .i64 m, .int .i64 g] 24)
  have h1 := (h1.below hb2).alloc (.cells #[.slice A N C, .int .i64 K, .int .i64 m, .int .i64 g] 24)
  have hvA := hv.alloc (.cells #[.slice A N C, .int .i64 K, .int .i64 m, .int .i64 g] 24)
  have tr := (tr.below hb2).alloc (.cells #[.slice A N C, .int .i64 K, .int .i64 m, .int .i64 g] 24)
  have hw2 := (Below.then hw1 hb2).alloc (by have := (Below.then hw1 hb2).size; omega) (.cells #[.slice A N C, .int .i64 K, .int .i64 m, .int .i64 g] 24)
  clear ho hv hb2 hw1
  have hs0 := tr.lt
  have hN1 : N ≤ maxLen := few_max (by omega)
  have hK1 : K ≤ maxLen := few_max (by have := hkk.out; omega)
  obtain ⟨c0, c1, c2, c3⟩ := id hx
  have d0 := tr.cell 0 (v := .slice R0 n0 k0) rfl
  go_wp2_with fail
  clear c0 c1 c2 c3 d0
  generalize w2.alloc (.cells #[.slice A N C, .int .i64 K, .int .i64 m, .int .i64 g] 24) = w3 at *
  generalize w2.heap.size = b6 at *
  refine (rfit_any A N C ts K m g R0 n0 k0 u0 _ hvA (by omega) h0 hn0).mono ?_
  rintro e w4 ⟨a0, s0, rfl, o0, hb4⟩
  obtain ⟨_, _, hA, hp0, hs0, va, -⟩ := o0.sv
  cases hA
  replace hx := hx.below hb4
  replace hvA := hvA.below hb4
  replace h1 := h1.below hb4
  replace tr := tr.below hb4
  replace hw2 := Below.then hw2 hb4
  clear o0 hb4 h0
  obtain ⟨c0, c1, c2, c3⟩ := id hx
  have d0 := tr.cell 1 (v := .slice R1 n1 k1) rfl
  go_wp2_with fail
  clear c0 c1 c2 c3 d0
  refine (rfit_any A N C ts K m g R1 n1 k1 u1 _ hvA (by omega) h1 hn1).mono ?_
  rintro e w5 ⟨a1, s1, rfl, o1, hb5⟩
  obtain ⟨_, _, hA, hp1, hs1, vb, -⟩ := o1.sv
  cases hA
  replace hx := hx.below hb5
  replace hvA := hvA.below hb5
  replace va := va.below hb5
  replace hw2 := Below.then hw2 hb5
  clear o1 hb5 h1 tr
  have hlK : K ≤ ts.length := hkk.out.2.1
  have hK0 : 1 ≤ K := hkk.out.1
  obtain ⟨kk, hkq, hkK⟩ : ∃ kk : Nat, nn % ((K : Int) + 1) = (kk : Int) ∧ kk ≤ K := ⟨(nn % ((K : Int) + 1)).toNat, by rw [Int.toNat_of_nonneg (Int.emod_nonneg _ (by omega))], by have := Int.emod_lt_of_pos nn (show (0 : Int) < (K : Int) + 1 by omega); have := Int.emod_nonneg nn (show (K : Int) + 1 ≠ 0 by omega); omega⟩
  have HO := Lib.hid (keyR (k := kk) hlK hkK (fitR_len _ _) (fitR_ok K hlK hty.out q0) (fitR_ok K hlK hty.out q1))
  have hKN : K ≤ N := by rw [hlt.out] at hlK; exact hlK
  have hla := Lib.hid (WV.len va)
  have hlb := Lib.hid (WV.len vb)
  clear hlK
  generalize fitR ts u0 = ra at *
  generalize fitR ts u1 = rb at *
  obtain ⟨b1, off1, rfl, -, -⟩ := WV.at vb 0 (by omega)
  have vk := WV.takes va K (by omega)
  have vd := WV.drops' vb K s1 hKN hp1
  obtain ⟨c0, c1, c2, c3⟩ := id hx
  have hKNi : (K : Int) ≤ (N : Int) := by omega
  have hKs : K ≤ s0 := by omega
  have hKs1 : K ≤ s1 := by omega
  go_wp2_with fail
  refine wp_region_noPanic ?_
  refine region_g 10 (Ext (World.drew _)) (by kernel_rfl) (Ext.refl _) (fun hS => ?_)
  refine take_w (i := 1) (v := ?_) (some 27) rfl (by kernel_rfl) rfl (fun _ _ _ h => h) (Or.inl ⟨by rfl, ?_⟩) hS ?_
  rotate_left
  · (intro wq hq; go_simp); first | done | with_reducible rfl
  try simp only [Act.put, List.setIfInBounds_toArray, List.set_cons_zero, List.set_cons_succ]
  replace hS := Till.list 1 hS
  refine take_w (i := 2) (v := ?_) (some 28) rfl (by kernel_rfl) rfl (fun _ _ _ h => h) (Or.inl ⟨by rfl, ?_⟩) hS ?_
  rotate_left
  · (intro wq hq; go_simp); first | done | with_reducible rfl
  try simp only [Act.put, List.setIfInBounds_toArray, List.set_cons_zero, List.set_cons_succ]
  replace hS := Till.list 2 hS
  refine take_w (i := 6) (v := ?_) (some 32) rfl (by kernel_rfl) rfl (fun _ _ _ h => h) (Or.inl ⟨by rfl, ?_⟩) hS ?_
  rotate_left
  · (intro wq hq; go_simp); first | done | with_reducible rfl
  try simp only [Act.put, List.setIfInBounds_toArray, List.set_cons_zero, List.set_cons_succ]
  replace hS := Till.list 6 hS
  refine take_w (i := 7) (v := ?_) (some 33) rfl (by kernel_rfl) rfl (fun _ _ _ h => h) (Or.inl ⟨by rfl, ?_⟩) hS ?_
  rotate_left
  · (intro wq hq; go_simp); first | done | with_reducible rfl
  try simp only [Act.put, List.setIfInBounds_toArray, List.set_cons_zero, List.set_cons_succ]
  replace hS := Till.list 7 hS
  refine take_g (i := 3) (v := ?_) [5, 4, 3] (some 29) rfl (by kernel_rfl) rfl (fun _ _ _ h => h) (Or.inl ⟨by rfl, ?_⟩) hS ?_
  rotate_left
  · (intro wq hq; have q0 := hq _ _ _ c0; have q1 := hq _ _ _ c1; have q2 := hq _ _ _ c2; have q3 := hq _ _ _ c3; go_simp); first | done | with_reducible rfl
  try simp only [Act.put, List.setIfInBounds_toArray, List.set_cons_zero, List.set_cons_succ]
  replace hS := Till.list 3 hS
  refine take_g (i := 8) (v := ?_) [9, 8] (some 34) rfl (by kernel_rfl) rfl (fun _ _ _ h => h) (Or.inl ⟨by rfl, ?_⟩) hS ?_
  rotate_left
  · (intro wq hq; have q0 := hq _ _ _ c0; have q1 := hq _ _ _ c1; have q2 := hq _ _ _ c2; have q3 := hq _ _ _ c3; go_simp); first | done | with_reducible rfl
  try simp only [Act.put, List.setIfInBounds_toArray, List.set_cons_zero, List.set_cons_succ]
  replace hS := Till.list 8 hS
  refine take_w (i := 4) (v := ?_) (some 30) rfl (by kernel_rfl) rfl (fun _ _ _ h => h) (Or.inl ⟨by rfl, ?_⟩) hS ?_
  rotate_left
  · (intro wq hq; go_simp); first | done | with_reducible rfl
  try simp only [Act.put, List.setIfInBounds_toArray, List.set_cons_zero, List.set_cons_succ]
  replace hS := Till.list 4 hS
  refine take_w (i := 9) (v := ?_) (some 35) rfl (by kernel_rfl) rfl (fun _ _ _ h => h) (Or.inl ⟨by rfl, ?_⟩) hS ?_
  rotate_left
  · (intro wq hq; go_simp); first | done | with_reducible rfl
  try simp only [Act.put, List.setIfInBounds_toArray, List.set_cons_zero, List.set_cons_succ]
  replace hS := Till.list 9 hS
  refine ready_g (rs := [0]) (by kernel_rfl) (by simp) ?_
  refine AllReadyG.cons rfl (fun Kont hK => ?_) AllReadyG.nil
  go_simp
  refine hK.out _ _ (Or.inr ((hS.get (by kernel_rfl)).alloc _)) (fun hS0 => ?_)
  clear hK Kont
  try simp only [Act.put, List.setIfInBounds_toArray, List.set_cons_zero, List.set_cons_succ]
  clear hS
  have hS := hS0
  clear hS0
  refine ready_g (rs := [5]) (by kernel_rfl) (by simp) ?_
  refine AllReadyG.cons rfl (fun Kont hK => ?_) AllReadyG.nil
  refine want (by kernel_rfl) ?_
  refine wp_append_os el_row (some 31) rfl (.tmp 26) (.tmp 30) rfl w5.heap.size _ 0 [] rfl (OS.lit (k := 2) w5.drew w5.heap.size (Nat.le_refl _) [] 0 50 rfl (by simp) (by simp) _ rfl) _ K _ (vcells (ra.take K)) rfl (vk.drew.alloc _) (by omega) (by omega) (by simp) ?_
  intro v6 w6 ho6 hb6
  have hb6w : Below w5.heap.size w5 w6 := ((Below.refl _ _).alloc (Nat.le_refl _) _).drew.trans hb6
  refine hK.out _ _ (Or.inr (((hS.get (by kernel_rfl)).low hb6 (Nat.le_refl _)))) (fun hS0 => ?_)
  clear hK Kont
  try simp only [Act.put, List.setIfInBounds_toArray, List.set_cons_zero, List.set_cons_succ]
  clear hS
  have hS := hS0
  clear hS0
  refine ready_g (rs := [10]) (by kernel_rfl) (by simp) ?_
  refine AllReadyG.cons rfl (fun Kont hK => ?_) AllReadyG.nil
  refine want (by kernel_rfl) ?_
  refine wp_append_os el_row (some 36) rfl (.tmp 31) (.tmp 35) rfl w5.heap.size _ (0 + K) _ rfl ho6 _ (N - K) (s1 - K) (vcells (rb.drop K)) rfl (vd.below hb6w) (by omega) (by omega) hb6w.size ?_
  intro v7 w7 ho7 hb7
  have hb7w : Below w5.heap.size w5 w7 := hb6w.trans hb7
  have hmx : OS 2 w7 w5.heap.size v7 N (vcells (ra.take K ++ rb.drop K)) := by
    rw [show 0 + K + (N - K) = N by omega, List.nil_append, ← vcells_app] at ho7; exact ho7
  obtain ⟨a7, c7, rfl, -, hc7, vm, -⟩ := hmx.sv
  refine hK.out _ _ (Or.inl (by kernel_rfl)) (fun hS0 => ?_)
  clear hK Kont
  try simp only [Act.put, List.setIfInBounds_toArray, List.set_cons_zero, List.set_cons_succ]
  clear hS
  have hS := hS0
  clear hS0
  refine take_w (i := 11) (v := ?_) (some 11) rfl (by kernel_rfl) rfl (fun _ _ _ h => h) (Or.inl ⟨by rfl, ?_⟩) hS ?_
  rotate_left
  · (intro wq hq; go_simp); first | done | with_reducible rfl
  try simp only [Act.put, List.setIfInBounds_toArray, List.set_cons_zero, List.set_cons_succ]
  replace hS := Till.list 11 hS
  refine done_g (by kernel_rfl) (NoPanic.normal ?_) _
  clear hS
  replace hx := hx.below hb7w
  replace hvA := hvA.below hb7w
  replace va := va.below hb7w
  replace vb := vb.below hb7w
  replace hw2 := Below.then hw2 hb7w
  clear c0 c1 c2 c3 vk vd hb6 hb6w hb7 hb7w ho6 ho7 hmx
  obtain ⟨c0, c1, c2, c3⟩ := id hx
  generalize (if s1 = K then (some ⟨b1, off1, none⟩ : Option Addr) else some ⟨b1, off1 + K * 2, none⟩) = ad
  generalize some (⟨b1, off1, none⟩ : Addr) = a1 at *
  go_wp2_with fail
  have rz := cR_rng (ts.take K) rb (ra.take kk)
  have F1 := Lib.hid HO.out.own
  have F2 := Lib.hid HO.out.mix
  have F3 := Lib.hid HO.out.key
  have F4 := Lib.hid HO.out.nil
  try rw [hkq]
  clear HO c0 c1 c2 c3 hkq
  go_loopw [13, 14] (fun s i wr => ∃ j : Nat, j ≤ kk ∧ i = .int .i64 (j : Int) ∧ s = .bool (sameTo ra rb j) ∧ Below w7.heap.size w7 wr) (fun _ i _ => kk - (intOf i).toNat)
  case atStart => exact ⟨0, by omega, rfl, by simp [sameTo], Below.refl _ _⟩
  case round =>
    obtain ⟨j, hj, rfl, rfl, hbel⟩ := hrel
    replace hx := hx.below hbel
    replace hvA := hvA.below hbel
    replace va := va.below hbel
    replace vb := vb.below hbel
    replace vm := vm.below hbel
    obtain ⟨c0, c1, c2, c3⟩ := id hx
    by_cases hlt : j < kk
    · obtain ⟨b1, off1, rfl, hd1, hd2⟩ := WV.at va j (by omega)
      obtain ⟨b2, off2, rfl, he1, he2⟩ := WV.at vb j (by omega)
      have HS := Lib.hid (sameTo_step (a := ra) (b := rb) (j := j) (by rw [hla.out]; omega) (by rw [hlb.out]; omega))
      generalize ra.getD j v0 = y at hd1 hd2 HS
      generalize rb.getD j v0 = z at he1 he2 HS
      have hjN : (j : Int) < (N : Int) := by omega
      cases hs : sameTo ra rb j
      · rw [hs] at HS
        go_wp2_with fail
        refine wp_region_noPanic ?_
        refine region_g 13 (Ext (World.drew _)) (by kernel_rfl) (Ext.refl _) (fun hS => ?_)
        refine take_w (i := 0) (v := ?_) (some 48) rfl (by kernel_rfl) rfl (fun _ _ _ h => h) (Or.inl ⟨by rfl, ?_⟩) hS ?_
        rotate_left
        · (intro wq hq; go_simp); first | done | with_reducible rfl
        try simp only [Act.put, List.setIfInBounds_toArray, List.set_cons_zero, List.set_cons_succ]
        replace hS := Till.list 0 hS
        refine take_w (i := 1) (v := ?_) (some 49) rfl (by kernel_rfl) rfl (fun _ _ _ h => h) (Or.inl ⟨by rfl, ?_⟩) hS ?_
        rotate_left
        · (intro wq hq; go_simp); first | done | with_reducible rfl
        try simp only [Act.put, List.setIfInBounds_toArray, List.set_cons_zero, List.set_cons_succ]
        replace hS := Till.list 1 hS
        refine take_w (i := 2) (v := undef) (some 50) rfl (by kernel_rfl) rfl (fun _ _ _ h => h) (Or.inr ⟨by rfl, rfl⟩) hS ?_
        try simp only [Act.put, List.setIfInBounds_toArray, List.set_cons_zero, List.set_cons_succ]
        replace hS := Till.list 2 hS
        refine take_w (i := 3) (v := undef) (some 51) rfl (by kernel_rfl) rfl (fun _ _ _ h => h) (Or.inr ⟨by rfl, rfl⟩) hS ?_
        try simp only [Act.put, List.setIfInBounds_toArray, List.set_cons_zero, List.set_cons_succ]
        replace hS := Till.list 3 hS
        refine take_w (i := 6) (v := undef) (some 54) rfl (by kernel_rfl) rfl (fun _ _ _ h => h) (Or.inr ⟨by rfl, rfl⟩) hS ?_
        try simp only [Act.put, List.setIfInBounds_toArray, List.set_cons_zero, List.set_cons_succ]
        replace hS := Till.list 6 hS
        refine take_w (i := 7) (v := undef) (some 55) rfl (by kernel_rfl) rfl (fun _ _ _ h => h) (Or.inr ⟨by rfl, rfl⟩) hS ?_
        try simp only [Act.put, List.setIfInBounds_toArray, List.set_cons_zero, List.set_cons_succ]
        replace hS := Till.list 7 hS
        refine take_w (i := 4) (v := undef) (some 52) rfl (by kernel_rfl) rfl (fun _ _ _ h => h) (Or.inr ⟨by rfl, rfl⟩) hS ?_
        try simp only [Act.put, List.setIfInBounds_toArray, List.set_cons_zero, List.set_cons_succ]
        replace hS := Till.list 4 hS
        refine take_w (i := 8) (v := undef) (some 56) rfl (by kernel_rfl) rfl (fun _ _ _ h => h) (Or.inr ⟨by rfl, rfl⟩) hS ?_
        try simp only [Act.put, List.setIfInBounds_toArray, List.set_cons_zero, List.set_cons_succ]
        replace hS := Till.list 8 hS
        refine take_w (i := 5) (v := undef) (some 53) rfl (by kernel_rfl) rfl (fun _ _ _ h => h) (Or.inr ⟨by rfl, rfl⟩) hS ?_
        try simp only [Act.put, List.setIfInBounds_toArray, List.set_cons_zero, List.set_cons_succ]
        replace hS := Till.list 5 hS
        refine take_w (i := 9) (v := undef) (some 57) rfl (by kernel_rfl) rfl (fun _ _ _ h => h) (Or.inr ⟨by rfl, rfl⟩) hS ?_
        try simp only [Act.put, List.setIfInBounds_toArray, List.set_cons_zero, List.set_cons_succ]
        replace hS := Till.list 9 hS
        refine take_w (i := 10) (v := undef) (some 58) rfl (by kernel_rfl) rfl (fun _ _ _ h => h) (Or.inr ⟨by rfl, rfl⟩) hS ?_
        try simp only [Act.put, List.setIfInBounds_toArray, List.set_cons_zero, List.set_cons_succ]
        replace hS := Till.list 10 hS
        refine take_w (i := 11) (v := ?_) (some 59) rfl (by kernel_rfl) rfl (fun _ _ _ h => h) (Or.inl ⟨by rfl, ?_⟩) hS ?_
        rotate_left
        · (intro wq hq; go_simp); first | done | with_reducible rfl
        try simp only [Act.put, List.setIfInBounds_toArray, List.set_cons_zero, List.set_cons_succ]
        replace hS := Till.list 11 hS
        refine take_w (i := 12) (v := ?_) (some 13) rfl (by kernel_rfl) rfl (fun _ _ _ h => h) (Or.inl ⟨by rfl, ?_⟩) hS ?_
        rotate_left
        · (intro wq hq; go_simp); first | done | with_reducible rfl
        try simp only [Act.put, List.setIfInBounds_toArray, List.set_cons_zero, List.set_cons_succ]
        replace hS := Till.list 12 hS
        refine done_g (by kernel_rfl) (NoPanic.normal ?_) _
        clear hS
        go_wp2_with fail
        go_roundw
        case rel => exact ⟨j + 1, by omega, by go_num, by rw [HS.out]; rfl, hbel.drew⟩
        case measure => simp [intOf]; omega
      · rw [hs] at HS
        go_wp2_with fail
        refine wp_region_noPanic ?_
        refine region_g 13 (Ext (World.drew _)) (by kernel_rfl) (Ext.refl _) (fun hS => ?_)
        refine take_w (i := 0) (v := ?_) (some 48) rfl (by kernel_rfl) rfl (fun _ _ _ h => h) (Or.inl ⟨by rfl, ?_⟩) hS ?_
        rotate_left
        · (intro wq hq; go_simp); first | done | with_reducible rfl
        try simp only [Act.put, List.setIfInBounds_toArray, List.set_cons_zero, List.set_cons_succ]
        replace hS := Till.list 0 hS
        refine take_w (i := 1) (v := ?_) (some 49) rfl (by kernel_rfl) rfl (fun _ _ _ h => h) (Or.inl ⟨by rfl, ?_⟩) hS ?_
        rotate_left
        · (intro wq hq; go_simp); first | done | with_reducible rfl
        try simp only [Act.put, List.setIfInBounds_toArray, List.set_cons_zero, List.set_cons_succ]
        replace hS := Till.list 1 hS
        refine take_w (i := 2) (v := ?_) (some 50) rfl (by kernel_rfl) rfl (fun _ _ _ h => h) (Or.inl ⟨by rfl, ?_⟩) hS ?_
        rotate_left
        · (intro wq hq; go_simp); first | done | with_reducible rfl
        try simp only [Act.put, List.setIfInBounds_toArray, List.set_cons_zero, List.set_cons_succ]
        replace hS := Till.list 2 hS
        refine take_w (i := 3) (v := ?_) (some 51) rfl (by kernel_rfl) rfl (fun _ _ _ h => h) (Or.inl ⟨by rfl, ?_⟩) hS ?_
        rotate_left
        · (intro wq hq; go_simp); first | done | with_reducible rfl
        try simp only [Act.put, List.setIfInBounds_toArray, List.set_cons_zero, List.set_cons_succ]
        replace hS := Till.list 3 hS
        refine take_w (i := 6) (v := ?_) (some 54) rfl (by kernel_rfl) rfl (fun _ _ _ h => h) (Or.inl ⟨by rfl, ?_⟩) hS ?_
        rotate_left
        · (intro wq hq; go_simp); first | done | with_reducible rfl
        try simp only [Act.put, List.setIfInBounds_toArray, List.set_cons_zero, List.set_cons_succ]
        replace hS := Till.list 6 hS
        refine take_w (i := 7) (v := ?_) (some 55) rfl (by kernel_rfl) rfl (fun _ _ _ h => h) (Or.inl ⟨by rfl, ?_⟩) hS ?_
        rotate_left
        · (intro wq hq; go_simp); first | done | with_reducible rfl
        try simp only [Act.put, List.setIfInBounds_toArray, List.set_cons_zero, List.set_cons_succ]
        replace hS := Till.list 7 hS
        refine take_w (i := 4) (v := ?_) (some 52) rfl (by kernel_rfl) rfl (fun _ _ _ h => h) (Or.inl ⟨by rfl, ?_⟩) hS ?_
        rotate_left
        · (intro wq hq; go_simp); first | done | with_reducible rfl
        try simp only [Act.put, List.setIfInBounds_toArray, List.set_cons_zero, List.set_cons_succ]
        replace hS := Till.list 4 hS
        refine take_w (i := 8) (v := ?_) (some 56) rfl (by kernel_rfl) rfl (fun _ _ _ h => h) (Or.inl ⟨by rfl, ?_⟩) hS ?_
        rotate_left
        · (intro wq hq; go_simp); first | done | with_reducible rfl
        try simp only [Act.put, List.setIfInBounds_toArray, List.set_cons_zero, List.set_cons_succ]
        replace hS := Till.list 8 hS
        refine take_n (i := 5) (v := ?_) (some 53) rfl (by kernel_rfl) rfl (fun _ _ _ h => h) (Or.inl ⟨by rfl, ?_⟩) hS ?_
        rotate_left
        · (intro wq hq; have q0 := hq _ _ _ hd1; have q1 := hq _ _ _ hd2; have q2 := hq _ _ _ he1; have q3 := hq _ _ _ he2; go_simp); first | done | with_reducible rfl
        try simp only [Act.put, List.setIfInBounds_toArray, List.set_cons_zero, List.set_cons_succ]
        replace hS := Till.list 5 hS
        refine take_n (i := 9) (v := ?_) (some 57) rfl (by kernel_rfl) rfl (fun _ _ _ h => h) (Or.inl ⟨by rfl, ?_⟩) hS ?_
        rotate_left
        · (intro wq hq; have q0 := hq _ _ _ hd1; have q1 := hq _ _ _ hd2; have q2 := hq _ _ _ he1; have q3 := hq _ _ _ he2; go_simp); first | done | with_reducible rfl
        try simp only [Act.put, List.setIfInBounds_toArray, List.set_cons_zero, List.set_cons_succ]
        replace hS := Till.list 9 hS
        refine take_n (i := 10) (v := .bool (decide (y = z))) (some 58) rfl (by kernel_rfl) rfl (fun _ _ _ h => h) (Or.inl ⟨by rfl, ?_⟩) hS ?_
        · (intro wq hq; (go_simp; exact eqv_run y z wq))
        try simp only [Act.put, List.setIfInBounds_toArray, List.set_cons_zero, List.set_cons_succ]
        replace hS := Till.list 10 hS
        refine take_w (i := 11) (v := ?_) (some 59) rfl (by kernel_rfl) rfl (fun _ _ _ h => h) (Or.inl ⟨by rfl, ?_⟩) hS ?_
        rotate_left
        · (intro wq hq; go_simp); first | done | with_reducible rfl
        try simp only [Act.put, List.setIfInBounds_toArray, List.set_cons_zero, List.set_cons_succ]
        replace hS := Till.list 11 hS
        refine take_w (i := 12) (v := ?_) (some 13) rfl (by kernel_rfl) rfl (fun _ _ _ h => h) (Or.inl ⟨by rfl, ?_⟩) hS ?_
        rotate_left
        · (intro wq hq; go_simp); first | done | with_reducible rfl
        try simp only [Act.put, List.setIfInBounds_toArray, List.set_cons_zero, List.set_cons_succ]
        replace hS := Till.list 12 hS
        refine done_g (by kernel_rfl) (NoPanic.normal ?_) _
        clear hS
        go_wp2_with fail
        go_roundw
        case rel => exact ⟨j + 1, by omega, by go_num, by rw [HS.out, Bool.true_and], hbel.drew⟩
        case measure => simp [intOf]; omega
    · obtain rfl : j = kk := by omega
      have hjN : (j : Int) ≤ (N : Int) := by omega
      have hw3 := Below.then hw2 hbel
      have vk := WV.takes va j (by omega)
      have hjs : j ≤ s0 := by omega
      have hj1 : j ≤ maxLen := few_max (by omega)
      clear hw2 hbel
      rcases rz with hz | hz | hz
      · have hs : sameTo ra rb j = false := decide_eq_false (fun he => by have := F3.out.2 he; omega)
        have HZ := Lib.hid hz
        clear hz
        go_wp2_with fail
        refine wp_region_noPanic ?_
        refine region_g 37 (Ext (World.drew _)) (by kernel_rfl) (Ext.refl _) (fun hS => ?_)
        refine take_w (i := 0) (v := ?_) (some 60) rfl (by kernel_rfl) rfl (fun _ _ _ h => h) (Or.inl ⟨by rfl, ?_⟩) hS ?_
        rotate_left
        · (intro wq hq; go_simp); first | done | with_reducible rfl
        try simp only [Act.put, List.setIfInBounds_toArray, List.set_cons_zero, List.set_cons_succ]
        replace hS := Till.list 0 hS
        refine take_w (i := 1) (v := ?_) (some 61) rfl (by kernel_rfl) rfl (fun _ _ _ h => h) (Or.inl ⟨by rfl, ?_⟩) hS ?_
        rotate_left
        · (intro wq hq; go_simp); first | done | with_reducible rfl
        try simp only [Act.put, List.setIfInBounds_toArray, List.set_cons_zero, List.set_cons_succ]
        replace hS := Till.list 1 hS
        refine take_n (i := 2) (v := ?_) (some 62) rfl (by kernel_rfl) rfl (fun _ _ _ h => h) (Or.inl ⟨by rfl, ?_⟩) hS ?_
        rotate_left
        · (intro wq hq; have q0 := hq _ _ _ c0; have q1 := hq _ _ _ c1; have q2 := hq _ _ _ c2; have q3 := hq _ _ _ c3; go_simp); first | done | with_reducible rfl
        try simp only [Act.put, List.setIfInBounds_toArray, List.set_cons_zero, List.set_cons_succ]
        replace hS := Till.list 2 hS
        refine take_w (i := 3) (v := ?_) (some 63) rfl (by kernel_rfl) rfl (fun _ _ _ h => h) (Or.inl ⟨by rfl, ?_⟩) hS ?_
        rotate_left
        · (intro wq hq; go_simp); first | done | with_reducible rfl
        try simp only [Act.put, List.setIfInBounds_toArray, List.set_cons_zero, List.set_cons_succ]
        replace hS := Till.list 3 hS
        refine take_w (i := 4) (v := ?_) (some 64) rfl (by kernel_rfl) rfl (fun _ _ _ h => h) (Or.inl ⟨by rfl, ?_⟩) hS ?_
        rotate_left
        · (intro wq hq; go_simp); first | done | with_reducible rfl
        try simp only [Act.put, List.setIfInBounds_toArray, List.set_cons_zero, List.set_cons_succ]
        replace hS := Till.list 4 hS
        refine ready_g (rs := [5]) (by kernel_rfl) (by simp) ?_
        refine AllReadyG.cons rfl (fun Kont hK => ?_) AllReadyG.nil
        go_simp
        refine (scompare_any A N C ts K m g a0 N s0 ra a7 N c7 (ra.take K ++ rb.drop K) _ hvA.drew hN1 va.drew hN1 vm.drew hN1 hK1).mono ?_
        rw [F1.out]
        rintro e w10 ⟨rfl, hb10⟩
        refine hK.out _ _ (Or.inr ((hS.get (by kernel_rfl)).trans (Ext.below hb10))) (fun hS0 => ?_)
        clear hK Kont
        try simp only [Act.put, List.setIfInBounds_toArray, List.set_cons_zero, List.set_cons_succ]
        clear hS
        have hS := hS0
        clear hS0
        refine take_w (i := 6) (v := ?_) (some 66) rfl (by kernel_rfl) rfl (fun _ _ _ h => h) (Or.inl ⟨by rfl, ?_⟩) hS ?_
        rotate_left
        · (intro wq hq; go_simp); first | done | with_reducible rfl
        try simp only [Act.put, List.setIfInBounds_toArray, List.set_cons_zero, List.set_cons_succ]
        replace hS := Till.list 6 hS
        refine take_w (i := 7) (v := ?_) (some 67) rfl (by kernel_rfl) rfl (fun _ _ _ h => h) (Or.inl ⟨by rfl, ?_⟩) hS ?_
        rotate_left
        · (intro wq hq; go_simp); first | done | with_reducible rfl
        try simp only [Act.put, List.setIfInBounds_toArray, List.set_cons_zero, List.set_cons_succ]
        replace hS := Till.list 7 hS
        refine take_w (i := 8) (v := ?_) (some 68) rfl (by kernel_rfl) rfl (fun _ _ _ h => h) (Or.inl ⟨by rfl, ?_⟩) hS ?_
        rotate_left
        · (intro wq hq; go_simp); first | done | with_reducible rfl
        try simp only [Act.put, List.setIfInBounds_toArray, List.set_cons_zero, List.set_cons_succ]
        replace hS := Till.list 8 hS
        refine take_n (i := 9) (v := ?_) (some 69) rfl (by kernel_rfl) rfl (fun _ _ _ h => h) (Or.inl ⟨by rfl, ?_⟩) hS ?_
        rotate_left
        · (intro wq hq; have q0 := hq _ _ _ c0; have q1 := hq _ _ _ c1; have q2 := hq _ _ _ c2; have q3 := hq _ _ _ c3; go_simp); first | done | with_reducible rfl
        try simp only [Act.put, List.setIfInBounds_toArray, List.set_cons_zero, List.set_cons_succ]
        replace hS := Till.list 9 hS
        refine take_w (i := 10) (v := ?_) (some 70) rfl (by kernel_rfl) rfl (fun _ _ _ h => h) (Or.inl ⟨by rfl, ?_⟩) hS ?_
        rotate_left
        · (intro wq hq; go_simp); first | done | with_reducible rfl
        try simp only [Act.put, List.setIfInBounds_toArray, List.set_cons_zero, List.set_cons_succ]
        replace hS := Till.list 10 hS
        refine take_w (i := 11) (v := ?_) (some 71) rfl (by kernel_rfl) rfl (fun _ _ _ h => h) (Or.inl ⟨by rfl, ?_⟩) hS ?_
        rotate_left
        · (intro wq hq; go_simp); first | done | with_reducible rfl
        try simp only [Act.put, List.setIfInBounds_toArray, List.set_cons_zero, List.set_cons_succ]
        replace hS := Till.list 11 hS
        refine take_n (i := 13) (v := ?_) (some 73) rfl (by kernel_rfl) rfl (fun _ _ _ h => h) (Or.inl ⟨by rfl, ?_⟩) hS ?_
        rotate_left
        · (intro wq hq; have q0 := hq _ _ _ c0; have q1 := hq _ _ _ c1; have q2 := hq _ _ _ c2; have q3 := hq _ _ _ c3; go_simp); first | done | with_reducible rfl
        try simp only [Act.put, List.setIfInBounds_toArray, List.set_cons_zero, List.set_cons_succ]
        replace hS := Till.list 13 hS
        refine take_w (i := 14) (v := ?_) (some 74) rfl (by kernel_rfl) rfl (fun _ _ _ h => h) (Or.inl ⟨by rfl, ?_⟩) hS ?_
        rotate_left
        · (intro wq hq; go_simp); first | done | with_reducible rfl
        try simp only [Act.put, List.setIfInBounds_toArray, List.set_cons_zero, List.set_cons_succ]
        replace hS := Till.list 14 hS
        refine take_w (i := 15) (v := ?_) (some 75) rfl (by kernel_rfl) rfl (fun _ _ _ h => h) (Or.inl ⟨by rfl, ?_⟩) hS ?_
        rotate_left
        · (intro wq hq; go_simp); first | done | with_reducible rfl
        try simp only [Act.put, List.setIfInBounds_toArray, List.set_cons_zero, List.set_cons_succ]
        replace hS := Till.list 15 hS
        refine ready_g (rs := [12]) (by kernel_rfl) (by simp) ?_
        refine AllReadyG.cons rfl (fun Kont hK => ?_) AllReadyG.nil
        go_simp
        refine (scompare_any A N C ts K m g a0 N s0 ra a1 N s1 rb _ (hvA.drew.below hb10) hN1 (va.drew.below hb10) hN1 (vb.drew.below hb10) hN1 hK1).mono ?_
        rintro e w11 ⟨rfl, hb11⟩
        refine hK.out _ _ (Or.inr ((hS.get (by kernel_rfl)).trans (Ext.below hb11))) (fun hS0 => ?_)
        clear hK Kont
        try simp only [Act.put, List.setIfInBounds_toArray, List.set_cons_zero, List.set_cons_succ]
        clear hS
        have hS := hS0
        clear hS0
        refine ready_g (rs := [16]) (by kernel_rfl) (by simp) ?_
        refine AllReadyG.cons rfl (fun Kont hK => ?_) AllReadyG.nil
        go_simp
        refine (scompare_any A N C ts K m g a7 N c7 (ra.take K ++ rb.drop K) a1 N s1 rb _ ((hvA.drew.below hb10).below hb11) hN1 ((vm.drew.below hb10).below hb11) hN1 ((vb.drew.below hb10).below hb11) hN1 hK1).mono ?_
        rw [F2.out]
        rintro e w12 ⟨rfl, hb12⟩
        refine hK.out _ _ (Or.inr ((hS.get (by kernel_rfl)).trans (Ext.below hb12))) (fun hS0 => ?_)
        clear hK Kont
        try simp only [Act.put, List.setIfInBounds_toArray, List.set_cons_zero, List.set_cons_succ]
        clear hS
        have hS := hS0
        clear hS0
        refine take_w (i := 17) (v := ?_) (some 77) rfl (by kernel_rfl) rfl (fun _ _ _ h => h) (Or.inl ⟨by rfl, ?_⟩) hS ?_
        rotate_left
        · (intro wq hq; go_simp); first | done | with_reducible rfl
        try simp only [Act.put, List.setIfInBounds_toArray, List.set_cons_zero, List.set_cons_succ]
        replace hS := Till.list 17 hS
        refine take_w (i := 18) (v := ?_) (some 78) rfl (by kernel_rfl) rfl (fun _ _ _ h => h) (Or.inl ⟨by rfl, ?_⟩) hS ?_
        rotate_left
        · (intro wq hq; go_simp); first | done | with_reducible rfl
        try simp only [Act.put, List.setIfInBounds_toArray, List.set_cons_zero, List.set_cons_succ]
        replace hS := Till.list 18 hS
        refine take_w (i := 19) (v := ?_) (some 79) rfl (by kernel_rfl) rfl (fun _ _ _ h => h) (Or.inl ⟨by rfl, ?_⟩) hS ?_
        rotate_left
        · (intro wq hq; go_simp); first | done | with_reducible rfl
        try simp only [Act.put, List.setIfInBounds_toArray, List.set_cons_zero, List.set_cons_succ]
        replace hS := Till.list 19 hS
        refine take_n (i := 20) (v := ?_) (some 80) rfl (by kernel_rfl) rfl (fun _ _ _ h => h) (Or.inl ⟨by rfl, ?_⟩) hS ?_
        rotate_left
        · (intro wq hq; have q0 := hq _ _ _ c0; have q1 := hq _ _ _ c1; have q2 := hq _ _ _ c2; have q3 := hq _ _ _ c3; go_simp); first | done | with_reducible rfl
        try simp only [Act.put, List.setIfInBounds_toArray, List.set_cons_zero, List.set_cons_succ]
        replace hS := Till.list 20 hS
        refine take_w (i := 21) (v := ?_) (some 81) rfl (by kernel_rfl) rfl (fun _ _ _ h => h) (Or.inl ⟨by rfl, ?_⟩) hS ?_
        rotate_left
        · (intro wq hq; go_simp); first | done | with_reducible rfl
        try simp only [Act.put, List.setIfInBounds_toArray, List.set_cons_zero, List.set_cons_succ]
        replace hS := Till.list 21 hS
        refine take_w (i := 22) (v := ?_) (some 82) rfl (by kernel_rfl) rfl (fun _ _ _ h => h) (Or.inl ⟨by rfl, ?_⟩) hS ?_
        rotate_left
        · (intro wq hq; go_simp); first | done | with_reducible rfl
        try simp only [Act.put, List.setIfInBounds_toArray, List.set_cons_zero, List.set_cons_succ]
        replace hS := Till.list 22 hS
        refine take_w (i := 23) (v := ?_) (some 83) rfl (by kernel_rfl) rfl (fun _ _ _ h => h) (Or.inl ⟨by rfl, ?_⟩) hS ?_
        rotate_left
        · (intro wq hq; go_simp); first | done | with_reducible rfl
        try simp only [Act.put, List.setIfInBounds_toArray, List.set_cons_zero, List.set_cons_succ]
        replace hS := Till.list 23 hS
        refine take_w (i := 27) (v := ?_) (some 87) rfl (by kernel_rfl) rfl (fun _ _ _ h => h) (Or.inl ⟨by rfl, ?_⟩) hS ?_
        rotate_left
        · (intro wq hq; go_simp); first | done | with_reducible rfl
        try simp only [Act.put, List.setIfInBounds_toArray, List.set_cons_zero, List.set_cons_succ]
        replace hS := Till.list 27 hS
        refine take_w (i := 24) (v := ?_) (some 84) rfl (by kernel_rfl) rfl (fun _ _ _ h => h) (Or.inl ⟨by rfl, ?_⟩) hS ?_
        rotate_left
        · (intro wq hq; go_simp); first | done | with_reducible rfl
        try simp only [Act.put, List.setIfInBounds_toArray, List.set_cons_zero, List.set_cons_succ]
        replace hS := Till.list 24 hS
        have hbx := Below.then (Below.then hb10 hb11) hb12
        refine ready_g (rs := [25]) (by kernel_rfl) (by simp) ?_
        refine AllReadyG.cons rfl (fun Kont hK => ?_) AllReadyG.nil
        go_simp
        refine (scompare_any A N C ts K m g a1 N s1 rb a0 j s0 (ra.take j) _ (hvA.drew.below hbx) hN1 (vb.drew.below hbx) hN1 (vk.drew.below hbx) hj1 hK1).mono ?_
        rw [HZ.out]
        rintro e w13 ⟨rfl, hb13⟩
        refine hK.out _ _ (Or.inr ((hS.get (by kernel_rfl)).trans (Ext.below hb13))) (fun hS0 => ?_)
        clear hK Kont
        try simp only [Act.put, List.setIfInBounds_toArray, List.set_cons_zero, List.set_cons_succ]
        clear hS
        have hS := hS0
        clear hS0
        refine take_w (i := 26) (v := ?_) (some 86) rfl (by kernel_rfl) rfl (fun _ _ _ h => h) (Or.inl ⟨by rfl, ?_⟩) hS ?_
        rotate_left
        · (intro wq hq; go_simp); first | done | with_reducible rfl
        try simp only [Act.put, List.setIfInBounds_toArray, List.set_cons_zero, List.set_cons_succ]
        replace hS := Till.list 26 hS
        refine take_w (i := 28) (v := ?_) (some 88) rfl (by kernel_rfl) rfl (fun _ _ _ h => h) (Or.inl ⟨by rfl, ?_⟩) hS ?_
        rotate_left
        · (intro wq hq; go_simp); first | done | with_reducible rfl
        try simp only [Act.put, List.setIfInBounds_toArray, List.set_cons_zero, List.set_cons_succ]
        replace hS := Till.list 28 hS
        refine take_w (i := 29) (v := ?_) (some 89) rfl (by kernel_rfl) rfl (fun _ _ _ h => h) (Or.inl ⟨by rfl, ?_⟩) hS ?_
        rotate_left
        · (intro wq hq; go_simp); first | done | with_reducible rfl
        try simp only [Act.put, List.setIfInBounds_toArray, List.set_cons_zero, List.set_cons_succ]
        replace hS := Till.list 29 hS
        refine take_w (i := 30) (v := ?_) (some 90) rfl (by kernel_rfl) rfl (fun _ _ _ h => h) (Or.inl ⟨by rfl, ?_⟩) hS ?_
        rotate_left
        · (intro wq hq; go_simp); first | done | with_reducible rfl
        try simp only [Act.put, List.setIfInBounds_toArray, List.set_cons_zero, List.set_cons_succ]
        replace hS := Till.list 30 hS
        refine take_n (i := 31) (v := ?_) (some 91) rfl (by kernel_rfl) rfl (fun _ _ _ h => h) (Or.inl ⟨by rfl, ?_⟩) hS ?_
        rotate_left
        · (intro wq hq; have q0 := hq _ _ _ c0; have q1 := hq _ _ _ c1; have q2 := hq _ _ _ c2; have q3 := hq _ _ _ c3; go_simp); first | done | with_reducible rfl
        try simp only [Act.put, List.setIfInBounds_toArray, List.set_cons_zero, List.set_cons_succ]
        replace hS := Till.list 31 hS
        refine take_w (i := 32) (v := ?_) (some 92) rfl (by kernel_rfl) rfl (fun _ _ _ h => h) (Or.inl ⟨by rfl, ?_⟩) hS ?_
        rotate_left
        · (intro wq hq; go_simp); first | done | with_reducible rfl
        try simp only [Act.put, List.setIfInBounds_toArray, List.set_cons_zero, List.set_cons_succ]
        replace hS := Till.list 32 hS
        replace hbx := Below.then hbx hb13
        refine ready_g (rs := [33]) (by kernel_rfl) (by simp) ?_
        refine AllReadyG.cons rfl (fun Kont hK => ?_) AllReadyG.nil
        go_simp
        refine (scompare_any A N C ts K m g a0 N s0 ra none 0 0 [] _ (hvA.drew.below hbx) hN1 (va.drew.below hbx) hN1 (SV.zero _ _) (Nat.zero_le _) hK1).mono ?_
        rw [F4.out]
        rintro e w14 ⟨rfl, hb14⟩
        refine hK.out _ _ (Or.inr ((hS.get (by kernel_rfl)).trans (Ext.below hb14))) (fun hS0 => ?_)
        clear hK Kont
        try simp only [Act.put, List.setIfInBounds_toArray, List.set_cons_zero, List.set_cons_succ]
        clear hS
        have hS := hS0
        clear hS0
        refine take_w (i := 34) (v := ?_) (some 94) rfl (by kernel_rfl) rfl (fun _ _ _ h => h) (Or.inl ⟨by rfl, ?_⟩) hS ?_
        rotate_left
        · (intro wq hq; go_simp); first | done | with_reducible rfl
        try simp only [Act.put, List.setIfInBounds_toArray, List.set_cons_zero, List.set_cons_succ]
        replace hS := Till.list 34 hS
        refine take_w (i := 35) (v := ?_) (some 95) rfl (by kernel_rfl) rfl (fun _ _ _ h => h) (Or.inl ⟨by rfl, ?_⟩) hS ?_
        rotate_left
        · (intro wq hq; go_simp); first | done | with_reducible rfl
        try simp only [Act.put, List.setIfInBounds_toArray, List.set_cons_zero, List.set_cons_succ]
        replace hS := Till.list 35 hS
        refine take_w (i := 36) (v := ?_) (some 6) rfl (by kernel_rfl) rfl (fun _ _ _ h => h) (Or.inl ⟨by rfl, ?_⟩) hS ?_
        rotate_left
        · (intro wq hq; go_simp); first | done | with_reducible rfl
        try simp only [Act.put, List.setIfInBounds_toArray, List.set_cons_zero, List.set_cons_succ]
        replace hS := Till.list 36 hS
        refine done_g (by kernel_rfl) (NoPanic.normal ?_) _
        clear hS
        have hw4 := Below.then (Below.then hw3.drew hbx) hb14
        go_wp2_with fail
        go_ret
        exact ⟨rfl, hw4⟩
      · have hs : sameTo ra rb j = true := decide_eq_true (F3.out.1 hz)
        have HZ := Lib.hid hz
        clear hz
        go_wp2_with fail
        refine wp_region_noPanic ?_
        refine region_g 37 (Ext (World.drew _)) (by kernel_rfl) (Ext.refl _) (fun hS => ?_)
        refine take_w (i := 0) (v := ?_) (some 60) rfl (by kernel_rfl) rfl (fun _ _ _ h => h) (Or.inl ⟨by rfl, ?_⟩) hS ?_
        rotate_left
        · (intro wq hq; go_simp); first | done | with_reducible rfl
        try simp only [Act.put, List.setIfInBounds_toArray, List.set_cons_zero, List.set_cons_succ]
        replace hS := Till.list 0 hS
        refine take_w (i := 1) (v := ?_) (some 61) rfl (by kernel_rfl) rfl (fun _ _ _ h => h) (Or.inl ⟨by rfl, ?_⟩) hS ?_
        rotate_left
        · (intro wq hq; go_simp); first | done | with_reducible rfl
        try simp only [Act.put, List.setIfInBounds_toArray, List.set_cons_zero, List.set_cons_succ]
        replace hS := Till.list 1 hS
        refine take_n (i := 2) (v := ?_) (some 62) rfl (by kernel_rfl) rfl (fun _ _ _ h => h) (Or.inl ⟨by rfl, ?_⟩) hS ?_
        rotate_left
        · (intro wq hq; have q0 := hq _ _ _ c0; have q1 := hq _ _ _ c1; have q2 := hq _ _ _ c2; have q3 := hq _ _ _ c3; go_simp); first | done | with_reducible rfl
        try simp only [Act.put, List.setIfInBounds_toArray, List.set_cons_zero, List.set_cons_succ]
        replace hS := Till.list 2 hS
        refine take_w (i := 3) (v := ?_) (some 63) rfl (by kernel_rfl) rfl (fun _ _ _ h => h) (Or.inl ⟨by rfl, ?_⟩) hS ?_
        rotate_left
        · (intro wq hq; go_simp); first | done | with_reducible rfl
        try simp only [Act.put, List.setIfInBounds_toArray, List.set_cons_zero, List.set_cons_succ]
        replace hS := Till.list 3 hS
        refine take_w (i := 4) (v := ?_) (some 64) rfl (by kernel_rfl) rfl (fun _ _ _ h => h) (Or.inl ⟨by rfl, ?_⟩) hS ?_
        rotate_left
        · (intro wq hq; go_simp); first | done | with_reducible rfl
        try simp only [Act.put, List.setIfInBounds_toArray, List.set_cons_zero, List.set_cons_succ]
        replace hS := Till.list 4 hS
        refine ready_g (rs := [5]) (by kernel_rfl) (by simp) ?_
        refine AllReadyG.cons rfl (fun Kont hK => ?_) AllReadyG.nil
        go_simp
        refine (scompare_any A N C ts K m g a0 N s0 ra a7 N c7 (ra.take K ++ rb.drop K) _ hvA.drew hN1 va.drew hN1 vm.drew hN1 hK1).mono ?_
        rw [F1.out]
        rintro e w10 ⟨rfl, hb10⟩
        refine hK.out _ _ (Or.inr ((hS.get (by kernel_rfl)).trans (Ext.below hb10))) (fun hS0 => ?_)
        clear hK Kont
        try simp only [Act.put, List.setIfInBounds_toArray, List.set_cons_zero, List.set_cons_succ]
        clear hS
        have hS := hS0
        clear hS0
        refine take_w (i := 6) (v := ?_) (some 66) rfl (by kernel_rfl) rfl (fun _ _ _ h => h) (Or.inl ⟨by rfl, ?_⟩) hS ?_
        rotate_left
        · (intro wq hq; go_simp); first | done | with_reducible rfl
        try simp only [Act.put, List.setIfInBounds_toArray, List.set_cons_zero, List.set_cons_succ]
        replace hS := Till.list 6 hS
        refine take_w (i := 7) (v := ?_) (some 67) rfl (by kernel_rfl) rfl (fun _ _ _ h => h) (Or.inl ⟨by rfl, ?_⟩) hS ?_
        rotate_left
        · (intro wq hq; go_simp); first | done | with_reducible rfl
        try simp only [Act.put, List.setIfInBounds_toArray, List.set_cons_zero, List.set_cons_succ]
        replace hS := Till.list 7 hS
        refine take_w (i := 8) (v := ?_) (some 68) rfl (by kernel_rfl) rfl (fun _ _ _ h => h) (Or.inl ⟨by rfl, ?_⟩) hS ?_
        rotate_left
        · (intro wq hq; go_simp); first | done | with_reducible rfl
        try simp only [Act.put, List.setIfInBounds_toArray, List.set_cons_zero, List.set_cons_succ]
        replace hS := Till.list 8 hS
        refine take_n (i := 9) (v := ?_) (some 69) rfl (by kernel_rfl) rfl (fun _ _ _ h => h) (Or.inl ⟨by rfl, ?_⟩) hS ?_
        rotate_left
        · (intro wq hq; have q0 := hq _ _ _ c0; have q1 := hq _ _ _ c1; have q2 := hq _ _ _ c2; have q3 := hq _ _ _ c3; go_simp); first | done | with_reducible rfl
        try simp only [Act.put, List.setIfInBounds_toArray, List.set_cons_zero, List.set_cons_succ]
        replace hS := Till.list 9 hS
        refine take_w (i := 10) (v := ?_) (some 70) rfl (by kernel_rfl) rfl (fun _ _ _ h => h) (Or.inl ⟨by rfl, ?_⟩) hS ?_
        rotate_left
        · (intro wq hq; go_simp); first | done | with_reducible rfl
        try simp only [Act.put, List.setIfInBounds_toArray, List.set_cons_zero, List.set_cons_succ]
        replace hS := Till.list 10 hS
        refine take_w (i := 11) (v := ?_) (some 71) rfl (by kernel_rfl) rfl (fun _ _ _ h => h) (Or.inl ⟨by rfl, ?_⟩) hS ?_
        rotate_left
        · (intro wq hq; go_simp); first | done | with_reducible rfl
        try simp only [Act.put, List.setIfInBounds_toArray, List.set_cons_zero, List.set_cons_succ]
        replace hS := Till.list 11 hS
        refine take_n (i := 13) (v := ?_) (some 73) rfl (by kernel_rfl) rfl (fun _ _ _ h => h) (Or.inl ⟨by rfl, ?_⟩) hS ?_
        rotate_left
        · (intro wq hq; have q0 := hq _ _ _ c0; have q1 := hq _ _ _ c1; have q2 := hq _ _ _ c2; have q3 := hq _ _ _ c3; go_simp); first | done | with_reducible rfl
        try simp only [Act.put, List.setIfInBounds_toArray, List.set_cons_zero, List.set_cons_succ]
        replace hS := Till.list 13 hS
        refine take_w (i := 14) (v := ?_) (some 74) rfl (by kernel_rfl) rfl (fun _ _ _ h => h) (Or.inl ⟨by rfl, ?_⟩) hS ?_
        rotate_left
        · (intro wq hq; go_simp); first | done | with_reducible rfl
        try simp only [Act.put, List.setIfInBounds_toArray, List.set_cons_zero, List.set_cons_succ]
        replace hS := Till.list 14 hS
        refine take_w (i := 15) (v := ?_) (some 75) rfl (by kernel_rfl) rfl (fun _ _ _ h => h) (Or.inl ⟨by rfl, ?_⟩) hS ?_
        rotate_left
        · (intro wq hq; go_simp); first | done | with_reducible rfl
        try simp only [Act.put, List.setIfInBounds_toArray, List.set_cons_zero, List.set_cons_succ]
        replace hS := Till.list 15 hS
        refine ready_g (rs := [12]) (by kernel_rfl) (by simp) ?_
        refine AllReadyG.cons rfl (fun Kont hK => ?_) AllReadyG.nil
        go_simp
        refine (scompare_any A N C ts K m g a0 N s0 ra a1 N s1 rb _ (hvA.drew.below hb10) hN1 (va.drew.below hb10) hN1 (vb.drew.below hb10) hN1 hK1).mono ?_
        rintro e w11 ⟨rfl, hb11⟩
        refine hK.out _ _ (Or.inr ((hS.get (by kernel_rfl)).trans (Ext.below hb11))) (fun hS0 => ?_)
        clear hK Kont
        try simp only [Act.put, List.setIfInBounds_toArray, List.set_cons_zero, List.set_cons_succ]
        clear hS
        have hS := hS0
        clear hS0
        refine ready_g (rs := [16]) (by kernel_rfl) (by simp) ?_
        refine AllReadyG.cons rfl (fun Kont hK => ?_) AllReadyG.nil
        go_simp
        refine (scompare_any A N C ts K m g a7 N c7 (ra.take K ++ rb.drop K) a1 N s1 rb _ ((hvA.drew.below hb10).below hb11) hN1 ((vm.drew.below hb10).below hb11) hN1 ((vb.drew.below hb10).below hb11) hN1 hK1).mono ?_
        rw [F2.out]
        rintro e w12 ⟨rfl, hb12⟩
        refine hK.out _ _ (Or.inr ((hS.get (by kernel_rfl)).trans (Ext.below hb12))) (fun hS0 => ?_)
        clear hK Kont
        try simp only [Act.put, List.setIfInBounds_toArray, List.set_cons_zero, List.set_cons_succ]
        clear hS
        have hS := hS0
        clear hS0
        refine take_w (i := 17) (v := ?_) (some 77) rfl (by kernel_rfl) rfl (fun _ _ _ h => h) (Or.inl ⟨by rfl, ?_⟩) hS ?_
        rotate_left
        · (intro wq hq; go_simp); first | done | with_reducible rfl
        try simp only [Act.put, List.setIfInBounds_toArray, List.set_cons_zero, List.set_cons_succ]
        replace hS := Till.list 17 hS
        refine take_w (i := 18) (v := ?_) (some 78) rfl (by kernel_rfl) rfl (fun _ _ _ h => h) (Or.inl ⟨by rfl, ?_⟩) hS ?_
        rotate_left
        · (intro wq hq; go_simp); first | done | with_reducible rfl
        try simp only [Act.put, List.setIfInBounds_toArray, List.set_cons_zero, List.set_cons_succ]
        replace hS := Till.list 18 hS
        refine take_w (i := 19) (v := ?_) (some 79) rfl (by kernel_rfl) rfl (fun _ _ _ h => h) (Or.inl ⟨by rfl, ?_⟩) hS ?_
        rotate_left
        · (intro wq hq; go_simp); first | done | with_reducible rfl
        try simp only [Act.put, List.setIfInBounds_toArray, List.set_cons_zero, List.set_cons_succ]
        replace hS := Till.list 19 hS
        refine take_n (i := 20) (v := ?_) (some 80) rfl (by kernel_rfl) rfl (fun _ _ _ h => h) (Or.inl ⟨by rfl, ?_⟩) hS ?_
        rotate_left
        · (intro wq hq; have q0 := hq _ _ _ c0; have q1 := hq _ _ _ c1; have q2 := hq _ _ _ c2; have q3 := hq _ _ _ c3; go_simp); first | done | with_reducible rfl
        try simp only [Act.put, List.setIfInBounds_toArray, List.set_cons_zero, List.set_cons_succ]
        replace hS := Till.list 20 hS
        refine take_w (i := 21) (v := ?_) (some 81) rfl (by kernel_rfl) rfl (fun _ _ _ h => h) (Or.inl ⟨by rfl, ?_⟩) hS ?_
        rotate_left
        · (intro wq hq; go_simp); first | done | with_reducible rfl
        try simp only [Act.put, List.setIfInBounds_toArray, List.set_cons_zero, List.set_cons_succ]
        replace hS := Till.list 21 hS
        refine take_w (i := 22) (v := ?_) (some 82) rfl (by kernel_rfl) rfl (fun _ _ _ h => h) (Or.inl ⟨by rfl, ?_⟩) hS ?_
        rotate_left
        · (intro wq hq; go_simp); first | done | with_reducible rfl
        try simp only [Act.put, List.setIfInBounds_toArray, List.set_cons_zero, List.set_cons_succ]
        replace hS := Till.list 22 hS
        refine take_w (i := 23) (v := ?_) (some 83) rfl (by kernel_rfl) rfl (fun _ _ _ h => h) (Or.inl ⟨by rfl, ?_⟩) hS ?_
        rotate_left
        · (intro wq hq; go_simp); first | done | with_reducible rfl
        try simp only [Act.put, List.setIfInBounds_toArray, List.set_cons_zero, List.set_cons_succ]
        replace hS := Till.list 23 hS
        refine take_w (i := 27) (v := ?_) (some 87) rfl (by kernel_rfl) rfl (fun _ _ _ h => h) (Or.inl ⟨by rfl, ?_⟩) hS ?_
        rotate_left
        · (intro wq hq; go_simp); first | done | with_reducible rfl
        try simp only [Act.put, List.setIfInBounds_toArray, List.set_cons_zero, List.set_cons_succ]
        replace hS := Till.list 27 hS
        refine take_w (i := 24) (v := ?_) (some 84) rfl (by kernel_rfl) rfl (fun _ _ _ h => h) (Or.inl ⟨by rfl, ?_⟩) hS ?_
        rotate_left
        · (intro wq hq; go_simp); first | done | with_reducible rfl
        try simp only [Act.put, List.setIfInBounds_toArray, List.set_cons_zero, List.set_cons_succ]
        replace hS := Till.list 24 hS
        have hbx := Below.then (Below.then hb10 hb11) hb12
        refine ready_g (rs := [25]) (by kernel_rfl) (by simp) ?_
        refine AllReadyG.cons rfl (fun Kont hK => ?_) AllReadyG.nil
        go_simp
        refine (scompare_any A N C ts K m g a1 N s1 rb a0 j s0 (ra.take j) _ (hvA.drew.below hbx) hN1 (vb.drew.below hbx) hN1 (vk.drew.below hbx) hj1 hK1).mono ?_
        rw [HZ.out]
        rintro e w13 ⟨rfl, hb13⟩
        refine hK.out _ _ (Or.inr ((hS.get (by kernel_rfl)).trans (Ext.below hb13))) (fun hS0 => ?_)
        clear hK Kont
        try simp only [Act.put, List.setIfInBounds_toArray, List.set_cons_zero, List.set_cons_succ]
        clear hS
        have hS := hS0
        clear hS0
        refine take_w (i := 26) (v := ?_) (some 86) rfl (by kernel_rfl) rfl (fun _ _ _ h => h) (Or.inl ⟨by rfl, ?_⟩) hS ?_
        rotate_left
        · (intro wq hq; go_simp); first | done | with_reducible rfl
        try simp only [Act.put, List.setIfInBounds_toArray, List.set_cons_zero, List.set_cons_succ]
        replace hS := Till.list 26 hS
        refine take_w (i := 28) (v := ?_) (some 88) rfl (by kernel_rfl) rfl (fun _ _ _ h => h) (Or.inl ⟨by rfl, ?_⟩) hS ?_
        rotate_left
        · (intro wq hq; go_simp); first | done | with_reducible rfl
        try simp only [Act.put, List.setIfInBounds_toArray, List.set_cons_zero, List.set_cons_succ]
        replace hS := Till.list 28 hS
        refine take_w (i := 29) (v := ?_) (some 89) rfl (by kernel_rfl) rfl (fun _ _ _ h => h) (Or.inl ⟨by rfl, ?_⟩) hS ?_
        rotate_left
        · (intro wq hq; go_simp); first | done | with_reducible rfl
        try simp only [Act.put, List.setIfInBounds_toArray, List.set_cons_zero, List.set_cons_succ]
        replace hS := Till.list 29 hS
        refine take_w (i := 30) (v := ?_) (some 90) rfl (by kernel_rfl) rfl (fun _ _ _ h => h) (Or.inl ⟨by rfl, ?_⟩) hS ?_
        rotate_left
        · (intro wq hq; go_simp); first | done | with_reducible rfl
        try simp only [Act.put, List.setIfInBounds_toArray, List.set_cons_zero, List.set_cons_succ]
        replace hS := Till.list 30 hS
        refine take_n (i := 31) (v := ?_) (some 91) rfl (by kernel_rfl) rfl (fun _ _ _ h => h) (Or.inl ⟨by rfl, ?_⟩) hS ?_
        rotate_left
        · (intro wq hq; have q0 := hq _ _ _ c0; have q1 := hq _ _ _ c1; have q2 := hq _ _ _ c2; have q3 := hq _ _ _ c3; go_simp); first | done | with_reducible rfl
        try simp only [Act.put, List.setIfInBounds_toArray, List.set_cons_zero, List.set_cons_succ]
        replace hS := Till.list 31 hS
        refine take_w (i := 32) (v := ?_) (some 92) rfl (by kernel_rfl) rfl (fun _ _ _ h => h) (Or.inl ⟨by rfl, ?_⟩) hS ?_
        rotate_left
        · (intro wq hq; go_simp); first | done | with_reducible rfl
        try simp only [Act.put, List.setIfInBounds_toArray, List.set_cons_zero, List.set_cons_succ]
        replace hS := Till.list 32 hS
        replace hbx := Below.then hbx hb13
        refine ready_g (rs := [33]) (by kernel_rfl) (by simp) ?_
        refine AllReadyG.cons rfl (fun Kont hK => ?_) AllReadyG.nil
        go_simp
        refine (scompare_any A N C ts K m g a0 N s0 ra none 0 0 [] _ (hvA.drew.below hbx) hN1 (va.drew.below hbx) hN1 (SV.zero _ _) (Nat.zero_le _) hK1).mono ?_
        rw [F4.out]
        rintro e w14 ⟨rfl, hb14⟩
        refine hK.out _ _ (Or.inr ((hS.get (by kernel_rfl)).trans (Ext.below hb14))) (fun hS0 => ?_)
        clear hK Kont
        try simp only [Act.put, List.setIfInBounds_toArray, List.set_cons_zero, List.set_cons_succ]
        clear hS
        have hS := hS0
        clear hS0
        refine take_w (i := 34) (v := ?_) (some 94) rfl (by kernel_rfl) rfl (fun _ _ _ h => h) (Or.inl ⟨by rfl, ?_⟩) hS ?_
        rotate_left
        · (intro wq hq; go_simp); first | done | with_reducible rfl
        try simp only [Act.put, List.setIfInBounds_toArray, List.set_cons_zero, List.set_cons_succ]
        replace hS := Till.list 34 hS
        refine take_w (i := 35) (v := ?_) (some 95) rfl (by kernel_rfl) rfl (fun _ _ _ h => h) (Or.inl ⟨by rfl, ?_⟩) hS ?_
        rotate_left
        · (intro wq hq; go_simp); first | done | with_reducible rfl
        try simp only [Act.put, List.setIfInBounds_toArray, List.set_cons_zero, List.set_cons_succ]
        replace hS := Till.list 35 hS
        refine take_w (i := 36) (v := ?_) (some 6) rfl (by kernel_rfl) rfl (fun _ _ _ h => h) (Or.inl ⟨by rfl, ?_⟩) hS ?_
        rotate_left
        · (intro wq hq; go_simp); first | done | with_reducible rfl
        try simp only [Act.put, List.setIfInBounds_toArray, List.set_cons_zero, List.set_cons_succ]
        replace hS := Till.list 36 hS
        refine done_g (by kernel_rfl) (NoPanic.normal ?_) _
        clear hS
        have hw4 := Below.then (Below.then hw3.drew hbx) hb14
        go_wp2_with fail
        go_ret
        exact ⟨rfl, hw4⟩
      · have hs : sameTo ra rb j = false := decide_eq_false (fun he => by have := F3.out.2 he; omega)
        have HZ := Lib.hid hz
        clear hz
        go_wp2_with fail
        refine wp_region_noPanic ?_
        refine region_g 37 (Ext (World.drew _)) (by kernel_rfl) (Ext.refl _) (fun hS => ?_)
        refine take_w (i := 0) (v := ?_) (some 60) rfl (by kernel_rfl) rfl (fun _ _ _ h => h) (Or.inl ⟨by rfl, ?_⟩) hS ?_
        rotate_left
        · (intro wq hq; go_simp); first | done | with_reducible rfl
        try simp only [Act.put, List.setIfInBounds_toArray, List.set_cons_zero, List.set_cons_succ]
        replace hS := Till.list 0 hS
        refine take_w (i := 1) (v := ?_) (some 61) rfl (by kernel_rfl) rfl (fun _ _ _ h => h) (Or.inl ⟨by rfl, ?_⟩) hS ?_
        rotate_left
        · (intro wq hq; go_simp); first | done | with_reducible rfl
        try simp only [Act.put, List.setIfInBounds_toArray, List.set_cons_zero, List.set_cons_succ]
        replace hS := Till.list 1 hS
        refine take_n (i := 2) (v := ?_) (some 62) rfl (by kernel_rfl) rfl (fun _ _ _ h => h) (Or.inl ⟨by rfl, ?_⟩) hS ?_
        rotate_left
        · (intro wq hq; have q0 := hq _ _ _ c0; have q1 := hq _ _ _ c1; have q2 := hq _ _ _ c2; have q3 := hq _ _ _ c3; go_simp); first | done | with_reducible rfl
        try simp only [Act.put, List.setIfInBounds_toArray, List.set_cons_zero, List.set_cons_succ]
        replace hS := Till.list 2 hS
        refine take_w (i := 3) (v := ?_) (some 63) rfl (by kernel_rfl) rfl (fun _ _ _ h => h) (Or.inl ⟨by rfl, ?_⟩) hS ?_
        rotate_left
        · (intro wq hq; go_simp); first | done | with_reducible rfl
        try simp only [Act.put, List.setIfInBounds_toArray, List.set_cons_zero, List.set_cons_succ]
        replace hS := Till.list 3 hS
        refine take_w (i := 4) (v := ?_) (some 64) rfl (by kernel_rfl) rfl (fun _ _ _ h => h) (Or.inl ⟨by rfl, ?_⟩) hS ?_
        rotate_left
        · (intro wq hq; go_simp); first | done | with_reducible rfl
        try simp only [Act.put, List.setIfInBounds_toArray, List.set_cons_zero, List.set_cons_succ]
        replace hS := Till.list 4 hS
        refine ready_g (rs := [5]) (by kernel_rfl) (by simp) ?_
        refine AllReadyG.cons rfl (fun Kont hK => ?_) AllReadyG.nil
        go_simp
        refine (scompare_any A N C ts K m g a0 N s0 ra a7 N c7 (ra.take K ++ rb.drop K) _ hvA.drew hN1 va.drew hN1 vm.drew hN1 hK1).mono ?_
        rw [F1.out]
        rintro e w10 ⟨rfl, hb10⟩
        refine hK.out _ _ (Or.inr ((hS.get (by kernel_rfl)).trans (Ext.below hb10))) (fun hS0 => ?_)
        clear hK Kont
        try simp only [Act.put, List.setIfInBounds_toArray, List.set_cons_zero, List.set_cons_succ]
        clear hS
        have hS := hS0
        clear hS0
        refine take_w (i := 6) (v := ?_) (some 66) rfl (by kernel_rfl) rfl (fun _ _ _ h => h) (Or.inl ⟨by rfl, ?_⟩) hS ?_
        rotate_left
        · (intro wq hq; go_simp); first | done | with_reducible rfl
        try simp only [Act.put, List.setIfInBounds_toArray, List.set_cons_zero, List.set_cons_succ]
        replace hS := Till.list 6 hS
        refine take_w (i := 7) (v := ?_) (some 67) rfl (by kernel_rfl) rfl (fun _ _ _ h => h) (Or.inl ⟨by rfl, ?_⟩) hS ?_
        rotate_left
        · (intro wq hq; go_simp); first | done | with_reducible rfl
        try simp only [Act.put, List.setIfInBounds_toArray, List.set_cons_zero, List.set_cons_succ]
        replace hS := Till.list 7 hS
        refine take_w (i := 8) (v := ?_) (some 68) rfl (by kernel_rfl) rfl (fun _ _ _ h => h) (Or.inl ⟨by rfl, ?_⟩) hS ?_
        rotate_left
        · (intro wq hq; go_simp); first | done | with_reducible rfl
        try simp only [Act.put, List.setIfInBounds_toArray, List.set_cons_zero, List.set_cons_succ]
        replace hS := Till.list 8 hS
        refine take_n (i := 9) (v := ?_) (some 69) rfl (by kernel_rfl) rfl (fun _ _ _ h => h) (Or.inl ⟨by rfl, ?_⟩) hS ?_
        rotate_left
        · (intro wq hq; have q0 := hq _ _ _ c0; have q1 := hq _ _ _ c1; have q2 := hq _ _ _ c2; have q3 := hq _ _ _ c3; go_simp); first | done | with_reducible rfl
        try simp only [Act.put, List.setIfInBounds_toArray, List.set_cons_zero, List.set_cons_succ]
        replace hS := Till.list 9 hS
        refine take_w (i := 10) (v := ?_) (some 70) rfl (by kernel_rfl) rfl (fun _ _ _ h => h) (Or.inl ⟨by rfl, ?_⟩) hS ?_
        rotate_left
        · (intro wq hq; go_simp); first | done | with_reducible rfl
        try simp only [Act.put, List.setIfInBounds_toArray, List.set_cons_zero, List.set_cons_succ]
        replace hS := Till.list 10 hS
        refine take_w (i := 11) (v := ?_) (some 71) rfl (by kernel_rfl) rfl (fun _ _ _ h => h) (Or.inl ⟨by rfl, ?_⟩) hS ?_
        rotate_left
        · (intro wq hq; go_simp); first | done | with_reducible rfl
        try simp only [Act.put, List.setIfInBounds_toArray, List.set_cons_zero, List.set_cons_succ]
        replace hS := Till.list 11 hS
        refine take_n (i := 13) (v := ?_) (some 73) rfl (by kernel_rfl) rfl (fun _ _ _ h => h) (Or.inl ⟨by rfl, ?_⟩) hS ?_
        rotate_left
        · (intro wq hq; have q0 := hq _ _ _ c0; have q1 := hq _ _ _ c1; have q2 := hq _ _ _ c2; have q3 := hq _ _ _ c3; go_simp); first | done | with_reducible rfl
        try simp only [Act.put, List.setIfInBounds_toArray, List.set_cons_zero, List.set_cons_succ]
        replace hS := Till.list 13 hS
        refine take_w (i := 14) (v := ?_) (some 74) rfl (by kernel_rfl) rfl (fun _ _ _ h => h) (Or.inl ⟨by rfl, ?_⟩) hS ?_
        rotate_left
        · (intro wq hq; go_simp); first | done | with_reducible rfl
        try simp only [Act.put, List.setIfInBounds_toArray, List.set_cons_zero, List.set_cons_succ]
        replace hS := Till.list 14 hS
        refine take_w (i := 15) (v := ?_) (some 75) rfl (by kernel_rfl) rfl (fun _ _ _ h => h) (Or.inl ⟨by rfl, ?_⟩) hS ?_
        rotate_left
        · (intro wq hq; go_simp); first | done | with_reducible rfl
        try simp only [Act.put, List.setIfInBounds_toArray, List.set_cons_zero, List.set_cons_succ]
        replace hS := Till.list 15 hS
        refine ready_g (rs := [12]) (by kernel_rfl) (by simp) ?_
        refine AllReadyG.cons rfl (fun Kont hK => ?_) AllReadyG.nil
        go_simp
        refine (scompare_any A N C ts K m g a0 N s0 ra a1 N s1 rb _ (hvA.drew.below hb10) hN1 (va.drew.below hb10) hN1 (vb.drew.below hb10) hN1 hK1).mono ?_
        rintro e w11 ⟨rfl, hb11⟩
        refine hK.out _ _ (Or.inr ((hS.get (by kernel_rfl)).trans (Ext.below hb11))) (fun hS0 => ?_)
        clear hK Kont
        try simp only [Act.put, List.setIfInBounds_toArray, List.set_cons_zero, List.set_cons_succ]
        clear hS
        have hS := hS0
        clear hS0
        refine ready_g (rs := [16]) (by kernel_rfl) (by simp) ?_
        refine AllReadyG.cons rfl (fun Kont hK => ?_) AllReadyG.nil
        go_simp
        refine (scompare_any A N C ts K m g a7 N c7 (ra.take K ++ rb.drop K) a1 N s1 rb _ ((hvA.drew.below hb10).below hb11) hN1 ((vm.drew.below hb10).below hb11) hN1 ((vb.drew.below hb10).below hb11) hN1 hK1).mono ?_
        rw [F2.out]
        rintro e w12 ⟨rfl, hb12⟩
        refine hK.out _ _ (Or.inr ((hS.get (by kernel_rfl)).trans (Ext.below hb12))) (fun hS0 => ?_)
        clear hK Kont
        try simp only [Act.put, List.setIfInBounds_toArray, List.set_cons_zero, List.set_cons_succ]
        clear hS
        have hS := hS0
        clear hS0
        refine take_w (i := 17) (v := ?_) (some 77) rfl (by kernel_rfl) rfl (fun _ _ _ h => h) (Or.inl ⟨by rfl, ?_⟩) hS ?_
        rotate_left
        · (intro wq hq; go_simp); first | done | with_reducible rfl
        try simp only [Act.put, List.setIfInBounds_toArray, List.set_cons_zero, List.set_cons_succ]
        replace hS := Till.list 17 hS
        refine take_w (i := 18) (v := ?_) (some 78) rfl (by kernel_rfl) rfl (fun _ _ _ h => h) (Or.inl ⟨by rfl, ?_⟩) hS ?_
        rotate_left
        · (intro wq hq; go_simp); first | done | with_reducible rfl
        try simp only [Act.put, List.setIfInBounds_toArray, List.set_cons_zero, List.set_cons_succ]
        replace hS := Till.list 18 hS
        refine take_w (i := 19) (v := ?_) (some 79) rfl (by kernel_rfl) rfl (fun _ _ _ h => h) (Or.inl ⟨by rfl, ?_⟩) hS ?_
        rotate_left
        · (intro wq hq; go_simp); first | done | with_reducible rfl
        try simp only [Act.put, List.setIfInBounds_toArray, List.set_cons_zero, List.set_cons_succ]
        replace hS := Till.list 19 hS
        refine take_n (i := 20) (v := ?_) (some 80) rfl (by kernel_rfl) rfl (fun _ _ _ h => h) (Or.inl ⟨by rfl, ?_⟩) hS ?_
        rotate_left
        · (intro wq hq; have q0 := hq _ _ _ c0; have q1 := hq _ _ _ c1; have q2 := hq _ _ _ c2; have q3 := hq _ _ _ c3; go_simp); first | done | with_reducible rfl
        try simp only [Act.put, List.setIfInBounds_toArray, List.set_cons_zero, List.set_cons_succ]
        replace hS := Till.list 20 hS
        refine take_w (i := 21) (v := ?_) (some 81) rfl (by kernel_rfl) rfl (fun _ _ _ h => h) (Or.inl ⟨by rfl, ?_⟩) hS ?_
        rotate_left
        · (intro wq hq; go_simp); first | done | with_reducible rfl
        try simp only [Act.put, List.setIfInBounds_toArray, List.set_cons_zero, List.set_cons_succ]
        replace hS := Till.list 21 hS
        refine take_w (i := 22) (v := ?_) (some 82) rfl (by kernel_rfl) rfl (fun _ _ _ h => h) (Or.inl ⟨by rfl, ?_⟩) hS ?_
        rotate_left
        · (intro wq hq; go_simp); first | done | with_reducible rfl
        try simp only [Act.put, List.setIfInBounds_toArray, List.set_cons_zero, List.set_cons_succ]
        replace hS := Till.list 22 hS
        refine take_w (i := 23) (v := ?_) (some 83) rfl (by kernel_rfl) rfl (fun _ _ _ h => h) (Or.inl ⟨by rfl, ?_⟩) hS ?_
        rotate_left
        · (intro wq hq; go_simp); first | done | with_reducible rfl
        try simp only [Act.put, List.setIfInBounds_toArray, List.set_cons_zero, List.set_cons_succ]
        replace hS := Till.list 23 hS
        refine take_w (i := 27) (v := ?_) (some 87) rfl (by kernel_rfl) rfl (fun _ _ _ h => h) (Or.inl ⟨by rfl, ?_⟩) hS ?_
        rotate_left
        · (intro wq hq; go_simp); first | done | with_reducible rfl
        try simp only [Act.put, List.setIfInBounds_toArray, List.set_cons_zero, List.set_cons_succ]
        replace hS := Till.list 27 hS
        refine take_w (i := 24) (v := ?_) (some 84) rfl (by kernel_rfl) rfl (fun _ _ _ h => h) (Or.inl ⟨by rfl, ?_⟩) hS ?_
        rotate_left
        · (intro wq hq; go_simp); first | done | with_reducible rfl
        try simp only [Act.put, List.setIfInBounds_toArray, List.set_cons_zero, List.set_cons_succ]
        replace hS := Till.list 24 hS
        have hbx := Below.then (Below.then hb10 hb11) hb12
        refine ready_g (rs := [25]) (by kernel_rfl) (by simp) ?_
        refine AllReadyG.cons rfl (fun Kont hK => ?_) AllReadyG.nil
        go_simp
        refine (scompare_any A N C ts K m g a1 N s1 rb a0 j s0 (ra.take j) _ (hvA.drew.below hbx) hN1 (vb.drew.below hbx) hN1 (vk.drew.below hbx) hj1 hK1).mono ?_
        rw [HZ.out]
        rintro e w13 ⟨rfl, hb13⟩
        refine hK.out _ _ (Or.inr ((hS.get (by kernel_rfl)).trans (Ext.below hb13))) (fun hS0 => ?_)
        clear hK Kont
        try simp only [Act.put, List.setIfInBounds_toArray, List.set_cons_zero, List.set_cons_succ]
        clear hS
        have hS := hS0
        clear hS0
        refine take_w (i := 26) (v := ?_) (some 86) rfl (by kernel_rfl) rfl (fun _ _ _ h => h) (Or.inl ⟨by rfl, ?_⟩) hS ?_
        rotate_left
        · (intro wq hq; go_simp); first | done | with_reducible rfl
        try simp only [Act.put, List.setIfInBounds_toArray, List.set_cons_zero, List.set_cons_succ]
        replace hS := Till.list 26 hS
        refine take_w (i := 28) (v := ?_) (some 88) rfl (by kernel_rfl) rfl (fun _ _ _ h => h) (Or.inl ⟨by rfl, ?_⟩) hS ?_
        rotate_left
        · (intro wq hq; go_simp); first | done | with_reducible rfl
        try simp only [Act.put, List.setIfInBounds_toArray, List.set_cons_zero, List.set_cons_succ]
        replace hS := Till.list 28 hS
        refine take_w (i := 29) (v := ?_) (some 89) rfl (by kernel_rfl) rfl (fun _ _ _ h => h) (Or.inl ⟨by rfl, ?_⟩) hS ?_
        rotate_left
        · (intro wq hq; go_simp); first | done | with_reducible rfl
        try simp only [Act.put, List.setIfInBounds_toArray, List.set_cons_zero, List.set_cons_succ]
        replace hS := Till.list 29 hS
        refine take_w (i := 30) (v := ?_) (some 90) rfl (by kernel_rfl) rfl (fun _ _ _ h => h) (Or.inl ⟨by rfl, ?_⟩) hS ?_
        rotate_left
        · (intro wq hq; go_simp); first | done | with_reducible rfl
        try simp only [Act.put, List.setIfInBounds_toArray, List.set_cons_zero, List.set_cons_succ]
        replace hS := Till.list 30 hS
        refine take_n (i := 31) (v := ?_) (some 91) rfl (by kernel_rfl) rfl (fun _ _ _ h => h) (Or.inl ⟨by rfl, ?_⟩) hS ?_
        rotate_left
        · (intro wq hq; have q0 := hq _ _ _ c0; have q1 := hq _ _ _ c1; have q2 := hq _ _ _ c2; have q3 := hq _ _ _ c3; go_simp); first | done | with_reducible rfl
        try simp only [Act.put, List.setIfInBounds_toArray, List.set_cons_zero, List.set_cons_succ]
        replace hS := Till.list 31 hS
        refine take_w (i := 32) (v := ?_) (some 92) rfl (by kernel_rfl) rfl (fun _ _ _ h => h) (Or.inl ⟨by rfl, ?_⟩) hS ?_
        rotate_left
        · (intro wq hq; go_simp); first | done | with_reducible rfl
        try simp only [Act.put, List.setIfInBounds_toArray, List.set_cons_zero, List.set_cons_succ]
        replace hS := Till.list 32 hS
        replace hbx := Below.then hbx hb13
        refine ready_g (rs := [33]) (by kernel_rfl) (by simp) ?_
        refine AllReadyG.cons rfl (fun Kont hK => ?_) AllReadyG.nil
        go_simp
        refine (scompare_any A N C ts K m g a0 N s0 ra none 0 0 [] _ (hvA.drew.below hbx) hN1 (va.drew.below hbx) hN1 (SV.zero _ _) (Nat.zero_le _) hK1).mono ?_
        rw [F4.out]
        rintro e w14 ⟨rfl, hb14⟩
        refine hK.out _ _ (Or.inr ((hS.get (by kernel_rfl)).trans (Ext.below hb14))) (fun hS0 => ?_)
        clear hK Kont
        try simp only [Act.put, List.setIfInBounds_toArray, List.set_cons_zero, List.set_cons_succ]
        clear hS
        have hS := hS0
        clear hS0
        refine take_w (i := 34) (v := ?_) (some 94) rfl (by kernel_rfl) rfl (fun _ _ _ h => h) (Or.inl ⟨by rfl, ?_⟩) hS ?_
        rotate_left
        · (intro wq hq; go_simp); first | done | with_reducible rfl
        try simp only [Act.put, List.setIfInBounds_toArray, List.set_cons_zero, List.set_cons_succ]
        replace hS := Till.list 34 hS
        refine take_w (i := 35) (v := ?_) (some 95) rfl (by kernel_rfl) rfl (fun _ _ _ h => h) (Or.inl ⟨by rfl, ?_⟩) hS ?_
        rotate_left
        · (intro wq hq; go_simp); first | done | with_reducible rfl
        try simp only [Act.put, List.setIfInBounds_toArray, List.set_cons_zero, List.set_cons_succ]
        replace hS := Till.list 35 hS
        refine take_w (i := 36) (v := ?_) (some 6) rfl (by kernel_rfl) rfl (fun _ _ _ h => h) (Or.inl ⟨by rfl, ?_⟩) hS ?_
        rotate_left
        · (intro wq hq; go_simp); first | done | with_reducible rfl
        try simp only [Act.put, List.setIfInBounds_toArray, List.set_cons_zero, List.set_cons_succ]
        replace hS := Till.list 36 hS
        refine done_g (by kernel_rfl) (NoPanic.normal ?_) _
        clear hS
        have hw4 := Below.then (Below.then hw3.drew hbx) hb14
        go_wp2_with fail
        go_ret
        exact ⟨rfl, hw4⟩
end Go.Proofs.Ytllgnafbemmcaaa
