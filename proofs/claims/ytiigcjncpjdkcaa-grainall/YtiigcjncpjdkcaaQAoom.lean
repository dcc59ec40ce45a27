/-
  GrainAll: for every shape, every list of rows and every number the statement's function returns true, and its arguments read as they did. No condition.
-/
import Derived.Test.YtiigcjncpjdkcaaGrnB
import Derived.Test.YtiigcjncpjdkcaaGrnD
import Derived.Test.YtiigcjncpjdkcaaGrnE
import Derived.Test.YtiigcjncpjdkcaaGrnF
import Derived.Test.YtiigcjncpjdkcaaRows
import Derived.WalkKit
import Derived.ProofKit
import Derived.OpenShut
import Derived.ShutString
import Derived.ChangeOld
import Derived.Below
import Derived.Test.YtiigcjncpjdkcaaSchC
/- GrainAll: the walk. -/
namespace Go.Proofs.Ytiigcjncpjdkcaa
open Go.ChangeShapes Go.WideShapes Go.ChangeAt Go.RowKit
set_option linter.unusedVariables false
set_option maxRecDepth 4000

theorem colL_le (l : List RowV) (k : Int) : (colL l k).length ≤ l.length := by
  unfold colL
  split
  · rw [List.length_map]; exact Nat.le_refl _
  · exact Nat.zero_le _
set_option maxHeartbeats 16000000 in
theorem allA_is {l0 l1 l2 l3 l4 l5 l6 l7 n keys mode grain : Int} (h : ShW l0 l1 l2 l3 l4 l5 l6 l7 n keys mode grain) (R : Option Addr) (nr cr : Nat) (vss : List RowV) (at0 : Int) (w : World)
    (hr : RVs w R nr vss) (hnr : nr ≤ maxLen) (hg : ∀ v ∈ vss, RgV v) :
    Calls Try.prog 3 #[ShV l0 l1 l2 l3 l4 l5 l6 l7 n keys mode grain, .slice R nr cr, .int .i64 at0] w fun e w' => e = .returned (.bool true) ∧ Below w.heap.size w w' := by
  go_enter Try.func3, Try.ntmps3
  go_wp2_with fail
  refine (shownA_is _).mono ?_
  rintro e w1 ⟨rfl, hb1⟩
  have t1 := (Bk.new w (shC l0 l1 l2 l3 l4 l5 l6 l7 n keys mode grain) 24).below hb1
  have hw1 := after1 hb1
  have hr := hr.below hw1
  clear hb1
  obtain ⟨⟨x0, x1, x2, x3⟩, ⟨x4, x5, x6, x7⟩, ⟨x8, x9, x10, x11⟩⟩ := t1.shape
  go_wp2_with fail
  refine (madeA_good h _).mono ?_
  rintro e w2 ⟨A, N, C, K, m, g, ts, rfl, hk, hN, ho, hb2⟩
  clear x0 x1 x2 x3 x4 x5 x6 x7 x8 x9 x10 x11 t1
  obtain ⟨_, _, hA, hC1, hC2, hv, -⟩ := ho.sv
  cases hA
  obtain ⟨G, rfl⟩ : ∃ G : Nat, g = (G : Int) := ⟨g.toNat, by have := (check_is hk).2.2.2.2.2.2.1; omega⟩
  have hG : 1 ≤ G ∧ G ≤ 64 := by have h1 := (check_is hk).2.2.2.2.2.2.1; have h2 := (check_is hk).2.2.2.2.2.2.2.1; omega
  have hkk := Lib.hid (MadeG.keys hk)
  have hty : Hid (Ty ts) := Lib.hid (check_is hk).2.2.2.2.2.2.2.2
  have hlt := Lib.hid (IV.len hv)
  have hx := Sx.new w2 A N C K m (G : Int) 29
  have hr := (hr.below hb2).alloc (.cells #[.slice A N C, .int .i64 K, .int .i64 m, .int .i64 (G : Int)] 29)
  have hv := hv.alloc (.cells #[.slice A N C, .int .i64 K, .int .i64 m, .int .i64 (G : Int)] 29)
  have hw := (Below.then hw1 hb2).alloc (by have := (Below.then hw1 hb2).size; omega) (.cells #[.slice A N C, .int .i64 K, .int .i64 m, .int .i64 (G : Int)] 29)
  have hN1 : N ≤ maxLen := few_max (by omega)
  have hK1 : K ≤ maxLen := few_max (by have := hkk.out; omega)
  obtain ⟨c0, c1, c2, c3⟩ := id hx
  go_wp2_with fail
  clear c0 c1 c2 c3
  generalize w2.alloc (.cells #[.slice A N C, .int .i64 K, .int .i64 m, .int .i64 (G : Int)] 29) = w3 at *
  generalize w2.heap.size = bs at *
  clear ho hb2 hw1 hk
  have hF := fitsL_fr hty.out hg 60
  have hfl := fitsL_len ts vss 60
  obtain ⟨fs, hfs⟩ : ∃ fs, fitsL ts vss 60 = fs := ⟨_, rfl⟩
  refine (fits_rows A N C ts K m (G : Int) R nr cr vss 60 w3 hv (by omega) hr hnr (by omega)).mono ?_
  rw [hfs] at hF hfl ⊢
  rintro e w4 ⟨j, v4, rfl, hj, o4, hb4⟩
  have hv4 := hv.below hb4
  have hx4 := hx.below hb4
  have hw4 := Below.then hw hb4
  obtain ⟨a4, c4, rfl, rv4⟩ := o4.rvs
  have hFK : Hid (∀ v ∈ fs, K ≤ v.length ∧ v.length ≤ 100000) := Lib.hid (fun v hvm => by
    have h1 := (hF v hvm).len
    have h2 := hkk.out
    have h3 := hlt.out
    omega)
  clear hv hx hw hb4 o4 hr hfs
  obtain ⟨c0, c1, c2, c3⟩ := id hx4
  go_wp2_with fail
  clear c0 c1 c2 c3
  refine (gsplit_any A N C K m G a4 j c4 fs _ rv4 (by omega) hG.1 (by omega)).mono ?_
  rintro e w5 ⟨A5, C5, rfl, h51, h52, g5, hb5⟩
  have hv5 := hv4.below hb5
  have hx5 := hx4.below hb5
  have rv5 := rv4.below hb5
  have hw5 := Below.then hw4 hb5
  clear hv4 hx4 rv4 hw4 hb5
  obtain ⟨c0, c1, c2, c3⟩ := id hx5
  go_wp2_with fail
  clear c0 c1 c2 c3
  refine (rasplit_any A N C K m G a4 j c4 fs _ rv5 (by omega) hG.1 (by omega)).mono ?_
  rintro e w6 ⟨A6, C6, rfl, h61, h62, g6, hb6⟩
  have hv6 := hv5.below hb6
  have hx6 := hx5.below hb6
  have rv6 := rv5.below hb6
  have g5 := g5.below hb6
  have hw6 := Below.then hw5 hb6
  clear hv5 hx5 rv5 hw5 hb6
  have hqj := cnt_le G j hG.1
  obtain ⟨q, hq⟩ : ∃ q, cntG G j = q := ⟨_, rfl⟩
  rw [hq] at g5 g6 h51 h61 hqj ⊢
  have HQ := Lib.hid hq
  clear hq
  go_wp2_with fail
  go_loopw [12] (fun i wr => ∃ (x : Nat), x ≤ q ∧ i = .int .i64 (x : Int) ∧ Below w6.heap.size w6 wr) (fun i _ => q - (intOf i).toNat)
  case atStart => exact ⟨0, by omega, rfl, Below.refl _ _⟩
  case round =>
    obtain ⟨x, hxq, rfl, hb⟩ := hrel
    by_cases hlx : x < q
    · have hxi : (x : Int) < (q : Int) := by omega
      obtain ⟨b5, f5, u, rfl, hc5, hu5⟩ := g5.at x hlx
      obtain ⟨b6, f6, u', rfl, hc6, hu6⟩ := g6.at x hlx
      obtain ⟨B5, L5, D5, rfl, h55, h56, -, s5⟩ := hu5
      obtain ⟨B6, L6, D6, rfl, h65, h66, -, s6⟩ := hu6
      have hc5 := keepc hc5 hb
      have hc6 := keepc hc6 hb
      have cc := rrows_any B5 L5 D5 ((splitL G fs).getD x []) B6 L6 D6 ((splitL G fs).getD x []) wr.drew (s5.rvs.below hb.drew) (s6.rvs.below hb.drew) (by omega) (by omega)
      rw [decide_eq_true (rfl : (splitL G fs).getD x [] = (splitL G fs).getD x [])] at cc
      clear s5 s6
      go_wp2_with fail
      refine wp_region_noPanic ?_
      refine region_g 8 (Ext (World.drew _)) (by kernel_rfl) (Ext.refl _) (fun hS => ?_)
      refine take_w (i := 0) (v := ?_) (some 39) rfl (by kernel_rfl) rfl (fun _ _ _ h => h) (Or.inl ⟨by rfl, ?_⟩) hS ?_
      rotate_left
      · (intro wq hq; go_simp); first | done | with_reducible rfl
      try simp only [Act.put, List.setIfInBounds_toArray, List.set_cons_zero, List.set_cons_succ]
      replace hS := Till.list 0 hS
      refine take_w (i := 1) (v := ?_) (some 40) rfl (by kernel_rfl) rfl (fun _ _ _ h => h) (Or.inl ⟨by rfl, ?_⟩) hS ?_
      rotate_left
      · (intro wq hq; go_simp); first | done | with_reducible rfl
      try simp only [Act.put, List.setIfInBounds_toArray, List.set_cons_zero, List.set_cons_succ]
      replace hS := Till.list 1 hS
      refine take_w (i := 4) (v := ?_) (some 43) rfl (by kernel_rfl) rfl (fun _ _ _ h => h) (Or.inl ⟨by rfl, ?_⟩) hS ?_
      rotate_left
      · (intro wq hq; go_simp); first | done | with_reducible rfl
      try simp only [Act.put, List.setIfInBounds_toArray, List.set_cons_zero, List.set_cons_succ]
      replace hS := Till.list 4 hS
      refine take_w (i := 5) (v := ?_) (some 44) rfl (by kernel_rfl) rfl (fun _ _ _ h => h) (Or.inl ⟨by rfl, ?_⟩) hS ?_
      rotate_left
      · (intro wq hq; go_simp); first | done | with_reducible rfl
      try simp only [Act.put, List.setIfInBounds_toArray, List.set_cons_zero, List.set_cons_succ]
      replace hS := Till.list 5 hS
      refine take_w (i := 2) (v := ?_) (some 41) rfl (by kernel_rfl) rfl (fun _ _ _ h => h) (Or.inl ⟨by rfl, ?_⟩) hS ?_
      rotate_left
      · (intro wq hq; go_simp); first | done | with_reducible rfl
      try simp only [Act.put, List.setIfInBounds_toArray, List.set_cons_zero, List.set_cons_succ]
      replace hS := Till.list 2 hS
      refine take_w (i := 6) (v := ?_) (some 45) rfl (by kernel_rfl) rfl (fun _ _ _ h => h) (Or.inl ⟨by rfl, ?_⟩) hS ?_
      rotate_left
      · (intro wq hq; go_simp); first | done | with_reducible rfl
      try simp only [Act.put, List.setIfInBounds_toArray, List.set_cons_zero, List.set_cons_succ]
      replace hS := Till.list 6 hS
      refine take_g (i := 3) (v := ?_) [3] (some 42) rfl (by kernel_rfl) rfl (fun _ _ _ h => h) (Or.inl ⟨by rfl, ?_⟩) hS ?_
      rotate_left
      · (intro wq hq; have q0 := hq _ _ _ hc5; have q1 := hq _ _ _ hc6; go_simp); first | done | with_reducible rfl
      try simp only [Act.put, List.setIfInBounds_toArray, List.set_cons_zero, List.set_cons_succ]
      replace hS := Till.list 3 hS
      refine take_g (i := 7) (v := ?_) [7] (some 46) rfl (by kernel_rfl) rfl (fun _ _ _ h => h) (Or.inl ⟨by rfl, ?_⟩) hS ?_
      rotate_left
      · (intro wq hq; have q0 := hq _ _ _ hc5; have q1 := hq _ _ _ hc6; go_simp); first | done | with_reducible rfl
      try simp only [Act.put, List.setIfInBounds_toArray, List.set_cons_zero, List.set_cons_succ]
      replace hS := Till.list 7 hS
      refine ready_g (rs := [8]) (by kernel_rfl) (by simp) ?_
      refine AllReadyG.cons rfl (fun Kont hK => ?_) AllReadyG.nil
      go_simp
      refine cc.mono ?_
      rintro e w7 ⟨rfl, hb7⟩
      refine hK.out _ _ (Or.inl (by kernel_rfl)) (fun hS0 => ?_)
      clear hK Kont
      try simp only [Act.put, List.setIfInBounds_toArray, List.set_cons_zero, List.set_cons_succ]
      clear hS
      have hS := hS0
      clear hS0
      refine take_w (i := 9) (v := ?_) (some 13) rfl (by kernel_rfl) rfl (fun _ _ _ h => h) (Or.inl ⟨by rfl, ?_⟩) hS ?_
      rotate_left
      · (intro wq hq; go_simp); first | done | with_reducible rfl
      try simp only [Act.put, List.setIfInBounds_toArray, List.set_cons_zero, List.set_cons_succ]
      replace hS := Till.list 9 hS
      refine done_g (by kernel_rfl) (NoPanic.normal ?_) _
      clear hS
      have hb8 := Below.then hb.drew hb7
      clear hb7 hb cc hc5 hc6
      go_wp2_with fail
      go_roundw
      case rel => exact ⟨x + 1, by omega, by go_num, hb8⟩
      case measure => simp [intOf]; omega
    · have hxi : ¬ (x : Int) < (q : Int) := by omega
      obtain rfl : x = q := by omega
      clear g5 g6
      have hv7 := hv6.below hb
      have hx7 := hx6.below hb
      have rv7 := rv6.below hb
      have hw7 := Below.then hw6 hb
      clear hv6 hx6 rv6 hw6 hb
      obtain ⟨c0, c1, c2, c3⟩ := id hx7
      have HFK1 : Hid (∀ v ∈ fs, K ≤ v.length) := Lib.hid (fun v hv => (hFK.out v hv).1)
      go_wp2_with fail
      refine wp_region_noPanic ?_
      refine region_g 6 (Ext (World.drew _)) (by kernel_rfl) (Ext.refl _) (fun hS => ?_)
      refine take_g (i := 0) (v := ?_) [2, 0] (some 50) rfl (by kernel_rfl) rfl (fun _ _ _ h => h) (Or.inl ⟨by rfl, ?_⟩) hS ?_
      rotate_left
      · (intro wq hq; have q0 := hq _ _ _ c0; have q1 := hq _ _ _ c1; have q2 := hq _ _ _ c2; have q3 := hq _ _ _ c3; go_simp); first | done | with_reducible rfl
      try simp only [Act.put, List.setIfInBounds_toArray, List.set_cons_zero, List.set_cons_succ]
      replace hS := Till.list 0 hS
      refine take_w (i := 1) (v := ?_) (some 51) rfl (by kernel_rfl) rfl (fun _ _ _ h => h) (Or.inl ⟨by rfl, ?_⟩) hS ?_
      rotate_left
      · (intro wq hq; go_simp); first | done | with_reducible rfl
      try simp only [Act.put, List.setIfInBounds_toArray, List.set_cons_zero, List.set_cons_succ]
      replace hS := Till.list 1 hS
      refine take_g (i := 3) (v := ?_) [5, 3] (some 53) rfl (by kernel_rfl) rfl (fun _ _ _ h => h) (Or.inl ⟨by rfl, ?_⟩) hS ?_
      rotate_left
      · (intro wq hq; have q0 := hq _ _ _ c0; have q1 := hq _ _ _ c1; have q2 := hq _ _ _ c2; have q3 := hq _ _ _ c3; go_simp); first | done | with_reducible rfl
      try simp only [Act.put, List.setIfInBounds_toArray, List.set_cons_zero, List.set_cons_succ]
      replace hS := Till.list 3 hS
      refine take_w (i := 4) (v := ?_) (some 54) rfl (by kernel_rfl) rfl (fun _ _ _ h => h) (Or.inl ⟨by rfl, ?_⟩) hS ?_
      rotate_left
      · (intro wq hq; go_simp); first | done | with_reducible rfl
      try simp only [Act.put, List.setIfInBounds_toArray, List.set_cons_zero, List.set_cons_succ]
      replace hS := Till.list 4 hS
      refine ready_g (rs := [2]) (by kernel_rfl) (by simp) ?_
      refine AllReadyG.cons rfl (fun Kont hK => ?_) AllReadyG.nil
      go_simp
      refine (gmarks_any A N C K m G a4 j c4 fs wr.drew (rv7.below (Below.refl _ _).drew) (by omega) hG.1 (by omega) HFK1.out).mono ?_
      rw [HQ.out]
      rintro e w8 ⟨A8, C8, rfl, h81, h82, r8, hb8⟩
      have rv8 := RVs.below (w := wr.drew) rv7 hb8
      have hw8 := Below.then hw7.drew hb8
      refine hK.out _ _ (Or.inr ((hS.get (by kernel_rfl)).trans (Ext.below hb8))) (fun hS0 => ?_)
      clear hK Kont
      try simp only [Act.put, List.setIfInBounds_toArray, List.set_cons_zero, List.set_cons_succ]
      clear hS
      have hS := hS0
      clear hS0
      refine ready_g (rs := [5]) (by kernel_rfl) (by simp) ?_
      refine AllReadyG.cons rfl (fun Kont hK => ?_) AllReadyG.nil
      go_simp
      refine (ramarks_any A N C K m G a4 j c4 fs w8 rv8 (by omega) hG.1 (by omega) hFK.out).mono ?_
      rw [HQ.out]
      rintro e w9 ⟨v9, rfl, o9, hb9⟩
      have rv9 := rv8.below hb9
      have r9 := r8.below hb9
      have hw9 := Below.then hw8 hb9
      obtain ⟨a9, c9, rfl, rr9⟩ := o9.rvs
      refine hK.out _ _ (Or.inr ((hS.get (by kernel_rfl)).trans (Ext.below hb9))) (fun hS0 => ?_)
      clear hK Kont
      try simp only [Act.put, List.setIfInBounds_toArray, List.set_cons_zero, List.set_cons_succ]
      clear hS
      have hS := hS0
      clear hS0
      refine ready_g (rs := [6]) (by kernel_rfl) (by simp) ?_
      refine AllReadyG.cons rfl (fun Kont hK => ?_) AllReadyG.nil
      go_simp
      refine (rrows_any _ _ _ _ _ _ _ _ w9 r9 rr9 (few_max (by omega)) (few_max (by omega))).mono ?_
      rw [decide_eq_true (rfl : marksL G K fs = marksL G K fs)]
      rintro e w10 ⟨rfl, hb10⟩
      have rv10 := rv9.below hb10
      have hw10 := Below.then hw9 hb10
      refine hK.out _ _ (Or.inl (by kernel_rfl)) (fun hS0 => ?_)
      clear hK Kont
      try simp only [Act.put, List.setIfInBounds_toArray, List.set_cons_zero, List.set_cons_succ]
      clear hS
      have hS := hS0
      clear hS0
      refine take_w (i := 7) (v := ?_) (some 14) rfl (by kernel_rfl) rfl (fun _ _ _ h => h) (Or.inl ⟨by rfl, ?_⟩) hS ?_
      rotate_left
      · (intro wq hq; go_simp); first | done | with_reducible rfl
      try simp only [Act.put, List.setIfInBounds_toArray, List.set_cons_zero, List.set_cons_succ]
      replace hS := Till.list 7 hS
      refine done_g (by kernel_rfl) (NoPanic.normal ?_) _
      clear hS
      clear rv7 rv8 rv9 r8 r9 rr9 o9 hw7 hw8 hw9 hb8 hb9 hb10 c0 c1 c2 c3 hx7 hv7
      go_wp2_with fail
      refine (gcolumn_any a4 j c4 fs at0 _ rv10 (by omega)).mono ?_
      rintro e w11 ⟨v11, rfl, o11, hb11⟩
      have rv11 := rv10.below hb11
      have hw11 := Below.then hw10 hb11
      obtain ⟨a11, c11, rfl, -, -, cv11, -⟩ := o11.sv
      have hcl := colL_le fs at0
      rw [rv11.1] at hcl
      clear rv10 hw10 hb11 o11
      obtain ⟨cl, hcl2⟩ : ∃ cl, colL fs at0 = cl := ⟨_, rfl⟩
      rw [hcl2] at cv11 hcl ⊢
      have HCL := Lib.hid hcl2
      clear hcl2
      go_wp2_with fail
      refine (racolumn_any a4 j c4 fs at0 _ rv11 (by omega)).mono ?_
      rw [HCL.out]
      rintro e w12 ⟨v12, rfl, o12, hb12⟩
      have cv12 := SV.below cv11 hb12
      have hw12 := Below.then hw11 hb12
      obtain ⟨a12, c12, rfl, -, -, dv12, -⟩ := o12.sv
      clear rv11 hw11 hb12 o12 cv11
      go_wp2_with fail
      refine (same7_any _ _ _ cl _ _ _ cl _ cv12 dv12 (by omega) (by omega)).mono ?_
      rw [decide_eq_true (rfl : cl = cl)]
      rintro e w13 ⟨rfl, hb13⟩
      have hw13 := Below.then hw12 hb13
      go_wp2_with fail
      go_ret
      exact ⟨rfl, hw13⟩
end Go.Proofs.Ytiigcjncpjdkcaa
/-
  GrainAll: for every shape, every list of rows and every number the statement's function returns true, and its arguments read as they did. No condition.
-/
namespace Go.Proofs.Ytiigcjncpjdkcaa.grainAll
open Go.ChangeShapes Go.WideShapes Go.ChangeAt Go.RowKit
set_option linter.unusedVariables false
set_option maxRecDepth 4000

set_option maxRecDepth 100000 in
theorem lifted (os : Os) (started : os.Started) (H : Type) (enc : TypeId × Value → H) :
    ReturnsInHanded {} Try.checked os 3 .any (Rows.grainAllSpec.pre6 enc Try.prog Try.f3 Rows.grainAllRow.domain false) (Rows.grainAllSpec.post enc Try.prog Try.f3 false true false false) := by
  refine returnsInHanded_of_change (C := Try.checked) own started (by kernel_rfl) Try.func3
    (ChangeSpec.witness6 (enc := enc) (C := Try.checked) false ⟨#[], #[.agg #[.int .u8 0, .int .u8 0, .int .u8 0, .int .u8 0, .int .u8 0, .int .u8 0, .int .u8 0, .int .u8 0, .int .u8 0, .int .u8 0, .int .u8 0, .int .u8 0], .slice none 0 0, .int .i64 0], []⟩ 8 (by kernel_rfl) (by kernel_rfl) (by kernel_rfl) (by kernel_rfl)) ?_
  intro W base args ds gs before hval0 hW hcnd _
  have hval : ∀ (j : Nat) t v, Try.f3.params[j]? = some t → args[j]? = some v → Value.okWide Try.prog W .any base t v := hval0
  have hW' := hW
  obtain ⟨p, q, hA0, hV, rfl, hfz, hnd⟩ := hW
  have hA : DataW.TrodAll enc Try.prog W 0 (fun _ => true) true Try.f3.params.toList args.toList ds p := hA0
  rw [Try.params3] at hA hval
  obtain ⟨v0, vs0, d0, ds0, p0, q0, hargs0, rfl, rfl, h0, r0⟩ := trodAll_cons hA
  obtain ⟨v1, vs1, d1, ds1, p1, q1, hargs1, hds1, hq1, h1, r1⟩ := trodAll_cons r0
  obtain ⟨v2, vs2, d2, ds2, p2, q2, hargs2, hds2, hq2, h2, r2⟩ := trodAll_cons r1
  obtain ⟨hn1, hn2, hn3⟩ := trodAll_nil r2
  subst hn2 hn3
  subst hds2 hq2
  subst hds1 hq1
  obtain rfl : args = #[v0, v1, v2] := by cases args; simp_all
  obtain ⟨rfl, rfl⟩ := trodVars_none hV
  have rd0 := h0
  have lt0 : ∀ x ∈ p0, x.block < W.heap.size := by obtain ⟨m, hm⟩ := rd0; exact DataW.trod_lt m _ _ _ hm
  obtain ⟨la0, lb0, lc0, ld0, le0, lf0, lg0, lh0, na0, nb0, nc0, nd0, rfl, S0⟩ := open_shape (hval 0 24 v0 rfl rfl) h0
  have rd1 := h1
  have lt1 : ∀ x ∈ p1, x.block < W.heap.size := by obtain ⟨m, hm⟩ := rd1; exact DataW.trod_lt m _ _ _ hm
  obtain ⟨A1, n1, c1, v1, rfl, W1, L1, R1⟩ := open_rows4 (hval 1 25 v1 rfl rfl) h1
  have rd2 := h2
  have lt2 : ∀ x ∈ p2, x.block < W.heap.size := by obtain ⟨m, hm⟩ := rd2; exact DataW.trod_lt m _ _ _ hm
  obtain ⟨a2, rfl, B2⟩ := open_gint (hval 2 3 v2 rfl rfl) h2
  clear hA0 hval0
  refine (allA_is S0 A1 n1 c1 v1 a2 W W1 L1 R1).mono fun e W' ⟨he, bel⟩ => ?_
  subst he
  exact ⟨_, rfl, _, _, _, [], _, [], hW', trodAll_mk1 (shut_bool Try.underlying4 _), (trodAll_cons_mk (Below.trod laidOut (by kernel_rfl) (of_decide_eq_true (by kernel_rfl)) rd0 bel lt0) (trodAll_cons_mk (Below.trod laidOut (by kernel_rfl) (of_decide_eq_true (by kernel_rfl)) rd1 bel lt1) (trodAll_cons_mk (Below.trod laidOut (by kernel_rfl) (of_decide_eq_true (by kernel_rfl)) rd2 bel lt2) trodAll_mk0))), rfl, bel.frame _, fun h => by cases h⟩

theorem over : Rows.grainAllRow.holds Try.pinned (OpenSpec.ofChange Rows.grainAllSpec) :=
  OpenClaim.holds_of_wide 3 Try.f3 rfl rfl rfl rfl rfl rfl rfl ⟨rfl, rfl, rfl, rfl, rfl⟩ rfl rfl rfl rfl rfl (by kernel_rfl) Try.func3 (by kernel_rfl)
    (of_decide_eq_true (by kernel_rfl)) (by unfold Func.isWrapper; first | (rw [if_pos (by decide +kernel)]; kernel_rfl) | (rw [if_neg (by decide +kernel)]; exact ⟨rfl, rfl⟩))
    (fun os started H enc _ => lifted os started H enc)
end Go.Proofs.Ytiigcjncpjdkcaa.grainAll
namespace Go.Proofs.Ytiigcjncpjdkcaa
theorem grainAll_holds : Rows.GrainAllSaid := grainAll.over
end Go.Proofs.Ytiigcjncpjdkcaa
