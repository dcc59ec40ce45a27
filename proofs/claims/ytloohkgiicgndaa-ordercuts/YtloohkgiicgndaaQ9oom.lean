/-
  OrderCuts: for every shape, every list of rows and every row the statement's function returns true, and its arguments read as they did. No condition.
-/
import Derived.Test.YtloohkgiicgndaaOrdF
import Derived.Test.YtloohkgiicgndaaRows
import Derived.WalkKit
import Derived.ProofKit
import Derived.OpenShut
import Derived.ShutString
import Derived.ChangeOld
import Derived.Below
import Derived.Test.YtloohkgiicgndaaSchC
/- OrderCuts: the walk. -/
namespace Go.Proofs.Ytloohkgiicgndaa
open Go.ChangeShapes Go.WideShapes Go.ChangeAt Go.RowKit
set_option linter.unusedVariables false
set_option maxRecDepth 4000

set_option maxHeartbeats 16000000 in
theorem cuts9_is {l0 l1 l2 l3 l4 l5 l6 l7 n keys mode grain : Int} (h : ShW l0 l1 l2 l3 l4 l5 l6 l7 n keys mode grain) (R : Option Addr) (nr cr : Nat) (vss : List RowV) (Rk : Option Addr) (nk ck : Nat) (kv : RowV) (w : World)
    (hr : RVs w R nr vss) (hnr : nr ≤ maxLen) (hg : ∀ v ∈ vss, RgV v) (hkey : WV w Rk nk kv) (hnk : nk ≤ maxLen) (hgk : RgV kv) :
    Calls Try.prog 5 #[ShV l0 l1 l2 l3 l4 l5 l6 l7 n keys mode grain, .slice R nr cr, .slice Rk nk ck] w fun e w' => e = .returned (.bool true) ∧ Below w.heap.size w w' := by
  go_enter Try.func5, Try.ntmps5
  go_wp2_with fail
  refine (shown9_is _).mono ?_
  rintro e w1 ⟨rfl, hb1⟩
  have t1 := (Bk.new w (shC l0 l1 l2 l3 l4 l5 l6 l7 n keys mode grain) 24).below hb1
  have hw1 := after1 hb1
  have hr := hr.below hw1
  clear hb1
  obtain ⟨⟨x0, x1, x2, x3⟩, ⟨x4, x5, x6, x7⟩, ⟨x8, x9, x10, x11⟩⟩ := t1.shape
  go_wp2_with fail
  refine (made9_good h _).mono ?_
  rintro e w2 ⟨A, N, C, K, m, g, ts, rfl, hk, hN, ho, hb2⟩
  clear x0 x1 x2 x3 x4 x5 x6 x7 x8 x9 x10 x11 t1
  obtain ⟨_, _, hA, hC1, hC2, hv, -⟩ := ho.sv
  cases hA
  have hkk := Lib.hid (MadeG.keys hk)
  have hty : Hid (Ty ts) := Lib.hid (check_is hk).2.2.2.2.2.2.2.2
  have hlt := Lib.hid (IV.len hv)
  have hx := Sx.new w2 A N C K m g 31
  have hr := (hr.below hb2).alloc (.cells #[.slice A N C, .int .i64 K, .int .i64 m, .int .i64 g] 31)
  have hv := hv.alloc (.cells #[.slice A N C, .int .i64 K, .int .i64 m, .int .i64 g] 31)
  have hw := (Below.then hw1 hb2).alloc (by have := (Below.then hw1 hb2).size; omega) (.cells #[.slice A N C, .int .i64 K, .int .i64 m, .int .i64 g] 31)
  have hN1 : N ≤ maxLen := few_max (by omega)
  have hK1 : K ≤ maxLen := few_max (by have := hkk.out; omega)
  have hkey := ((hkey.below hw1).below hb2).alloc (.cells #[.slice A N C, .int .i64 K, .int .i64 m, .int .i64 g] 31)
  obtain ⟨c0, c1, c2, c3⟩ := id hx
  go_wp2_with fail
  clear c0 c1 c2 c3
  generalize w2.alloc (.cells #[.slice A N C, .int .i64 K, .int .i64 m, .int .i64 g] 31) = w3 at *
  generalize w2.heap.size = bs at *
  clear ho hb2 hw1 hk
  have hF := fitsL_fr hty.out hg 60
  have hfl := fitsL_len ts vss 60
  obtain ⟨fs, hfs⟩ : ∃ fs, fitsL ts vss 60 = fs := ⟨_, rfl⟩
  obtain ⟨c0, c1, c2, c3⟩ := id hx
  refine wp_region_noPanic ?_
  refine region_g 4 (Ext (World.drew _)) (by kernel_rfl) (Ext.refl _) (fun hS => ?_)
  refine take_g (i := 0) (v := ?_) [0] (some 18) rfl (by kernel_rfl) rfl (fun _ _ _ h => h) (Or.inl ⟨by rfl, ?_⟩) hS ?_
  rotate_left
  · (intro wq hq; have q0 := hq _ _ _ c0; have q1 := hq _ _ _ c1; have q2 := hq _ _ _ c2; have q3 := hq _ _ _ c3; go_simp); first | done | with_reducible rfl
  try simp only [Act.put, List.setIfInBounds_toArray, List.set_cons_zero, List.set_cons_succ]
  replace hS := Till.list 0 hS
  refine take_g (i := 1) (v := ?_) [3, 1] (some 19) rfl (by kernel_rfl) rfl (fun _ _ _ h => h) (Or.inl ⟨by rfl, ?_⟩) hS ?_
  rotate_left
  · (intro wq hq; have q0 := hq _ _ _ c0; have q1 := hq _ _ _ c1; have q2 := hq _ _ _ c2; have q3 := hq _ _ _ c3; go_simp); first | done | with_reducible rfl
  try simp only [Act.put, List.setIfInBounds_toArray, List.set_cons_zero, List.set_cons_succ]
  replace hS := Till.list 1 hS
  refine take_w (i := 2) (v := ?_) (some 20) rfl (by kernel_rfl) rfl (fun _ _ _ h => h) (Or.inl ⟨by rfl, ?_⟩) hS ?_
  rotate_left
  · (intro wq hq; go_simp); first | done | with_reducible rfl
  try simp only [Act.put, List.setIfInBounds_toArray, List.set_cons_zero, List.set_cons_succ]
  replace hS := Till.list 2 hS
  refine ready_g (rs := [3]) (by kernel_rfl) (by simp) ?_
  refine AllReadyG.cons rfl (fun Kont hK => ?_) AllReadyG.nil
  go_simp
  refine (fits_rows A N C ts K m g R nr cr vss 60 w3.drew hv.drew (by omega) hr hnr (by omega)).mono ?_
  rw [hfs] at hF hfl ⊢
  rintro e w4 ⟨j, v4, rfl, hj, o4, hb4⟩
  refine hK.out _ _ (Or.inr ((hS.get (by kernel_rfl)).trans (Ext.below hb4))) (fun hS0 => ?_)
  clear hK Kont
  try simp only [Act.put, List.setIfInBounds_toArray, List.set_cons_zero, List.set_cons_succ]
  clear hS
  have hS := hS0
  clear hS0
  have hv4 := SV.below (w := w3.drew) hv hb4
  have hx4 := Sx.below (w := w3.drew) hx hb4
  have hkey4 := SV.below (w := w3.drew) hkey hb4
  have hw4 := Below.then hw.drew hb4
  obtain ⟨a4, c4, rfl, rv4⟩ := o4.rvs
  clear hv hx hkey hw hb4 o4 hr c0 c1 c2 c3 hfs
  refine ready_g (rs := [4]) (by kernel_rfl) (by simp) ?_
  refine AllReadyG.cons rfl (fun Kont hK => ?_) AllReadyG.nil
  go_simp
  refine (osort_any A N C ts K m g a4 j c4 fs w4 hv4 hN1 hK1 hty.out rv4 (by omega) hF).mono ?_
  rintro e w5 ⟨gs, rfl, rv5, -, hb5⟩
  refine hK.out _ _ (Or.inl (by kernel_rfl)) (fun hS0 => ?_)
  clear hK Kont
  try simp only [Act.put, List.setIfInBounds_toArray, List.set_cons_zero, List.set_cons_succ]
  clear hS
  have hS := hS0
  clear hS0
  refine take_w (i := 5) (v := ?_) (some 9) rfl (by kernel_rfl) rfl (fun _ _ _ h => h) (Or.inl ⟨by rfl, ?_⟩) hS ?_
  rotate_left
  · (intro wq hq; go_simp); first | done | with_reducible rfl
  try simp only [Act.put, List.setIfInBounds_toArray, List.set_cons_zero, List.set_cons_succ]
  replace hS := Till.list 5 hS
  refine done_g (by kernel_rfl) (NoPanic.normal ?_) _
  clear hS
  have hv5 := hv4.below hb5
  have hx5 := hx4.below hb5
  have hkey5 := hkey4.below hb5
  have hw5 := Below.then hw4 hb5
  have HI : Hid (InA (cN ts K) (sortA (cN ts K) fs) ∧ ∀ v ∈ sortA (cN ts K) fs, FR ts v) := ⟨sortA_in (cN_ord hty.out K).a _, sorted_fr hF⟩
  clear hv4 hx4 hkey4 hw4 hb5 rv4 hF hfl
  generalize sortA (cN ts K) fs = l at *
  have hll := Lib.hid rv5.1
  obtain ⟨c0, c1, c2, c3⟩ := id hx5
  go_wp2_with fail
  clear c0 c1 c2 c3
  refine (rfit_any A N C ts K m g Rk nk ck kv _ hv5 (by omega) hkey5 hnk).mono ?_
  rintro e w6 ⟨a6, c6, rfl, o6, hb6⟩
  obtain ⟨_, _, hA, -, -, wk, -⟩ := o6.sv
  cases hA
  have hv6 := hv5.below hb6
  have hx6 := hx5.below hb6
  have rv6 := rv5.below hb6
  have hw6 := Below.then hw5 hb6
  have hfu : FR ts (fitR ts kv) := FR.fit hty.out hgk
  clear hv5 hx5 rv5 hw5 hb6 o6 hkey5
  generalize fitR ts kv = u at *
  have HKV := Lib.hid (KeyV.whole K hfu)
  have HCK := Lib.hid (cutK hty.out HKV.out HI.out.1 HI.out.2)
  have HG := Lib.hid (RgV.of hfu)
  clear hfu
  obtain ⟨c0, c1, c2, c3⟩ := id hx6
  go_wp2_with fail
  clear c0 c1 c2 c3
  refine (obelow_any A N C ts K m g _ j j l a6 N c6 u _ hv6 hN1 rv6 (by omega) wk hN1 hK1 (fun x y q1 q2 => (up_key hty.out HKV.out HI.out.1 HI.out.2 x y q1 (by rw [hll.out]; exact q2)).1)).mono ?_
  rintro e w7 ⟨rfl, hb7⟩
  have hv7 := hv6.below hb7
  have hx7 := hx6.below hb7
  have rv7 := rv6.below hb7
  have wk7 := wk.below hb7
  have hw7 := Below.then hw6 hb7
  clear hv6 hx6 rv6 hw6 hb7 wk
  obtain ⟨c0, c1, c2, c3⟩ := id hx7
  go_wp2_with fail
  clear c0 c1 c2 c3
  refine (oupto_any A N C ts K m g _ j j l a6 N c6 u _ hv7 hN1 rv7 (by omega) wk7 hN1 hK1 (fun x y q1 q2 => (up_key hty.out HKV.out HI.out.1 HI.out.2 x y q1 (by rw [hll.out]; exact q2)).2)).mono ?_
  rintro e w8 ⟨rfl, hb8⟩
  have hv8 := hv7.below hb8
  have hx8 := hx7.below hb8
  have rv8 := rv7.below hb8
  have wk8 := wk7.below hb8
  have hw8 := Below.then hw7 hb8
  clear hv7 hx7 rv7 hw7 hb8 wk7
  generalize countA (fun r => decide (cR (ts.take K) r u < 0)) l = n0 at *
  generalize countA (fun r => decide (cR (ts.take K) r u ≤ 0)) l = m0 at *
  have hnm := HCK.out.le
  rw [hll.out] at hnm
  have k1 : ¬ (m0 : Int) < (n0 : Int) := by omega
  have k2 : ¬ (j : Int) < (m0 : Int) := by omega
  have k3 : ¬ (n0 : Int) < 0 := by omega
  go_upto_region 7 with fail
  obtain ⟨wv, hwv⟩ : ∃ wv : World, wv = w8 := ⟨_, rfl⟩
  rw [← hwv] at hv8 hx8 rv8 wk8 hw8 ⊢
  clear hwv
  go_cut [46] (fun v wx => v = .bool false ∧ wx = wv)
  case first =>
    go_wp2_with fail
    go_meet
    exact ⟨by simp; omega, rfl⟩
  case rest =>
  obtain ⟨rfl, hwc⟩ := hcut
  rw [← hwc] at hv8 hx8 rv8 wk8 hw8
  clear hwc k1 k2 k3
  generalize wc = w8 at *
  go_wp2_with fail
  go_loopw [13] (fun vi wr => ∃ i : Nat, vi = .int .i64 (i : Int) ∧ i ≤ j ∧ Below w8.heap.size w8 wr) (fun vi _ => j - (intOf vi).toNat)
  case atStart => exact ⟨0, rfl, by omega, Below.refl _ _⟩
  case round =>
    obtain ⟨i, rfl, hi, hbi⟩ := hrel
    by_cases hlt : i < j
    · have hii : (i : Int) < (j : Int) := by omega
      obtain ⟨c0, c1, c2, c3⟩ := hx8.below hbi
      obtain ⟨b, off, A1, L1, C1, e0, hc, hL1, hw1⟩ := rv8.at i hlt
      cases e0
      rw [Nat.zero_add] at hc
      have hc := keepc hc hbi
      have cc := r4compare_any A N C ts K m g A1 L1 C1 _ a6 N c6 u wr.drew (hv8.below hbi.drew) hN1 (hw1.below hbi.drew) hL1 (wk8.below hbi.drew) hN1 hK1 (RgV.of (fr_at HI.out.2 (i := i) (by rw [hll.out]; exact hlt))) HG.out
      have rq := cR_rng (ts.take K) (l.getD i []) u
      have e1 := HCK.out.lt i (by rw [hll.out]; exact hlt)
      have e2 := HCK.out.upto i (by rw [hll.out]; exact hlt)
      generalize cR (ts.take K) (l.getD i []) u = r at cc rq e1 e2
      have E1 : Hid ((r < 0 ↔ i < n0) ∧ (r ≤ 0 ↔ i < m0)) := ⟨by simpa using e1, by simpa using e2⟩
      have w1' : IntKind.i64.wrap ((i : Int) + 1) = ((i + 1 : Nat) : Int) := by rw [IntKind.wrap_i64]; omega
      clear e1 e2 hw1
      go_wp2_with fail
      refine wp_region_noPanic ?_
      refine region_g 6 (Ext (World.drew _)) (by kernel_rfl) (Ext.refl _) (fun hS => ?_)
      refine take_g (i := 0) (v := ?_) [0] (some 53) rfl (by kernel_rfl) rfl (fun _ _ _ h => h) (Or.inl ⟨by rfl, ?_⟩) hS ?_
      rotate_left
      · (intro wq hq; have q0 := hq _ _ _ c0; have q1 := hq _ _ _ c1; have q2 := hq _ _ _ c2; have q3 := hq _ _ _ c3; have q4 := hq _ _ _ hc; go_simp); first | done | with_reducible rfl
      try simp only [Act.put, List.setIfInBounds_toArray, List.set_cons_zero, List.set_cons_succ]
      replace hS := Till.list 0 hS
      refine take_w (i := 1) (v := ?_) (some 54) rfl (by kernel_rfl) rfl (fun _ _ _ h => h) (Or.inl ⟨by rfl, ?_⟩) hS ?_
      rotate_left
      · (intro wq hq; go_simp); first | done | with_reducible rfl
      try simp only [Act.put, List.setIfInBounds_toArray, List.set_cons_zero, List.set_cons_succ]
      replace hS := Till.list 1 hS
      refine take_w (i := 2) (v := ?_) (some 55) rfl (by kernel_rfl) rfl (fun _ _ _ h => h) (Or.inl ⟨by rfl, ?_⟩) hS ?_
      rotate_left
      · (intro wq hq; go_simp); first | done | with_reducible rfl
      try simp only [Act.put, List.setIfInBounds_toArray, List.set_cons_zero, List.set_cons_succ]
      replace hS := Till.list 2 hS
      refine take_w (i := 5) (v := ?_) (some 58) rfl (by kernel_rfl) rfl (fun _ _ _ h => h) (Or.inl ⟨by rfl, ?_⟩) hS ?_
      rotate_left
      · (intro wq hq; go_simp); first | done | with_reducible rfl
      try simp only [Act.put, List.setIfInBounds_toArray, List.set_cons_zero, List.set_cons_succ]
      replace hS := Till.list 5 hS
      refine take_w (i := 3) (v := ?_) (some 56) rfl (by kernel_rfl) rfl (fun _ _ _ h => h) (Or.inl ⟨by rfl, ?_⟩) hS ?_
      rotate_left
      · (intro wq hq; go_simp); first | done | with_reducible rfl
      try simp only [Act.put, List.setIfInBounds_toArray, List.set_cons_zero, List.set_cons_succ]
      replace hS := Till.list 3 hS
      refine take_g (i := 4) (v := ?_) [4] (some 57) rfl (by kernel_rfl) rfl (fun _ _ _ h => h) (Or.inl ⟨by rfl, ?_⟩) hS ?_
      rotate_left
      · (intro wq hq; have q0 := hq _ _ _ c0; have q1 := hq _ _ _ c1; have q2 := hq _ _ _ c2; have q3 := hq _ _ _ c3; have q4 := hq _ _ _ hc; go_simp); first | done | with_reducible rfl
      try simp only [Act.put, List.setIfInBounds_toArray, List.set_cons_zero, List.set_cons_succ]
      replace hS := Till.list 4 hS
      refine ready_g (rs := [6]) (by kernel_rfl) (by simp) ?_
      refine AllReadyG.cons rfl (fun Kont hK => ?_) AllReadyG.nil
      go_simp
      refine cc.mono ?_
      rintro e w9 ⟨rfl, hb9⟩
      refine hK.out _ _ (Or.inl (by kernel_rfl)) (fun hS0 => ?_)
      clear hK Kont
      try simp only [Act.put, List.setIfInBounds_toArray, List.set_cons_zero, List.set_cons_succ]
      clear hS
      have hS := hS0
      clear hS0
      refine take_w (i := 7) (v := ?_) (some 14) rfl (by kernel_rfl) rfl (fun _ _ _ h => h) (Or.inl ⟨by rfl, ?_⟩) hS ?_
      rotate_left
      · (intro wq hq; go_simp); first | done | with_reducible rfl
      try simp only [Act.put, List.setIfInBounds_toArray, List.set_cons_zero, List.set_cons_succ]
      replace hS := Till.list 7 hS
      refine done_g (by kernel_rfl) (NoPanic.normal ?_) _
      clear hS
      have hb10 := Below.then hbi.drew hb9
      clear c0 c1 c2 c3 hc cc hbi hb9
      rcases rq with rfl | rfl | rfl
      · have q1 : (i : Int) < (n0 : Int) := by have := E1.out.1; omega
        have q2 : (i : Int) < (m0 : Int) := by have := E1.out.2; omega
        go_wp2_with fail
        go_roundw
        case rel => exact ⟨i + 1, by go_num, by omega, hb10⟩
        case measure => simp [intOf]; omega
      · have q1 : ¬ (i : Int) < (n0 : Int) := by have := E1.out.1; omega
        have q2 : (i : Int) < (m0 : Int) := by have := E1.out.2; omega
        go_wp2_with fail
        go_roundw
        case rel => exact ⟨i + 1, by go_num, by omega, hb10⟩
        case measure => simp [intOf]; omega
      · have q1 : ¬ (i : Int) < (n0 : Int) := by have := E1.out.1; omega
        have q2 : ¬ (i : Int) < (m0 : Int) := by have := E1.out.2; omega
        go_wp2_with fail
        go_roundw
        case rel => exact ⟨i + 1, by go_num, by omega, hb10⟩
        case measure => simp [intOf]; omega
    · have hii : ¬ (i : Int) < (j : Int) := by omega
      have hv9 := hv8.below hbi
      have hx9 := hx8.below hbi
      have rv9 := rv8.below hbi
      have hw9 := Below.then hw8 hbi
      clear hv8 hx8 rv8 hw8 hbi wk8
      have hkn := KeyV.nil hty.out K
      have HKN := Lib.hid hkn
      clear hkn
      obtain ⟨c0, c1, c2, c3⟩ := id hx9
      go_wp2_with fail
      clear c0 c1 c2 c3
      refine (obelow_any A N C ts K m g _ j j l none 0 0 [] _ hv9 hN1 rv9 (by omega) (SV.zero _ _) (Nat.zero_le _) hK1 (fun x y q1 q2 => (up_key hty.out HKN.out HI.out.1 HI.out.2 x y q1 (by rw [hll.out]; exact q2)).1)).mono ?_
      rw [cut_nil_below]
      rintro e w10 ⟨rfl, hb10⟩
      have hv10 := hv9.below hb10
      have hx10 := hx9.below hb10
      have rv10 := rv9.below hb10
      have hw10 := Below.then hw9 hb10
      clear hv9 hx9 rv9 hw9 hb10
      obtain ⟨c0, c1, c2, c3⟩ := id hx10
      go_wp2_with fail
      clear c0 c1 c2 c3
      have hbk := Joins.below_alloc1 w10 (.cells #[] 46)
      refine (oupto_any A N C ts K m g _ j j l (some ⟨w10.heap.size, 0, none⟩) 0 0 [] _ (hv10.below hbk) hN1 (rv10.below hbk) (by omega) (SV.zero _ _) (Nat.zero_le _) hK1 (fun x y q1 q2 => (up_key hty.out HKN.out HI.out.1 HI.out.2 x y q1 (by rw [hll.out]; exact q2)).2)).mono ?_
      rw [cut_nil_upto, hll.out]
      rintro e w11 ⟨rfl, hb11⟩
      have hw11 := Below.then (Below.then hw10 hbk) hb11
      go_wp2_with fail
      go_ret
      exact ⟨rfl, hw11⟩
end Go.Proofs.Ytloohkgiicgndaa
/-
  OrderCuts: for every shape, every list of rows and every row the statement's function returns true, and its arguments read as they did. No condition.
-/
namespace Go.Proofs.Ytloohkgiicgndaa.orderCuts
open Go.ChangeShapes Go.WideShapes Go.ChangeAt Go.RowKit
set_option linter.unusedVariables false
set_option maxRecDepth 4000

set_option maxRecDepth 100000 in
theorem lifted (os : Os) (started : os.Started) (H : Type) (enc : TypeId × Value → H) :
    ReturnsInHanded {} Try.checked os 5 .any (Rows.orderCutsSpec.pre6 enc Try.prog Try.f5 Rows.orderCutsRow.domain false) (Rows.orderCutsSpec.post enc Try.prog Try.f5 false true false false) := by
  refine returnsInHanded_of_change (C := Try.checked) own started (by kernel_rfl) Try.func5
    (ChangeSpec.witness6 (enc := enc) (C := Try.checked) false ⟨#[], #[.agg #[.int .u8 0, .int .u8 0, .int .u8 0, .int .u8 0, .int .u8 0, .int .u8 0, .int .u8 0, .int .u8 0, .int .u8 0, .int .u8 0, .int .u8 0, .int .u8 0], .slice none 0 0, .slice none 0 0], []⟩ 8 (by kernel_rfl) (by kernel_rfl) (by kernel_rfl) (by kernel_rfl)) ?_
  intro W base args ds gs before hval0 hW hcnd _
  have hval : ∀ (j : Nat) t v, Try.f5.params[j]? = some t → args[j]? = some v → Value.okWide Try.prog W .any base t v := hval0
  have hW' := hW
  obtain ⟨p, q, hA0, hV, rfl, hfz, hnd⟩ := hW
  have hA : DataW.TrodAll enc Try.prog W 0 (fun _ => true) true Try.f5.params.toList args.toList ds p := hA0
  rw [Try.params5] at hA hval
  obtain ⟨v0, vs0, d0, ds0, p0, q0, hargs0, rfl, rfl, h0, r0⟩ := trodAll_cons hA
  obtain ⟨v1, vs1, d1, ds1, p1, q1, hargs1, hds1, hq1, h1, r1⟩ := trodAll_cons r0
  obtain ⟨v2, vs2, d2, ds2, p2, q2, hargs2, hds2, hq2, h2, r2⟩ := trodAll_cons r1
  obtain ⟨hn1, hn2, hn3⟩ := trodAll_nil r2
  subst hn2 hn3
  subst hds2 hq2
  subst hds1 hq1
  obtain rfl : args = #[v0, v1, v2] := by cases args; simp_all
  obtain ⟨rfl, rfl⟩ := trodVars_none hV
  have rd0 := h0
  have lt0 : ∀ x ∈ p0, x.block < W.heap.size := by obtain ⟨m, hm⟩ := rd0; exact DataW.trod_lt m _ _ _ hm
  obtain ⟨la0, lb0, lc0, ld0, le0, lf0, lg0, lh0, na0, nb0, nc0, nd0, rfl, S0⟩ := open_shape (hval 0 24 v0 rfl rfl) h0
  have rd1 := h1
  have lt1 : ∀ x ∈ p1, x.block < W.heap.size := by obtain ⟨m, hm⟩ := rd1; exact DataW.trod_lt m _ _ _ hm
  obtain ⟨A1, n1, c1, v1, rfl, W1, L1, R1⟩ := open_rows4 (hval 1 25 v1 rfl rfl) h1
  have rd2 := h2
  have lt2 : ∀ x ∈ p2, x.block < W.heap.size := by obtain ⟨m, hm⟩ := rd2; exact DataW.trod_lt m _ _ _ hm
  obtain ⟨A2, n2, c2, v2, rfl, W2, L2, R2⟩ := open_row (hval 2 27 v2 rfl rfl) h2
  clear hA0 hval0
  refine (cuts9_is S0 A1 n1 c1 v1 A2 n2 c2 v2 W W1 L1 R1 W2 L2 R2).mono fun e W' ⟨he, bel⟩ => ?_
  subst he
  exact ⟨_, rfl, _, _, _, [], _, [], hW', trodAll_mk1 (shut_bool Try.underlying4 _), (trodAll_cons_mk (Below.trod laidOut (by kernel_rfl) (of_decide_eq_true (by kernel_rfl)) rd0 bel lt0) (trodAll_cons_mk (Below.trod laidOut (by kernel_rfl) (of_decide_eq_true (by kernel_rfl)) rd1 bel lt1) (trodAll_cons_mk (Below.trod laidOut (by kernel_rfl) (of_decide_eq_true (by kernel_rfl)) rd2 bel lt2) trodAll_mk0))), rfl, bel.frame _, fun h => by cases h⟩

theorem over : Rows.orderCutsRow.holds Try.pinned (OpenSpec.ofChange Rows.orderCutsSpec) :=
  OpenClaim.holds_of_wide 5 Try.f5 rfl rfl rfl rfl rfl rfl rfl ⟨rfl, rfl, rfl, rfl, rfl⟩ rfl rfl rfl rfl rfl (by kernel_rfl) Try.func5 (by kernel_rfl)
    (of_decide_eq_true (by kernel_rfl)) (by unfold Func.isWrapper; first | (rw [if_pos (by decide +kernel)]; kernel_rfl) | (rw [if_neg (by decide +kernel)]; exact ⟨rfl, rfl⟩))
    (fun os started H enc _ => lifted os started H enc)
end Go.Proofs.Ytloohkgiicgndaa.orderCuts
namespace Go.Proofs.Ytloohkgiicgndaa
theorem orderCuts_holds : Rows.OrderCutsSaid := orderCuts.over
end Go.Proofs.Ytloohkgiicgndaa
