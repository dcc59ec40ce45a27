/-
  OrderAll: for every shape, every list of rows and every row the statement's function returns true, and its arguments read as they did. No condition.
-/
import Derived.Test.YtloohkgiicgndaaOrdF
import Derived.Test.YtloohkgiicgndaaRows
import Derived.WalkKit
import Derived.ProofKit
import Derived.OpenShut
import Derived.ShutString
import Derived.ChangeOld
import Derived.Below
import Derived.Test.YtloohkgiicgndaaSchC
/- OrderAll: the walk. -/
namespace Go.Proofs.Ytloohkgiicgndaa
open Go.ChangeShapes Go.WideShapes Go.ChangeAt Go.RowKit
set_option linter.unusedVariables false
set_option maxRecDepth 4000

theorem min2 (a b : Nat) : ∃ M : Nat, (M ≤ a ∧ M ≤ b) ∧ ∀ w, (Builtin.min_ #[3, 3] 3 #[.int .i64 (a : Int), .int .i64 (b : Int)]).run Try.prog w = .ok (.int .i64 (M : Int)) w := by
  refine ⟨min a b, by omega, fun w => ?_⟩
  have e : (((min a b : Nat)) : Int) = if (b : Int) < a then (b : Int) else a := by split <;> omega
  rw [e]
  simp [Builtin.min_, Builtin.min2]
theorem RgV.take {v : RowV} (h : RgV v) (k : Nat) : RgV (v.take k) := fun x hx => h x (List.mem_of_mem_take hx)
set_option maxHeartbeats 16000000 in
theorem all9_is {l0 l1 l2 l3 l4 l5 l6 l7 n keys mode grain : Int} (h : ShW l0 l1 l2 l3 l4 l5 l6 l7 n keys mode grain) (R : Option Addr) (nr cr : Nat) (vss : List RowV) (Rk : Option Addr) (nk ck : Nat) (kv : RowV) (w : World)
    (hr : RVs w R nr vss) (hnr : nr ≤ maxLen) (hg : ∀ v ∈ vss, RgV v) (hkey : WV w Rk nk kv) (hnk : nk ≤ maxLen) (hgk : RgV kv) :
    Calls Try.prog 3 #[ShV l0 l1 l2 l3 l4 l5 l6 l7 n keys mode grain, .slice R nr cr, .slice Rk nk ck] w fun e w' => e = .returned (.bool true) ∧ Below w.heap.size w w' := by
  go_enter Try.func3, Try.ntmps3
  go_wp2_with fail
  refine (shown9_is _).mono ?_
  rintro e w1 ⟨rfl, hb1⟩
  have t1 := (Bk.new w (shC l0 l1 l2 l3 l4 l5 l6 l7 n keys mode grain) 24).below hb1
  have hw1 := after1 hb1
  have hr := hr.below hw1
  clear hb1
  obtain ⟨⟨x0, x1, x2, x3⟩, ⟨x4, x5, x6, x7⟩, ⟨x8, x9, x10, x11⟩⟩ := t1.shape
  go_wp2_with fail
  refine (made9_good h _).mono ?_
  rintro e w2 ⟨A, N, C, K, m, g, ts, rfl, hk, hN, ho, hb2⟩
  clear x0 x1 x2 x3 x4 x5 x6 x7 x8 x9 x10 x11 t1
  obtain ⟨_, _, hA, hC1, hC2, hv, -⟩ := ho.sv
  cases hA
  have hkk := Lib.hid (MadeG.keys hk)
  have hty : Hid (Ty ts) := Lib.hid (check_is hk).2.2.2.2.2.2.2.2
  have hlt := Lib.hid (IV.len hv)
  have hx := Sx.new w2 A N C K m g 31
  have hr := (hr.below hb2).alloc (.cells #[.slice A N C, .int .i64 K, .int .i64 m, .int .i64 g] 31)
  have hv := hv.alloc (.cells #[.slice A N C, .int .i64 K, .int .i64 m, .int .i64 g] 31)
  have hw := (Below.then hw1 hb2).alloc (by have := (Below.then hw1 hb2).size; omega) (.cells #[.slice A N C, .int .i64 K, .int .i64 m, .int .i64 g] 31)
  have hN1 : N ≤ maxLen := few_max (by omega)
  have hK1 : K ≤ maxLen := few_max (by have := hkk.out; omega)
  have hkey := ((hkey.below hw1).below hb2).alloc (.cells #[.slice A N C, .int .i64 K, .int .i64 m, .int .i64 g] 31)
  obtain ⟨c0, c1, c2, c3⟩ := id hx
  go_wp2_with fail
  clear c0 c1 c2 c3
  generalize w2.alloc (.cells #[.slice A N C, .int .i64 K, .int .i64 m, .int .i64 g] 31) = w3 at *
  generalize w2.heap.size = bs at *
  clear ho hb2 hw1 hk
  have hF := fitsL_fr hty.out hg 60
  have hfl := fitsL_len ts vss 60
  obtain ⟨fs, hfs⟩ : ∃ fs, fitsL ts vss 60 = fs := ⟨_, rfl⟩
  refine (fits_rows A N C ts K m g R nr cr vss 60 w3 hv (by omega) hr hnr (by omega)).mono ?_
  rw [hfs] at hF hfl ⊢
  rintro e w4 ⟨j, v4, rfl, hj, o4, hb4⟩
  have hv4 := hv.below hb4
  have hx4 := hx.below hb4
  have hkey4 := hkey.below hb4
  have hw4 := Below.then hw hb4
  obtain ⟨a4, c4, rfl, rv4⟩ := o4.rvs
  clear hv hx hkey hw hb4 o4 hr hfs
  obtain ⟨c0, c1, c2, c3⟩ := id hx4
  go_wp2_with fail
  clear c0 c1 c2 c3
  refine (rfit_any A N C ts K m g Rk nk ck kv _ hv4 (by omega) hkey4 hnk).mono ?_
  rintro e w5 ⟨a5, c5, rfl, o5, hb5⟩
  obtain ⟨_, _, hA, hc5, hc5', wk, -⟩ := o5.sv
  cases hA
  have hv5 := hv4.below hb5
  have hx5 := hx4.below hb5
  have rv5 := rv4.below hb5
  have hw5 := Below.then hw4 hb5
  have hfu : FR ts (fitR ts kv) := FR.fit hty.out hgk
  clear hv4 hx4 rv4 hw4 hb5 o5 hkey4
  generalize fitR ts kv = u at *
  obtain ⟨M, ⟨hM1, hM2⟩, hmin⟩ := min2 nk N
  have hMc : M ≤ c5 := by omega
  have wkM := WV.takes wk M hM2
  have HKV := Lib.hid (KeyV.cut K M hfu)
  have HG := Lib.hid (RgV.take (RgV.of hfu) M)
  clear hfu wk
  generalize u.take M = kk at *
  obtain ⟨c0, c1, c2, c3⟩ := id hx5
  go_wp2_with fail
  clear c0 c1 c2 c3 hmin
  refine (osort_any A N C ts K m g a4 j c4 fs w5 hv5 hN1 hK1 hty.out rv5 (by omega) hF).mono ?_
  rintro e w6 ⟨gs, rfl, rv6, -, hb6⟩
  have hv6 := hv5.below hb6
  have hx6 := hx5.below hb6
  have rr6 := rv5.below hb6
  have wk6 := wkM.below hb6
  have hw6 := Below.then hw5 hb6
  have HI : Hid (InA (cN ts K) (sortA (cN ts K) fs) ∧ ∀ v ∈ sortA (cN ts K) fs, FR ts v) := ⟨sortA_in (cN_ord hty.out K).a _, sorted_fr hF⟩
  clear hv5 hx5 rv5 hw5 hb6 wkM
  obtain ⟨qs, hq1, hq2, hq3⟩ := rr6.pairs
  have HQ := Lib.hid hq2
  obtain ⟨c0, c1, c2, c3⟩ := id hx6
  go_wp2_with fail
  clear c0 c1 c2 c3
  refine (r9sort_any A N C ts K m g a4 j c4 qs _ hv6 hN1 hK1 hq1 hq3 (by omega) (fun q hq => hF q.2 (by rw [← HQ.out]; exact List.mem_map.2 ⟨q, hq, rfl⟩))).mono ?_
  rintro e w7 ⟨v7, rfl, o7, hb7⟩
  obtain ⟨a7, c7, rfl, -, -, sv7, -⟩ := OS.sv o7
  have hlq : (sortA (cP ts K) qs).length = j := by rw [sortA_len]; have := hq1.1; rw [pc_len] at this; omega
  rw [hlq] at sv7 ⊢
  have hs7 : (sortA (cP ts K) qs).map (·.2) = sortA (cN ts K) fs := by rw [← HQ.out]; exact sortA_map (cN ts K) (fun p : P9 => p.2) qs
  have rv7 := RVs.of sv7 (fun p hp => (hq3 p (sortA_mem.1 hp)).below hb7)
  rw [hs7] at rv7
  have rs7 := rv6.below hb7
  have rr7 := rr6.below hb7
  have hv7 := hv6.below hb7
  have hx7 := hx6.below hb7
  have wk7 := wk6.below hb7
  have hw7 := Below.then hw6 hb7
  clear hv6 hx6 rv6 rr6 hw6 hb7 wk6 hq1 hq2 hq3 sv7 o7 hs7 hlq HQ
  generalize sortA (cN ts K) fs = l at *
  have hll := Lib.hid rs7.1
  go_wp2_with fail
  refine (rrows_any _ j j l a7 j c7 l _ rs7 rv7 (few_max (by omega)) (few_max (by omega))).mono ?_
  rw [decide_eq_true (rfl : l = l)]
  rintro e w8 ⟨rfl, hb8⟩
  have rs8 := rs7.below hb8
  have rr8 := rr7.below hb8
  have hv8 := hv7.below hb8
  have hx8 := hx7.below hb8
  have wk8 := wk7.below hb8
  have hw8 := Below.then hw7 hb8
  clear rv7 rs7 rr7 hv7 hx7 wk7 hw7 hb8
  obtain ⟨c0, c1, c2, c3⟩ := id hx8
  have HF := Lib.hid hF
  have Hup := Lib.hid (fun x y q1 (q2 : y < j) => up_key hty.out HKV.out HI.out.1 HI.out.2 x y q1 (by rw [hll.out]; exact q2))
  clear hF
  obtain ⟨bq, hbq⟩ : ∃ bq, srtB (cN ts K) [] fs = bq := ⟨_, rfl⟩
  have HBQ := Lib.hid hbq
  clear hbq
  obtain ⟨nq, hnq⟩ : ∃ nq, countA (fun r => decide (cR (ts.take K) r kk < 0)) l = nq := ⟨_, rfl⟩
  have HNQ := Lib.hid hnq
  clear hnq
  obtain ⟨mq, hmq⟩ : ∃ mq, countA (fun r => decide (cR (ts.take K) r kk ≤ 0)) l = mq := ⟨_, rfl⟩
  have HMQ := Lib.hid hmq
  clear hmq
  go_wp2_with fail
  refine wp_region_noPanic ?_
  refine region_g 32 (Ext (World.drew _)) (by kernel_rfl) (Ext.refl _) (fun hS => ?_)
  refine take_w (i := 0) (v := ?_) (some 37) rfl (by kernel_rfl) rfl (fun _ _ _ h => h) (Or.inl ⟨by rfl, ?_⟩) hS ?_
  rotate_left
  · (intro wq hq; go_simp); first | done | with_reducible rfl
  try simp only [Act.put, List.setIfInBounds_toArray, List.set_cons_zero, List.set_cons_succ]
  replace hS := Till.list 0 hS
  refine take_w (i := 1) (v := ?_) (some 38) rfl (by kernel_rfl) rfl (fun _ _ _ h => h) (Or.inl ⟨by rfl, ?_⟩) hS ?_
  rotate_left
  · (intro wq hq; go_simp); first | done | with_reducible rfl
  try simp only [Act.put, List.setIfInBounds_toArray, List.set_cons_zero, List.set_cons_succ]
  replace hS := Till.list 1 hS
  refine take_w (i := 2) (v := ?_) (some 39) rfl (by kernel_rfl) rfl (fun _ _ _ h => h) (Or.inl ⟨by rfl, ?_⟩) hS ?_
  rotate_left
  · (intro wq hq; go_simp); first | done | with_reducible rfl
  try simp only [Act.put, List.setIfInBounds_toArray, List.set_cons_zero, List.set_cons_succ]
  replace hS := Till.list 2 hS
  refine take_w (i := 3) (v := ?_) (some 40) rfl (by kernel_rfl) rfl (fun _ _ _ h => h) (Or.inl ⟨by rfl, ?_⟩) hS ?_
  rotate_left
  · (intro wq hq; go_simp); first | done | with_reducible rfl
  try simp only [Act.put, List.setIfInBounds_toArray, List.set_cons_zero, List.set_cons_succ]
  replace hS := Till.list 3 hS
  refine take_w (i := 4) (v := ?_) (some 41) rfl (by kernel_rfl) rfl (fun _ _ _ h => h) (Or.inl ⟨by rfl, ?_⟩) hS ?_
  rotate_left
  · (intro wq hq; go_simp); first | done | with_reducible rfl
  try simp only [Act.put, List.setIfInBounds_toArray, List.set_cons_zero, List.set_cons_succ]
  replace hS := Till.list 4 hS
  refine take_g (i := 5) (v := ?_) [24, 23, 13, 10, 7, 5] (some 42) rfl (by kernel_rfl) rfl (fun _ _ _ h => h) (Or.inl ⟨by rfl, ?_⟩) hS ?_
  rotate_left
  · (intro wq hq; have q0 := hq _ _ _ c0; have q1 := hq _ _ _ c1; have q2 := hq _ _ _ c2; have q3 := hq _ _ _ c3; go_simp); first | done | with_reducible rfl
  try simp only [Act.put, List.setIfInBounds_toArray, List.set_cons_zero, List.set_cons_succ]
  replace hS := Till.list 5 hS
  refine take_w (i := 6) (v := ?_) (some 43) rfl (by kernel_rfl) rfl (fun _ _ _ h => h) (Or.inl ⟨by rfl, ?_⟩) hS ?_
  rotate_left
  · (intro wq hq; go_simp); first | done | with_reducible rfl
  try simp only [Act.put, List.setIfInBounds_toArray, List.set_cons_zero, List.set_cons_succ]
  replace hS := Till.list 6 hS
  refine take_g (i := 8) (v := ?_) [24, 23, 13, 10, 8] (some 45) rfl (by kernel_rfl) rfl (fun _ _ _ h => h) (Or.inl ⟨by rfl, ?_⟩) hS ?_
  rotate_left
  · (intro wq hq; have q0 := hq _ _ _ c0; have q1 := hq _ _ _ c1; have q2 := hq _ _ _ c2; have q3 := hq _ _ _ c3; go_simp); first | done | with_reducible rfl
  try simp only [Act.put, List.setIfInBounds_toArray, List.set_cons_zero, List.set_cons_succ]
  replace hS := Till.list 8 hS
  refine take_w (i := 9) (v := ?_) (some 46) rfl (by kernel_rfl) rfl (fun _ _ _ h => h) (Or.inl ⟨by rfl, ?_⟩) hS ?_
  rotate_left
  · (intro wq hq; go_simp); first | done | with_reducible rfl
  try simp only [Act.put, List.setIfInBounds_toArray, List.set_cons_zero, List.set_cons_succ]
  replace hS := Till.list 9 hS
  refine ready_g (rs := [7]) (by kernel_rfl) (by simp) ?_
  refine AllReadyG.cons rfl (fun Kont hK => ?_) AllReadyG.nil
  go_simp
  refine (osorted_any A N C ts K m g a4 j c4 fs w8.drew hv8.drew hN1 hK1 hty.out rr8 (by omega) HF.out).mono ?_
  rw [HBQ.out]
  rintro e w9 ⟨rfl, hb9⟩
  have hv9 := SV.below (w := w8.drew) hv8 hb9
  have rr9 := RVs.below (w := w8.drew) rr8 hb9
  have rs9 := RVs.below (w := w8.drew) rs8 hb9
  have wk9 := SV.below (w := w8.drew) wk8 hb9
  have hw9 := Below.then hw8.drew hb9
  refine hK.out _ _ (Or.inr ((hS.get (by kernel_rfl)).trans (Ext.below hb9))) (fun hS0 => ?_)
  clear hK Kont
  try simp only [Act.put, List.setIfInBounds_toArray, List.set_cons_zero, List.set_cons_succ]
  clear hS
  have hS := hS0
  clear hS0
  refine ready_g (rs := [10]) (by kernel_rfl) (by simp) ?_
  refine AllReadyG.cons rfl (fun Kont hK => ?_) AllReadyG.nil
  go_simp
  refine (r9sorted_any A N C ts K m g a4 j c4 fs w9 hv9 hN1 hK1 hty.out rr9 (by omega) HF.out).mono ?_
  rw [HBQ.out]
  rintro e w10 ⟨rfl, hb10⟩
  have hv10 := hv9.below hb10
  have rs10 := rs9.below hb10
  have wk10 := wk9.below hb10
  have hw10 := Below.then hw9 hb10
  refine hK.out _ _ (Or.inr ((hS.get (by kernel_rfl)).trans (Ext.below hb10))) (fun hS0 => ?_)
  clear hK Kont
  try simp only [Act.put, List.setIfInBounds_toArray, List.set_cons_zero, List.set_cons_succ]
  clear hS
  have hS := hS0
  clear hS0
  refine take_w (i := 11) (v := ?_) (some 48) rfl (by kernel_rfl) rfl (fun _ _ _ h => h) (Or.inl ⟨by rfl, ?_⟩) hS ?_
  rotate_left
  · (intro wq hq; go_simp); first | done | with_reducible rfl
  try simp only [Act.put, List.setIfInBounds_toArray, List.set_cons_zero, List.set_cons_succ]
  replace hS := Till.list 11 hS
  refine take_w (i := 12) (v := ?_) (some 49) rfl (by kernel_rfl) rfl (fun _ _ _ h => h) (Or.inl ⟨by rfl, ?_⟩) hS ?_
  rotate_left
  · (intro wq hq; go_simp); first | done | with_reducible rfl
  try simp only [Act.put, List.setIfInBounds_toArray, List.set_cons_zero, List.set_cons_succ]
  replace hS := Till.list 12 hS
  refine take_w (i := 13) (v := ?_) (some 50) rfl (by kernel_rfl) rfl (fun _ _ _ h => h) (Or.inl ⟨by rfl, ?_⟩) hS ?_
  rotate_left
  · (intro wq hq; go_simp); first | done | with_reducible rfl
  try simp only [Act.put, List.setIfInBounds_toArray, List.set_cons_zero, List.set_cons_succ]
  replace hS := Till.list 13 hS
  refine take_g (i := 14) (v := ?_) [24, 21, 17, 14] (some 51) rfl (by kernel_rfl) rfl (fun _ _ _ h => h) (Or.inl ⟨by rfl, ?_⟩) hS ?_
  rotate_left
  · (intro wq hq; have q0 := hq _ _ _ c0; have q1 := hq _ _ _ c1; have q2 := hq _ _ _ c2; have q3 := hq _ _ _ c3; go_simp); first | done | with_reducible rfl
  try simp only [Act.put, List.setIfInBounds_toArray, List.set_cons_zero, List.set_cons_succ]
  replace hS := Till.list 14 hS
  refine take_w (i := 15) (v := ?_) (some 52) rfl (by kernel_rfl) rfl (fun _ _ _ h => h) (Or.inl ⟨by rfl, ?_⟩) hS ?_
  rotate_left
  · (intro wq hq; go_simp); first | done | with_reducible rfl
  try simp only [Act.put, List.setIfInBounds_toArray, List.set_cons_zero, List.set_cons_succ]
  replace hS := Till.list 15 hS
  refine take_w (i := 16) (v := ?_) (some 53) rfl (by kernel_rfl) rfl (fun _ _ _ h => h) (Or.inl ⟨by rfl, ?_⟩) hS ?_
  rotate_left
  · (intro wq hq; go_simp); first | done | with_reducible rfl
  try simp only [Act.put, List.setIfInBounds_toArray, List.set_cons_zero, List.set_cons_succ]
  replace hS := Till.list 16 hS
  refine take_g (i := 18) (v := ?_) [24, 21, 18] (some 55) rfl (by kernel_rfl) rfl (fun _ _ _ h => h) (Or.inl ⟨by rfl, ?_⟩) hS ?_
  rotate_left
  · (intro wq hq; have q0 := hq _ _ _ c0; have q1 := hq _ _ _ c1; have q2 := hq _ _ _ c2; have q3 := hq _ _ _ c3; go_simp); first | done | with_reducible rfl
  try simp only [Act.put, List.setIfInBounds_toArray, List.set_cons_zero, List.set_cons_succ]
  replace hS := Till.list 18 hS
  refine take_w (i := 19) (v := ?_) (some 56) rfl (by kernel_rfl) rfl (fun _ _ _ h => h) (Or.inl ⟨by rfl, ?_⟩) hS ?_
  rotate_left
  · (intro wq hq; go_simp); first | done | with_reducible rfl
  try simp only [Act.put, List.setIfInBounds_toArray, List.set_cons_zero, List.set_cons_succ]
  replace hS := Till.list 19 hS
  refine take_w (i := 20) (v := ?_) (some 57) rfl (by kernel_rfl) rfl (fun _ _ _ h => h) (Or.inl ⟨by rfl, ?_⟩) hS ?_
  rotate_left
  · (intro wq hq; go_simp); first | done | with_reducible rfl
  try simp only [Act.put, List.setIfInBounds_toArray, List.set_cons_zero, List.set_cons_succ]
  replace hS := Till.list 20 hS
  refine ready_g (rs := [17]) (by kernel_rfl) (by simp) ?_
  refine AllReadyG.cons rfl (fun Kont hK => ?_) AllReadyG.nil
  go_simp
  refine (obelow_any A N C ts K m g _ j j l a5 M c5 kk w10 hv10 hN1 rs10 (by omega) wk10 (by omega) hK1 (fun x y q1 q2 => (Hup.out x y q1 q2).1)).mono ?_
  rw [HNQ.out]
  rintro e w11 ⟨rfl, hb11⟩
  have hv11 := hv10.below hb11
  have rs11 := rs10.below hb11
  have wk11 := wk10.below hb11
  have hw11 := Below.then hw10 hb11
  refine hK.out _ _ (Or.inr ((hS.get (by kernel_rfl)).trans (Ext.below hb11))) (fun hS0 => ?_)
  clear hK Kont
  try simp only [Act.put, List.setIfInBounds_toArray, List.set_cons_zero, List.set_cons_succ]
  clear hS
  have hS := hS0
  clear hS0
  refine ready_g (rs := [21]) (by kernel_rfl) (by simp) ?_
  refine AllReadyG.cons rfl (fun Kont hK => ?_) AllReadyG.nil
  go_simp
  refine (r9below_any A N C ts K m g _ j j l a5 M c5 kk w11 hv11 hN1 rs11 (by omega) wk11 (by omega) hK1 (fun v hv => RgV.of (HI.out.2 v hv)) HG.out).mono ?_
  rw [HNQ.out]
  rintro e w12 ⟨rfl, hb12⟩
  have hv12 := hv11.below hb12
  have rs12 := rs11.below hb12
  have wk12 := wk11.below hb12
  have hw12 := Below.then hw11 hb12
  refine hK.out _ _ (Or.inr ((hS.get (by kernel_rfl)).trans (Ext.below hb12))) (fun hS0 => ?_)
  clear hK Kont
  try simp only [Act.put, List.setIfInBounds_toArray, List.set_cons_zero, List.set_cons_succ]
  clear hS
  have hS := hS0
  clear hS0
  refine take_w (i := 22) (v := ?_) (some 59) rfl (by kernel_rfl) rfl (fun _ _ _ h => h) (Or.inl ⟨by rfl, ?_⟩) hS ?_
  rotate_left
  · (intro wq hq; go_simp); first | done | with_reducible rfl
  try simp only [Act.put, List.setIfInBounds_toArray, List.set_cons_zero, List.set_cons_succ]
  replace hS := Till.list 22 hS
  refine take_w (i := 23) (v := ?_) (some 60) rfl (by kernel_rfl) rfl (fun _ _ _ h => h) (Or.inl ⟨by rfl, ?_⟩) hS ?_
  rotate_left
  · (intro wq hq; go_simp); first | done | with_reducible rfl
  try simp only [Act.put, List.setIfInBounds_toArray, List.set_cons_zero, List.set_cons_succ]
  replace hS := Till.list 23 hS
  refine take_w (i := 24) (v := ?_) (some 61) rfl (by kernel_rfl) rfl (fun _ _ _ h => h) (Or.inl ⟨by rfl, ?_⟩) hS ?_
  rotate_left
  · (intro wq hq; go_simp); first | done | with_reducible rfl
  try simp only [Act.put, List.setIfInBounds_toArray, List.set_cons_zero, List.set_cons_succ]
  replace hS := Till.list 24 hS
  refine take_g (i := 25) (v := ?_) [28, 25] (some 62) rfl (by kernel_rfl) rfl (fun _ _ _ h => h) (Or.inl ⟨by rfl, ?_⟩) hS ?_
  rotate_left
  · (intro wq hq; have q0 := hq _ _ _ c0; have q1 := hq _ _ _ c1; have q2 := hq _ _ _ c2; have q3 := hq _ _ _ c3; go_simp); first | done | with_reducible rfl
  try simp only [Act.put, List.setIfInBounds_toArray, List.set_cons_zero, List.set_cons_succ]
  replace hS := Till.list 25 hS
  refine take_w (i := 26) (v := ?_) (some 63) rfl (by kernel_rfl) rfl (fun _ _ _ h => h) (Or.inl ⟨by rfl, ?_⟩) hS ?_
  rotate_left
  · (intro wq hq; go_simp); first | done | with_reducible rfl
  try simp only [Act.put, List.setIfInBounds_toArray, List.set_cons_zero, List.set_cons_succ]
  replace hS := Till.list 26 hS
  refine take_w (i := 27) (v := ?_) (some 64) rfl (by kernel_rfl) rfl (fun _ _ _ h => h) (Or.inl ⟨by rfl, ?_⟩) hS ?_
  rotate_left
  · (intro wq hq; go_simp); first | done | with_reducible rfl
  try simp only [Act.put, List.setIfInBounds_toArray, List.set_cons_zero, List.set_cons_succ]
  replace hS := Till.list 27 hS
  refine take_g (i := 29) (v := ?_) [29] (some 66) rfl (by kernel_rfl) rfl (fun _ _ _ h => h) (Or.inl ⟨by rfl, ?_⟩) hS ?_
  rotate_left
  · (intro wq hq; have q0 := hq _ _ _ c0; have q1 := hq _ _ _ c1; have q2 := hq _ _ _ c2; have q3 := hq _ _ _ c3; go_simp); first | done | with_reducible rfl
  try simp only [Act.put, List.setIfInBounds_toArray, List.set_cons_zero, List.set_cons_succ]
  replace hS := Till.list 29 hS
  refine take_w (i := 30) (v := ?_) (some 67) rfl (by kernel_rfl) rfl (fun _ _ _ h => h) (Or.inl ⟨by rfl, ?_⟩) hS ?_
  rotate_left
  · (intro wq hq; go_simp); first | done | with_reducible rfl
  try simp only [Act.put, List.setIfInBounds_toArray, List.set_cons_zero, List.set_cons_succ]
  replace hS := Till.list 30 hS
  refine take_w (i := 31) (v := ?_) (some 68) rfl (by kernel_rfl) rfl (fun _ _ _ h => h) (Or.inl ⟨by rfl, ?_⟩) hS ?_
  rotate_left
  · (intro wq hq; go_simp); first | done | with_reducible rfl
  try simp only [Act.put, List.setIfInBounds_toArray, List.set_cons_zero, List.set_cons_succ]
  replace hS := Till.list 31 hS
  refine ready_g (rs := [28]) (by kernel_rfl) (by simp) ?_
  refine AllReadyG.cons rfl (fun Kont hK => ?_) AllReadyG.nil
  go_simp
  refine (oupto_any A N C ts K m g _ j j l a5 M c5 kk w12 hv12 hN1 rs12 (by omega) wk12 (by omega) hK1 (fun x y q1 q2 => (Hup.out x y q1 q2).2)).mono ?_
  rw [HMQ.out]
  rintro e w13 ⟨rfl, hb13⟩
  have hv13 := hv12.below hb13
  have rs13 := rs12.below hb13
  have wk13 := wk12.below hb13
  have hw13 := Below.then hw12 hb13
  refine hK.out _ _ (Or.inr ((hS.get (by kernel_rfl)).trans (Ext.below hb13))) (fun hS0 => ?_)
  clear hK Kont
  try simp only [Act.put, List.setIfInBounds_toArray, List.set_cons_zero, List.set_cons_succ]
  clear hS
  have hS := hS0
  clear hS0
  refine ready_g (rs := [32]) (by kernel_rfl) (by simp) ?_
  refine AllReadyG.cons rfl (fun Kont hK => ?_) AllReadyG.nil
  go_simp
  refine (r9upto_any A N C ts K m g _ j j l a5 M c5 kk w13 hv13 hN1 rs13 (by omega) wk13 (by omega) hK1 (fun v hv => RgV.of (HI.out.2 v hv)) HG.out).mono ?_
  rw [HMQ.out]
  rintro e w14 ⟨rfl, hb14⟩
  have hw14 := Below.then hw13 hb14
  refine hK.out _ _ (Or.inl (by kernel_rfl)) (fun hS0 => ?_)
  clear hK Kont
  try simp only [Act.put, List.setIfInBounds_toArray, List.set_cons_zero, List.set_cons_succ]
  clear hS
  have hS := hS0
  clear hS0
  refine take_w (i := 33) (v := ?_) (some 70) rfl (by kernel_rfl) rfl (fun _ _ _ h => h) (Or.inl ⟨by rfl, ?_⟩) hS ?_
  rotate_left
  · (intro wq hq; go_simp); first | done | with_reducible rfl
  try simp only [Act.put, List.setIfInBounds_toArray, List.set_cons_zero, List.set_cons_succ]
  replace hS := Till.list 33 hS
  refine take_w (i := 34) (v := ?_) (some 71) rfl (by kernel_rfl) rfl (fun _ _ _ h => h) (Or.inl ⟨by rfl, ?_⟩) hS ?_
  rotate_left
  · (intro wq hq; go_simp); first | done | with_reducible rfl
  try simp only [Act.put, List.setIfInBounds_toArray, List.set_cons_zero, List.set_cons_succ]
  replace hS := Till.list 34 hS
  refine take_w (i := 35) (v := ?_) (some 6) rfl (by kernel_rfl) rfl (fun _ _ _ h => h) (Or.inl ⟨by rfl, ?_⟩) hS ?_
  rotate_left
  · (intro wq hq; go_simp); first | done | with_reducible rfl
  try simp only [Act.put, List.setIfInBounds_toArray, List.set_cons_zero, List.set_cons_succ]
  replace hS := Till.list 35 hS
  refine done_g (by kernel_rfl) (NoPanic.normal ?_) _
  clear hS
  go_wp2_with fail
  go_ret
  exact ⟨rfl, hw14⟩
end Go.Proofs.Ytloohkgiicgndaa
/-
  OrderAll: for every shape, every list of rows and every row the statement's function returns true, and its arguments read as they did. No condition.
-/
namespace Go.Proofs.Ytloohkgiicgndaa.orderAll
open Go.ChangeShapes Go.WideShapes Go.ChangeAt Go.RowKit
set_option linter.unusedVariables false
set_option maxRecDepth 4000

set_option maxRecDepth 100000 in
theorem lifted (os : Os) (started : os.Started) (H : Type) (enc : TypeId × Value → H) :
    ReturnsInHanded {} Try.checked os 3 .any (Rows.orderAllSpec.pre6 enc Try.prog Try.f3 Rows.orderAllRow.domain false) (Rows.orderAllSpec.post enc Try.prog Try.f3 false true false false) := by
  refine returnsInHanded_of_change (C := Try.checked) own started (by kernel_rfl) Try.func3
    (ChangeSpec.witness6 (enc := enc) (C := Try.checked) false ⟨#[], #[.agg #[.int .u8 0, .int .u8 0, .int .u8 0, .int .u8 0, .int .u8 0, .int .u8 0, .int .u8 0, .int .u8 0, .int .u8 0, .int .u8 0, .int .u8 0, .int .u8 0], .slice none 0 0, .slice none 0 0], []⟩ 8 (by kernel_rfl) (by kernel_rfl) (by kernel_rfl) (by kernel_rfl)) ?_
  intro W base args ds gs before hval0 hW hcnd _
  have hval : ∀ (j : Nat) t v, Try.f3.params[j]? = some t → args[j]? = some v → Value.okWide Try.prog W .any base t v := hval0
  have hW' := hW
  obtain ⟨p, q, hA0, hV, rfl, hfz, hnd⟩ := hW
  have hA : DataW.TrodAll enc Try.prog W 0 (fun _ => true) true Try.f3.params.toList args.toList ds p := hA0
  rw [Try.params3] at hA hval
  obtain ⟨v0, vs0, d0, ds0, p0, q0, hargs0, rfl, rfl, h0, r0⟩ := trodAll_cons hA
  obtain ⟨v1, vs1, d1, ds1, p1, q1, hargs1, hds1, hq1, h1, r1⟩ := trodAll_cons r0
  obtain ⟨v2, vs2, d2, ds2, p2, q2, hargs2, hds2, hq2, h2, r2⟩ := trodAll_cons r1
  obtain ⟨hn1, hn2, hn3⟩ := trodAll_nil r2
  subst hn2 hn3
  subst hds2 hq2
  subst hds1 hq1
  obtain rfl : args = #[v0, v1, v2] := by cases args; simp_all
  obtain ⟨rfl, rfl⟩ := trodVars_none hV
  have rd0 := h0
  have lt0 : ∀ x ∈ p0, x.block < W.heap.size := by obtain ⟨m, hm⟩ := rd0; exact DataW.trod_lt m _ _ _ hm
  obtain ⟨la0, lb0, lc0, ld0, le0, lf0, lg0, lh0, na0, nb0, nc0, nd0, rfl, S0⟩ := open_shape (hval 0 24 v0 rfl rfl) h0
  have rd1 := h1
  have lt1 : ∀ x ∈ p1, x.block < W.heap.size := by obtain ⟨m, hm⟩ := rd1; exact DataW.trod_lt m _ _ _ hm
  obtain ⟨A1, n1, c1, v1, rfl, W1, L1, R1⟩ := open_rows4 (hval 1 25 v1 rfl rfl) h1
  have rd2 := h2
  have lt2 : ∀ x ∈ p2, x.block < W.heap.size := by obtain ⟨m, hm⟩ := rd2; exact DataW.trod_lt m _ _ _ hm
  obtain ⟨A2, n2, c2, v2, rfl, W2, L2, R2⟩ := open_row (hval 2 27 v2 rfl rfl) h2
  clear hA0 hval0
  refine (all9_is S0 A1 n1 c1 v1 A2 n2 c2 v2 W W1 L1 R1 W2 L2 R2).mono fun e W' ⟨he, bel⟩ => ?_
  subst he
  exact ⟨_, rfl, _, _, _, [], _, [], hW', trodAll_mk1 (shut_bool Try.underlying4 _), (trodAll_cons_mk (Below.trod laidOut (by kernel_rfl) (of_decide_eq_true (by kernel_rfl)) rd0 bel lt0) (trodAll_cons_mk (Below.trod laidOut (by kernel_rfl) (of_decide_eq_true (by kernel_rfl)) rd1 bel lt1) (trodAll_cons_mk (Below.trod laidOut (by kernel_rfl) (of_decide_eq_true (by kernel_rfl)) rd2 bel lt2) trodAll_mk0))), rfl, bel.frame _, fun h => by cases h⟩

theorem over : Rows.orderAllRow.holds Try.pinned (OpenSpec.ofChange Rows.orderAllSpec) :=
  OpenClaim.holds_of_wide 3 Try.f3 rfl rfl rfl rfl rfl rfl rfl ⟨rfl, rfl, rfl, rfl, rfl⟩ rfl rfl rfl rfl rfl (by kernel_rfl) Try.func3 (by kernel_rfl)
    (of_decide_eq_true (by kernel_rfl)) (by unfold Func.isWrapper; first | (rw [if_pos (by decide +kernel)]; kernel_rfl) | (rw [if_neg (by decide +kernel)]; exact ⟨rfl, rfl⟩))
    (fun os started H enc _ => lifted os started H enc)
end Go.Proofs.Ytloohkgiicgndaa.orderAll
namespace Go.Proofs.Ytloohkgiicgndaa
theorem orderAll_holds : Rows.OrderAllSaid := orderAll.over
end Go.Proofs.Ytloohkgiicgndaa
