/-
  OrderPlaces: for every shape, every list of rows and every row the statement's function returns true, and its arguments read as they did. No condition.
-/
import Derived.Test.YtloohkgiicgndaaOrdF
import Derived.Test.YtloohkgiicgndaaBase
import Derived.Test.YtloohkgiicgndaaRows
import Derived.WalkKit
import Derived.ProofKit
import Derived.OpenShut
import Derived.ShutString
import Derived.ChangeOld
import Derived.Below
import Derived.Test.YtloohkgiicgndaaSchC
/- OrderPlaces: the walk. -/
namespace Go.Proofs.Ytloohkgiicgndaa
open Go.ChangeShapes Go.WideShapes Go.ChangeAt Go.RowKit
set_option linter.unusedVariables false
set_option maxRecDepth 4000

theorem sl_rows : Sl 25 1 := ⟨by kernel_rfl, fun w => by kernel_rfl⟩
theorem pc_take (a : List P9) (k : Nat) : pc (a.take k) = (pc a).take k := by unfold pc; rw [List.map_take]
theorem pc_drop (a : List P9) (k : Nat) : pc (a.drop k) = (pc a).drop k := by unfold pc; rw [List.map_drop]
set_option maxRecDepth 4000 in
set_option maxHeartbeats 16000000 in
theorem places9_is {l0 l1 l2 l3 l4 l5 l6 l7 n keys mode grain : Int} (h : ShW l0 l1 l2 l3 l4 l5 l6 l7 n keys mode grain) (R : Option Addr) (nr cr : Nat) (vss : List RowV) (Rk : Option Addr) (nk ck : Nat) (kv : RowV) (w : World)
    (hr : RVs w R nr vss) (hnr : nr ≤ maxLen) (hg : ∀ v ∈ vss, RgV v) (hkey : WV w Rk nk kv) (hnk : nk ≤ maxLen) (hgk : RgV kv) :
    Calls Try.prog 7 #[ShV l0 l1 l2 l3 l4 l5 l6 l7 n keys mode grain, .slice R nr cr, .slice Rk nk ck] w fun e w' => e = .returned (.bool true) ∧ Below w.heap.size w w' := by
  go_enter Try.func7, Try.ntmps7
  go_wp2_with fail
  refine (shown9_is _).mono ?_
  rintro e w1 ⟨rfl, hb1⟩
  have t1 := (Bk.new w (shC l0 l1 l2 l3 l4 l5 l6 l7 n keys mode grain) 24).below hb1
  have hw1 := after1 hb1
  have hr := hr.below hw1
  clear hb1
  obtain ⟨⟨x0, x1, x2, x3⟩, ⟨x4, x5, x6, x7⟩, ⟨x8, x9, x10, x11⟩⟩ := t1.shape
  go_wp2_with fail
  refine (made9_good h _).mono ?_
  rintro e w2 ⟨A, N, C, K, m, g, ts, rfl, hk, hN, ho, hb2⟩
  clear x0 x1 x2 x3 x4 x5 x6 x7 x8 x9 x10 x11 t1
  obtain ⟨_, _, hA, hC1, hC2, hv, -⟩ := ho.sv
  cases hA
  have hkk := Lib.hid (MadeG.keys hk)
  have hty : Hid (Ty ts) := Lib.hid (check_is hk).2.2.2.2.2.2.2.2
  have hlt := Lib.hid (IV.len hv)
  have hx := Sx.new w2 A N C K m g 31
  have hr := (hr.below hb2).alloc (.cells #[.slice A N C, .int .i64 K, .int .i64 m, .int .i64 g] 31)
  have hv := hv.alloc (.cells #[.slice A N C, .int .i64 K, .int .i64 m, .int .i64 g] 31)
  have hw := (Below.then hw1 hb2).alloc (by have := (Below.then hw1 hb2).size; omega) (.cells #[.slice A N C, .int .i64 K, .int .i64 m, .int .i64 g] 31)
  have hN1 : N ≤ maxLen := few_max (by omega)
  have hK1 : K ≤ maxLen := few_max (by have := hkk.out; omega)
  have hkey := ((hkey.below hw1).below hb2).alloc (.cells #[.slice A N C, .int .i64 K, .int .i64 m, .int .i64 g] 31)
  obtain ⟨c0, c1, c2, c3⟩ := id hx
  go_wp2_with fail
  clear c0 c1 c2 c3
  generalize w2.alloc (.cells #[.slice A N C, .int .i64 K, .int .i64 m, .int .i64 g] 31) = w3 at *
  generalize w2.heap.size = bs at *
  clear ho hb2 hw1 hk
  have hF := fitsL_fr hty.out hg 60
  have hfl := fitsL_len ts vss 60
  obtain ⟨fs, hfs⟩ : ∃ fs, fitsL ts vss 60 = fs := ⟨_, rfl⟩
  obtain ⟨c0, c1, c2, c3⟩ := id hx
  refine wp_region_noPanic ?_
  refine region_g 4 (Ext (World.drew _)) (by kernel_rfl) (Ext.refl _) (fun hS => ?_)
  refine take_g (i := 0) (v := ?_) [0] (some 20) rfl (by kernel_rfl) rfl (fun _ _ _ h => h) (Or.inl ⟨by rfl, ?_⟩) hS ?_
  rotate_left
  · (intro wq hq; have q0 := hq _ _ _ c0; have q1 := hq _ _ _ c1; have q2 := hq _ _ _ c2; have q3 := hq _ _ _ c3; go_simp); first | done | with_reducible rfl
  try simp only [Act.put, List.setIfInBounds_toArray, List.set_cons_zero, List.set_cons_succ]
  replace hS := Till.list 0 hS
  refine take_g (i := 1) (v := ?_) [3, 1] (some 21) rfl (by kernel_rfl) rfl (fun _ _ _ h => h) (Or.inl ⟨by rfl, ?_⟩) hS ?_
  rotate_left
  · (intro wq hq; have q0 := hq _ _ _ c0; have q1 := hq _ _ _ c1; have q2 := hq _ _ _ c2; have q3 := hq _ _ _ c3; go_simp); first | done | with_reducible rfl
  try simp only [Act.put, List.setIfInBounds_toArray, List.set_cons_zero, List.set_cons_succ]
  replace hS := Till.list 1 hS
  refine take_w (i := 2) (v := ?_) (some 22) rfl (by kernel_rfl) rfl (fun _ _ _ h => h) (Or.inl ⟨by rfl, ?_⟩) hS ?_
  rotate_left
  · (intro wq hq; go_simp); first | done | with_reducible rfl
  try simp only [Act.put, List.setIfInBounds_toArray, List.set_cons_zero, List.set_cons_succ]
  replace hS := Till.list 2 hS
  refine ready_g (rs := [3]) (by kernel_rfl) (by simp) ?_
  refine AllReadyG.cons rfl (fun Kont hK => ?_) AllReadyG.nil
  go_simp
  refine (fits_rows A N C ts K m g R nr cr vss 60 w3.drew hv.drew (by omega) hr hnr (by omega)).mono ?_
  rw [hfs] at hF hfl ⊢
  rintro e w4 ⟨j, v4, rfl, hj, o4, hb4⟩
  refine hK.out _ _ (Or.inr ((hS.get (by kernel_rfl)).trans (Ext.below hb4))) (fun hS0 => ?_)
  clear hK Kont
  try simp only [Act.put, List.setIfInBounds_toArray, List.set_cons_zero, List.set_cons_succ]
  clear hS
  have hS := hS0
  clear hS0
  have hv4 := SV.below (w := w3.drew) hv hb4
  have hx4 := Sx.below (w := w3.drew) hx hb4
  have hkey4 := SV.below (w := w3.drew) hkey hb4
  have hw4 := Below.then hw.drew hb4
  obtain ⟨a4, c4, rfl, rv4⟩ := o4.rvs
  clear hv hx hkey hw hb4 o4 hr c0 c1 c2 c3 hfs
  refine ready_g (rs := [4]) (by kernel_rfl) (by simp) ?_
  refine AllReadyG.cons rfl (fun Kont hK => ?_) AllReadyG.nil
  go_simp
  refine (osort_any A N C ts K m g a4 j c4 fs w4 hv4 hN1 hK1 hty.out rv4 (by omega) hF).mono ?_
  rintro e w5 ⟨gs, rfl, rv5, -, hb5⟩
  refine hK.out _ _ (Or.inl (by kernel_rfl)) (fun hS0 => ?_)
  clear hK Kont
  try simp only [Act.put, List.setIfInBounds_toArray, List.set_cons_zero, List.set_cons_succ]
  clear hS
  have hS := hS0
  clear hS0
  refine take_w (i := 5) (v := ?_) (some 9) rfl (by kernel_rfl) rfl (fun _ _ _ h => h) (Or.inl ⟨by rfl, ?_⟩) hS ?_
  rotate_left
  · (intro wq hq; go_simp); first | done | with_reducible rfl
  try simp only [Act.put, List.setIfInBounds_toArray, List.set_cons_zero, List.set_cons_succ]
  replace hS := Till.list 5 hS
  refine done_g (by kernel_rfl) (NoPanic.normal ?_) _
  clear hS
  have hv5 := hv4.below hb5
  have hx5 := hx4.below hb5
  have hkey5 := hkey4.below hb5
  have hw5 := Below.then hw4 hb5
  have HI : Hid (InA (cN ts K) (sortA (cN ts K) fs) ∧ ∀ v ∈ sortA (cN ts K) fs, FR ts v) := ⟨sortA_in (cN_ord hty.out K).a _, sorted_fr hF⟩
  clear hv4 hx4 hkey4 hw4 hb5 rv4 hF hfl
  generalize sortA (cN ts K) fs = l at *
  have hll := Lib.hid rv5.1
  obtain ⟨c0, c1, c2, c3⟩ := id hx5
  go_wp2_with fail
  clear c0 c1 c2 c3
  refine (rfit_any A N C ts K m g Rk nk ck kv _ hv5 (by omega) hkey5 hnk).mono ?_
  rintro e w6 ⟨a6, c6, rfl, o6, hb6⟩
  obtain ⟨_, _, hA, hc61, hc62, wk, -⟩ := o6.sv
  cases hA
  have hv6 := hv5.below hb6
  have hx6 := hx5.below hb6
  have rv6 := rv5.below hb6
  have hw6 := Below.then hw5 hb6
  have hfu : FR ts (fitR ts kv) := FR.fit hty.out hgk
  clear hv5 hx5 rv5 hw5 hb6 o6 hkey5
  generalize fitR ts kv = u at *
  have HKV := Lib.hid (KeyV.whole K hfu)
  have HCK := Lib.hid (cutK hty.out HKV.out HI.out.1 HI.out.2)
  have HG := Lib.hid (RgV.of hfu)
  clear hfu
  obtain ⟨c0, c1, c2, c3⟩ := id hx6
  go_wp2_with fail
  clear c0 c1 c2 c3
  refine (obelow_any A N C ts K m g _ j j l a6 N c6 u _ hv6 hN1 rv6 (by omega) wk hN1 hK1 (fun x y q1 q2 => (up_key hty.out HKV.out HI.out.1 HI.out.2 x y q1 (by rw [hll.out]; exact q2)).1)).mono ?_
  rintro e w7 ⟨rfl, hb7⟩
  have hv7 := hv6.below hb7
  have hx7 := hx6.below hb7
  have rv7 := rv6.below hb7
  have wk7 := wk.below hb7
  have hw7 := Below.then hw6 hb7
  clear hv6 hx6 rv6 hw6 hb7 wk
  obtain ⟨c0, c1, c2, c3⟩ := id hx7
  go_wp2_with fail
  clear c0 c1 c2 c3
  refine (oupto_any A N C ts K m g _ j j l a6 N c6 u _ hv7 hN1 rv7 (by omega) wk7 hN1 hK1 (fun x y q1 q2 => (up_key hty.out HKV.out HI.out.1 HI.out.2 x y q1 (by rw [hll.out]; exact q2)).2)).mono ?_
  rintro e w8 ⟨rfl, hb8⟩
  have hv8 := hv7.below hb8
  have hx8 := hx7.below hb8
  have rv8 := rv7.below hb8
  have wk8 := wk7.below hb8
  have hw8 := Below.then hw7 hb8
  clear hv7 hx7 rv7 hw7 hb8 wk7
  generalize countA (fun r => decide (cR (ts.take K) r u < 0)) l = n0 at *
  generalize countA (fun r => decide (cR (ts.take K) r u ≤ 0)) l = m0 at *
  have hnm := HCK.out.le
  rw [hll.out] at hnm
  have k1 : ¬ (m0 : Int) < (n0 : Int) := by omega
  have k2 : ¬ (j : Int) < (m0 : Int) := by omega
  have k3 : ¬ (n0 : Int) < 0 := by omega
  go_upto_region 7 with fail
  obtain ⟨wv, hwv⟩ : ∃ wv : World, wv = w8 := ⟨_, rfl⟩
  rw [← hwv] at hv8 hx8 rv8 wk8 hw8 ⊢
  clear hwv
  go_cut [48] (fun v wx => v = .bool false ∧ wx = wv)
  case first =>
    go_wp2_with fail
    go_meet
    exact ⟨by simp; omega, rfl⟩
  case rest =>
  obtain ⟨rfl, hwc⟩ := hcut
  rw [← hwc] at hv8 hx8 rv8 wk8 hw8
  clear hwc k1 k2 k3
  generalize wc = w8 at *
  obtain ⟨ls, hs, hlm, hpl⟩ := rv8.pairs
  have HLM := Lib.hid hlm
  have HPL := Lib.hid hpl
  obtain ⟨x, hx0⟩ : ∃ x : P9, ((a6, N, c6), u) = x := ⟨_, rfl⟩
  have hxr : RowAt w8 (sV x.1) x.2 := by rw [← hx0]; show RowAt w8 (.slice a6 N c6) u; exact RowAt.of wk8 (by have := hkk.out; have := hlt.out; omega) hc61 hc62
  have e6 : Value.slice a6 N c6 = sV x.1 := by rw [← hx0]
  have hu : x.2 = u := by rw [← hx0]
  have HXU := Lib.hid hu
  have HXR := Lib.hid hxr
  clear hlm hpl hx0 hxr hu rv8 wk8
  have HPL2 : Hid (sortA (cN ts K) (l ++ [u]) = l.take m0 ++ u :: l.drop m0 ∧ sortA (cN ts K) (u :: l) = l.take n0 ++ u :: l.drop n0) := by
    have q := placeK hty.out HKV.out.fr HI.out.1 HI.out.2 HCK.out
    exact ⟨q.behind, q.ahead⟩
  have hjl : Hid (ls.length = j) := by have := hs.1; rw [pc_len] at this; show ls.length = j; omega
  go_wp2_with fail
  rw [e6]
  clear e6
  generalize hwb : w8 = wb at *
  clear hwb
  obtain ⟨a1, hs1, vk⟩ := SV.slice_hi sl_rows hs m0 j (by omega) (Nat.le_refl _)
  obtain ⟨a2, hs2, vd⟩ := SV.slice_lo sl_rows hs m0 j (by omega) (Nat.le_refl _)
  rw [Nat.mul_one, ← pc_take] at vk
  rw [Nat.mul_one, ← pc_drop] at vd
  have k1 : m0 ≤ j := by omega
  go_cut [13] (fun v wx => OS 1 wx wb.heap.size v (j + 1) (pc (ls.take m0 ++ [x] ++ ls.drop m0)) ∧ Below wb.heap.size wb wx)
  case first =>
    refine wp_region_noPanic ?_
    refine region_g 7 (Ext (World.drew _)) (by kernel_rfl) (Ext.refl _) (fun hS => ?_)
    refine take_w (i := 1) (v := ?_) (some 50) rfl (by kernel_rfl) rfl (fun _ _ _ h => h) (Or.inl ⟨by rfl, ?_⟩) hS ?_
    rotate_left
    · (intro wq hq; go_simp); first | done | with_reducible rfl
    try simp only [Act.put, List.setIfInBounds_toArray, List.set_cons_zero, List.set_cons_succ]
    replace hS := Till.list 1 hS
    refine take_w (i := 2) (v := ?_) (some 51) rfl (by kernel_rfl) rfl (fun _ _ _ h => h) (Or.inl ⟨by rfl, ?_⟩) hS ?_
    rotate_left
    · (intro wq hq; go_simp); first | done | with_reducible rfl
    try simp only [Act.put, List.setIfInBounds_toArray, List.set_cons_zero, List.set_cons_succ]
    replace hS := Till.list 2 hS
    refine take_w (i := 5) (v := ?_) (some 54) rfl (by kernel_rfl) rfl (fun _ _ _ h => h) (Or.inl ⟨by rfl, ?_⟩) hS ?_
    rotate_left
    · (intro wq hq; go_simp); first | done | with_reducible rfl
    try simp only [Act.put, List.setIfInBounds_toArray, List.set_cons_zero, List.set_cons_succ]
    replace hS := Till.list 5 hS
    refine take_w (i := 8) (v := ?_) (some 57) rfl (by kernel_rfl) rfl (fun _ _ _ h => h) (Or.inl ⟨by rfl, ?_⟩) hS ?_
    rotate_left
    · (intro wq hq; go_simp); first | done | with_reducible rfl
    try simp only [Act.put, List.setIfInBounds_toArray, List.set_cons_zero, List.set_cons_succ]
    replace hS := Till.list 8 hS
    refine take_w (i := 9) (v := ?_) (some 58) rfl (by kernel_rfl) rfl (fun _ _ _ h => h) (Or.inl ⟨by rfl, ?_⟩) hS ?_
    rotate_left
    · (intro wq hq; go_simp); first | done | with_reducible rfl
    try simp only [Act.put, List.setIfInBounds_toArray, List.set_cons_zero, List.set_cons_succ]
    replace hS := Till.list 9 hS
    refine take_w (i := 3) (v := ?_) (some 52) rfl (by kernel_rfl) rfl (fun _ _ _ h => h) (Or.inl ⟨by rfl, ?_⟩) hS ?_
    rotate_left
    · (intro wq hq; go_simp); first | done | with_reducible rfl
    try simp only [Act.put, List.setIfInBounds_toArray, List.set_cons_zero, List.set_cons_succ]
    replace hS := Till.list 3 hS
    refine take_w (i := 10) (v := ?_) (some 59) rfl (by kernel_rfl) rfl (fun _ _ _ h => h) (Or.inl ⟨by rfl, ?_⟩) hS ?_
    rotate_left
    · (intro wq hq; go_simp); first | done | with_reducible rfl
    try simp only [Act.put, List.setIfInBounds_toArray, List.set_cons_zero, List.set_cons_succ]
    replace hS := Till.list 10 hS
    refine ready_g (rs := [0, 6]) (by kernel_rfl) (by simp) ?_
    refine (AllReadyG.cons rfl (fun Kont hK => ?_) (AllReadyG.cons rfl (fun Kont hK => ?_) AllReadyG.nil))
    · skip
      go_simp
      refine hK.out _ _ (Or.inr ((hS.get (by kernel_rfl)).alloc _)) (fun hS0 => ?_)
      clear hK Kont
      try simp only [Act.put, List.setIfInBounds_toArray, List.set_cons_zero, List.set_cons_succ]
      clear hS
      have hS := hS0
      clear hS0
      refine ready_g (rs := [4, 6]) (by kernel_rfl) (by simp) ?_
      refine (AllReadyG.cons rfl (fun Kont hK => ?_) (AllReadyG.cons rfl (fun Kont hK => ?_) AllReadyG.nil))
      · skip
        refine want (by kernel_rfl) ?_
        refine wp_append_os2 el_rows (some 53) rfl (.tmp 49) (.tmp 52) rfl wb.heap.size _ 0 [] rfl (OS.lit (k := 1) wb.drew wb.heap.size (Nat.le_refl _) [] 0 27 rfl (by simp) (by simp) _ rfl) _ m0 _ _ rfl (vk.drew.alloc _) (by omega) (by omega) (by simp <;> omega) ?_
        intro v4 w4 ho4 hb4 _ hk4
        have hbW : Below wb.heap.size wb w4 := ((Below.refl _ _).alloc (Nat.le_refl _) _).drew.trans hb4
        rw [Nat.zero_add, List.nil_append] at ho4
        refine hK.out _ _ (Or.inr (((hS.get (by kernel_rfl)).low hb4 (Nat.le_refl _)))) (fun hS0 => ?_)
        clear hK Kont
        try simp only [Act.put, List.setIfInBounds_toArray, List.set_cons_zero, List.set_cons_succ]
        clear hS
        have hS := hS0
        clear hS0
        refine ready_g (rs := [6]) (by kernel_rfl) (by simp) ?_
        refine AllReadyG.cons rfl (fun Kont hK => ?_) AllReadyG.nil
        go_simp
        have s6 := SV.lit' (k := 1) w4 [sV x.1] 1 27 rfl (by simp [Value.oneCell']) w4.heap.size rfl
        replace hbW := hbW.alloc hbW.size (.cells #[sV x.1] 27)
        replace ho4 := ho4.alloc (.cells #[sV x.1] 27)
        refine hK.out _ _ (Or.inr ((hS.get (by kernel_rfl)).alloc _)) (fun hS0 => ?_)
        clear hK Kont
        try simp only [Act.put, List.setIfInBounds_toArray, List.set_cons_zero, List.set_cons_succ]
        clear hS
        have hS := hS0
        clear hS0
        refine ready_g (rs := [7]) (by kernel_rfl) (by simp) ?_
        refine AllReadyG.cons rfl (fun Kont hK => ?_) AllReadyG.nil
        refine want (by kernel_rfl) ?_
        refine wp_append_os el_rows (some 56) rfl (.tmp 53) (.tmp 55) rfl wb.heap.size _ m0 (pc (ls.take m0)) rfl ho4 _ 1 1 _ rfl s6 (by omega) (by omega) hbW.size ?_
        intro v5 w5 ho5 hb5
        replace hbW := hbW.trans hb5
        replace vd := vd.below hbW
        rw [show pc (ls.take m0) ++ [sV x.1] = pc (ls.take m0 ++ [x]) by rw [pc_app]; rfl] at ho5
        clear ho4 hb5 s6
        refine hK.out _ _ (Or.inl (by kernel_rfl)) (fun hS0 => ?_)
        clear hK Kont
        try simp only [Act.put, List.setIfInBounds_toArray, List.set_cons_zero, List.set_cons_succ]
        clear hS
        have hS := hS0
        clear hS0
        refine ready_g (rs := [11]) (by kernel_rfl) (by simp) ?_
        refine AllReadyG.cons rfl (fun Kont hK => ?_) AllReadyG.nil
        refine want (by kernel_rfl) ?_
        refine wp_append_os el_rows (some 60) rfl (.tmp 56) (.tmp 59) rfl wb.heap.size _ (m0 + 1) _ rfl ho5 a2 (j - m0) (j - m0) _ rfl vd (by omega) (by omega) hbW.size ?_
        intro v6 w6 ho6 hb6
        replace hbW := hbW.trans hb6
        rw [← pc_app, show m0 + 1 + (j - m0) = j + 1 by omega] at ho6
        clear ho5 hb6 vd
        refine hK.out _ _ (Or.inl (by kernel_rfl)) (fun hS0 => ?_)
        clear hK Kont
        try simp only [Act.put, List.setIfInBounds_toArray, List.set_cons_zero, List.set_cons_succ]
        clear hS
        have hS := hS0
        clear hS0
        refine take_w (i := 12) (v := ?_) (some 13) rfl (by kernel_rfl) rfl (fun _ _ _ h => h) (Or.inl ⟨by rfl, ?_⟩) hS ?_
        rotate_left
        · (intro wq hq; go_simp); first | done | with_reducible rfl
        try simp only [Act.put, List.setIfInBounds_toArray, List.set_cons_zero, List.set_cons_succ]
        replace hS := Till.list 12 hS
        refine done_g (by kernel_rfl) (NoPanic.normal ?_) _
        clear hS
        go_wp2_with fail
        go_meet
        exact ⟨ho6, hbW⟩
      · skip
        go_simp
        refine hK.out _ _ (Or.inr ((hS.get (by kernel_rfl)).alloc _)) (fun hS0 => ?_)
        clear hK Kont
        try simp only [Act.put, List.setIfInBounds_toArray, List.set_cons_zero, List.set_cons_succ]
        clear hS
        have hS := hS0
        clear hS0
        refine ready_g (rs := [4]) (by kernel_rfl) (by simp) ?_
        refine AllReadyG.cons rfl (fun Kont hK => ?_) AllReadyG.nil
        refine want (by kernel_rfl) ?_
        refine wp_append_os2 el_rows (some 53) rfl (.tmp 49) (.tmp 52) rfl wb.heap.size _ 0 [] rfl ((OS.lit (k := 1) wb.drew wb.heap.size (Nat.le_refl _) [] 0 27 rfl (by simp) (by simp) _ rfl).alloc _) _ m0 _ _ rfl ((vk.drew.alloc _).alloc _) (by omega) (by omega) (by simp <;> omega) ?_
        intro v4 w4 ho4 hb4 _ hk4
        have hbW : Below wb.heap.size wb w4 := (((Below.refl _ _).alloc (Nat.le_refl _) _).alloc (by simp) _).drew.trans hb4
        rw [Nat.zero_add, List.nil_append] at ho4
        have s6 := SV.lit' (k := 1) (wb.alloc (.cells #[] 27)) [sV x.1] 1 27 rfl (by simp [Value.oneCell']) (wb.heap.size + 1) (by simp)
        replace s6 := SV.other (SV.drew s6) (fun y hy hlt => hk4 y.block hlt (fun e => by cases hy; have e' : some wb.heap.size = some (wb.heap.size + 1) := e; simp at e'))
        clear hk4
        refine hK.out _ _ (Or.inr (((hS.get (by kernel_rfl)).low hb4 (Nat.le_refl _)))) (fun hS0 => ?_)
        clear hK Kont
        try simp only [Act.put, List.setIfInBounds_toArray, List.set_cons_zero, List.set_cons_succ]
        clear hS
        have hS := hS0
        clear hS0
        refine ready_g (rs := [7]) (by kernel_rfl) (by simp) ?_
        refine AllReadyG.cons rfl (fun Kont hK => ?_) AllReadyG.nil
        refine want (by kernel_rfl) ?_
        refine wp_append_os el_rows (some 56) rfl (.tmp 53) (.tmp 55) rfl wb.heap.size _ m0 (pc (ls.take m0)) rfl ho4 _ 1 1 _ rfl s6 (by omega) (by omega) hbW.size ?_
        intro v5 w5 ho5 hb5
        replace hbW := hbW.trans hb5
        replace vd := vd.below hbW
        rw [show pc (ls.take m0) ++ [sV x.1] = pc (ls.take m0 ++ [x]) by rw [pc_app]; rfl] at ho5
        clear ho4 hb5 s6
        refine hK.out _ _ (Or.inl (by kernel_rfl)) (fun hS0 => ?_)
        clear hK Kont
        try simp only [Act.put, List.setIfInBounds_toArray, List.set_cons_zero, List.set_cons_succ]
        clear hS
        have hS := hS0
        clear hS0
        refine ready_g (rs := [11]) (by kernel_rfl) (by simp) ?_
        refine AllReadyG.cons rfl (fun Kont hK => ?_) AllReadyG.nil
        refine want (by kernel_rfl) ?_
        refine wp_append_os el_rows (some 60) rfl (.tmp 56) (.tmp 59) rfl wb.heap.size _ (m0 + 1) _ rfl ho5 a2 (j - m0) (j - m0) _ rfl vd (by omega) (by omega) hbW.size ?_
        intro v6 w6 ho6 hb6
        replace hbW := hbW.trans hb6
        rw [← pc_app, show m0 + 1 + (j - m0) = j + 1 by omega] at ho6
        clear ho5 hb6 vd
        refine hK.out _ _ (Or.inl (by kernel_rfl)) (fun hS0 => ?_)
        clear hK Kont
        try simp only [Act.put, List.setIfInBounds_toArray, List.set_cons_zero, List.set_cons_succ]
        clear hS
        have hS := hS0
        clear hS0
        refine take_w (i := 12) (v := ?_) (some 13) rfl (by kernel_rfl) rfl (fun _ _ _ h => h) (Or.inl ⟨by rfl, ?_⟩) hS ?_
        rotate_left
        · (intro wq hq; go_simp); first | done | with_reducible rfl
        try simp only [Act.put, List.setIfInBounds_toArray, List.set_cons_zero, List.set_cons_succ]
        replace hS := Till.list 12 hS
        refine done_g (by kernel_rfl) (NoPanic.normal ?_) _
        clear hS
        go_wp2_with fail
        go_meet
        exact ⟨ho6, hbW⟩
    · skip
      go_simp
      refine hK.out _ _ (Or.inr ((hS.get (by kernel_rfl)).alloc _)) (fun hS0 => ?_)
      clear hK Kont
      try simp only [Act.put, List.setIfInBounds_toArray, List.set_cons_zero, List.set_cons_succ]
      clear hS
      have hS := hS0
      clear hS0
      refine ready_g (rs := [0]) (by kernel_rfl) (by simp) ?_
      refine AllReadyG.cons rfl (fun Kont hK => ?_) AllReadyG.nil
      go_simp
      refine hK.out _ _ (Or.inr ((hS.get (by kernel_rfl)).alloc _)) (fun hS0 => ?_)
      clear hK Kont
      try simp only [Act.put, List.setIfInBounds_toArray, List.set_cons_zero, List.set_cons_succ]
      clear hS
      have hS := hS0
      clear hS0
      refine ready_g (rs := [4]) (by kernel_rfl) (by simp) ?_
      refine AllReadyG.cons rfl (fun Kont hK => ?_) AllReadyG.nil
      refine want (by kernel_rfl) ?_
      refine wp_append_os2 el_rows (some 53) rfl (.tmp 49) (.tmp 52) rfl wb.heap.size _ 0 [] rfl (OS.lit (k := 1) (wb.alloc (.cells #[sV x.1] 27)) wb.heap.size (by simp) [] 0 27 rfl (by simp) (by simp) _ (by simp)) _ m0 _ _ rfl ((vk.drew.alloc _).alloc _) (by omega) (by omega) (by simp <;> omega) ?_
      intro v4 w4 ho4 hb4 _ hk4
      have hbW : Below wb.heap.size wb w4 := (((Below.refl _ _).alloc (Nat.le_refl _) _).alloc (by simp) _).drew.trans hb4
      rw [Nat.zero_add, List.nil_append] at ho4
      have s6 := SV.other (SV.drew (SV.alloc (SV.lit' (k := 1) wb [sV x.1] 1 27 rfl (by simp [Value.oneCell']) wb.heap.size rfl) (.cells #[] 27))) (fun y hy hlt => hk4 y.block hlt (fun e => by cases hy; have e' : some (wb.heap.size + 1) = some wb.heap.size := e; simp at e'))
      clear hk4
      refine hK.out _ _ (Or.inr (((hS.get (by kernel_rfl)).low hb4 (Nat.le_refl _)))) (fun hS0 => ?_)
      clear hK Kont
      try simp only [Act.put, List.setIfInBounds_toArray, List.set_cons_zero, List.set_cons_succ]
      clear hS
      have hS := hS0
      clear hS0
      refine ready_g (rs := [7]) (by kernel_rfl) (by simp) ?_
      refine AllReadyG.cons rfl (fun Kont hK => ?_) AllReadyG.nil
      refine want (by kernel_rfl) ?_
      refine wp_append_os el_rows (some 56) rfl (.tmp 53) (.tmp 55) rfl wb.heap.size _ m0 (pc (ls.take m0)) rfl ho4 _ 1 1 _ rfl s6 (by omega) (by omega) hbW.size ?_
      intro v5 w5 ho5 hb5
      replace hbW := hbW.trans hb5
      replace vd := vd.below hbW
      rw [show pc (ls.take m0) ++ [sV x.1] = pc (ls.take m0 ++ [x]) by rw [pc_app]; rfl] at ho5
      clear ho4 hb5 s6
      refine hK.out _ _ (Or.inl (by kernel_rfl)) (fun hS0 => ?_)
      clear hK Kont
      try simp only [Act.put, List.setIfInBounds_toArray, List.set_cons_zero, List.set_cons_succ]
      clear hS
      have hS := hS0
      clear hS0
      refine ready_g (rs := [11]) (by kernel_rfl) (by simp) ?_
      refine AllReadyG.cons rfl (fun Kont hK => ?_) AllReadyG.nil
      refine want (by kernel_rfl) ?_
      refine wp_append_os el_rows (some 60) rfl (.tmp 56) (.tmp 59) rfl wb.heap.size _ (m0 + 1) _ rfl ho5 a2 (j - m0) (j - m0) _ rfl vd (by omega) (by omega) hbW.size ?_
      intro v6 w6 ho6 hb6
      replace hbW := hbW.trans hb6
      rw [← pc_app, show m0 + 1 + (j - m0) = j + 1 by omega] at ho6
      clear ho5 hb6 vd
      refine hK.out _ _ (Or.inl (by kernel_rfl)) (fun hS0 => ?_)
      clear hK Kont
      try simp only [Act.put, List.setIfInBounds_toArray, List.set_cons_zero, List.set_cons_succ]
      clear hS
      have hS := hS0
      clear hS0
      refine take_w (i := 12) (v := ?_) (some 13) rfl (by kernel_rfl) rfl (fun _ _ _ h => h) (Or.inl ⟨by rfl, ?_⟩) hS ?_
      rotate_left
      · (intro wq hq; go_simp); first | done | with_reducible rfl
      try simp only [Act.put, List.setIfInBounds_toArray, List.set_cons_zero, List.set_cons_succ]
      replace hS := Till.list 12 hS
      refine done_g (by kernel_rfl) (NoPanic.normal ?_) _
      clear hS
      go_wp2_with fail
      go_meet
      exact ⟨ho6, hbW⟩
  case rest =>
  obtain ⟨ho9, hb9⟩ := hcut
  obtain ⟨aB, cB, rfl, -, -, svB, -⟩ := OS.sv ho9
  have hs9 := hs.below hb9
  have hpl9 := Lib.hid (PR.below HPL.out hb9)
  have hxr9 := Lib.hid (RowAt.below HXR.out hb9)
  have hv9 := hv8.below hb9
  have hx9 := hx8.below hb9
  have hw9 := Below.then hw8 hb9
  clear ho9 hb9 hs hv8 hx8 hw8 hs1 hs2 vk vd k1 HPL HXR
  have HPL := hpl9
  have HXR := hxr9
  have hs := hs9
  clear hpl9 hxr9 hs9
  clear wb
  go_wp2_with fail
  generalize wc = wb at *
  clear wc
  obtain ⟨a1, hs1, vk⟩ := SV.slice_hi sl_rows hs n0 j (by omega) (Nat.le_refl _)
  obtain ⟨a2, hs2, vd⟩ := SV.slice_lo sl_rows hs n0 j (by omega) (Nat.le_refl _)
  rw [Nat.mul_one, ← pc_take] at vk
  rw [Nat.mul_one, ← pc_drop] at vd
  have k1 : n0 ≤ j := by omega
  go_cut [14] (fun v wx => OS 1 wx wb.heap.size v (j + 1) (pc (ls.take n0 ++ [x] ++ ls.drop n0)) ∧ Below wb.heap.size wb wx)
  case first =>
    refine wp_region_noPanic ?_
    refine region_g 7 (Ext (World.drew _)) (by kernel_rfl) (Ext.refl _) (fun hS => ?_)
    refine take_w (i := 1) (v := ?_) (some 62) rfl (by kernel_rfl) rfl (fun _ _ _ h => h) (Or.inl ⟨by rfl, ?_⟩) hS ?_
    rotate_left
    · (intro wq hq; go_simp); first | done | with_reducible rfl
    try simp only [Act.put, List.setIfInBounds_toArray, List.set_cons_zero, List.set_cons_succ]
    replace hS := Till.list 1 hS
    refine take_w (i := 2) (v := ?_) (some 63) rfl (by kernel_rfl) rfl (fun _ _ _ h => h) (Or.inl ⟨by rfl, ?_⟩) hS ?_
    rotate_left
    · (intro wq hq; go_simp); first | done | with_reducible rfl
    try simp only [Act.put, List.setIfInBounds_toArray, List.set_cons_zero, List.set_cons_succ]
    replace hS := Till.list 2 hS
    refine take_w (i := 5) (v := ?_) (some 66) rfl (by kernel_rfl) rfl (fun _ _ _ h => h) (Or.inl ⟨by rfl, ?_⟩) hS ?_
    rotate_left
    · (intro wq hq; go_simp); first | done | with_reducible rfl
    try simp only [Act.put, List.setIfInBounds_toArray, List.set_cons_zero, List.set_cons_succ]
    replace hS := Till.list 5 hS
    refine take_w (i := 8) (v := ?_) (some 69) rfl (by kernel_rfl) rfl (fun _ _ _ h => h) (Or.inl ⟨by rfl, ?_⟩) hS ?_
    rotate_left
    · (intro wq hq; go_simp); first | done | with_reducible rfl
    try simp only [Act.put, List.setIfInBounds_toArray, List.set_cons_zero, List.set_cons_succ]
    replace hS := Till.list 8 hS
    refine take_w (i := 9) (v := ?_) (some 70) rfl (by kernel_rfl) rfl (fun _ _ _ h => h) (Or.inl ⟨by rfl, ?_⟩) hS ?_
    rotate_left
    · (intro wq hq; go_simp); first | done | with_reducible rfl
    try simp only [Act.put, List.setIfInBounds_toArray, List.set_cons_zero, List.set_cons_succ]
    replace hS := Till.list 9 hS
    refine take_w (i := 3) (v := ?_) (some 64) rfl (by kernel_rfl) rfl (fun _ _ _ h => h) (Or.inl ⟨by rfl, ?_⟩) hS ?_
    rotate_left
    · (intro wq hq; go_simp); first | done | with_reducible rfl
    try simp only [Act.put, List.setIfInBounds_toArray, List.set_cons_zero, List.set_cons_succ]
    replace hS := Till.list 3 hS
    refine take_w (i := 10) (v := ?_) (some 71) rfl (by kernel_rfl) rfl (fun _ _ _ h => h) (Or.inl ⟨by rfl, ?_⟩) hS ?_
    rotate_left
    · (intro wq hq; go_simp); first | done | with_reducible rfl
    try simp only [Act.put, List.setIfInBounds_toArray, List.set_cons_zero, List.set_cons_succ]
    replace hS := Till.list 10 hS
    refine ready_g (rs := [0, 6]) (by kernel_rfl) (by simp) ?_
    refine (AllReadyG.cons rfl (fun Kont hK => ?_) (AllReadyG.cons rfl (fun Kont hK => ?_) AllReadyG.nil))
    · skip
      go_simp
      refine hK.out _ _ (Or.inr ((hS.get (by kernel_rfl)).alloc _)) (fun hS0 => ?_)
      clear hK Kont
      try simp only [Act.put, List.setIfInBounds_toArray, List.set_cons_zero, List.set_cons_succ]
      clear hS
      have hS := hS0
      clear hS0
      refine ready_g (rs := [4, 6]) (by kernel_rfl) (by simp) ?_
      refine (AllReadyG.cons rfl (fun Kont hK => ?_) (AllReadyG.cons rfl (fun Kont hK => ?_) AllReadyG.nil))
      · skip
        refine want (by kernel_rfl) ?_
        refine wp_append_os2 el_rows (some 65) rfl (.tmp 61) (.tmp 64) rfl wb.heap.size _ 0 [] rfl (OS.lit (k := 1) wb.drew wb.heap.size (Nat.le_refl _) [] 0 27 rfl (by simp) (by simp) _ rfl) _ n0 _ _ rfl (vk.drew.alloc _) (by omega) (by omega) (by simp <;> omega) ?_
        intro v4 w4 ho4 hb4 _ hk4
        have hbW : Below wb.heap.size wb w4 := ((Below.refl _ _).alloc (Nat.le_refl _) _).drew.trans hb4
        rw [Nat.zero_add, List.nil_append] at ho4
        refine hK.out _ _ (Or.inr (((hS.get (by kernel_rfl)).low hb4 (Nat.le_refl _)))) (fun hS0 => ?_)
        clear hK Kont
        try simp only [Act.put, List.setIfInBounds_toArray, List.set_cons_zero, List.set_cons_succ]
        clear hS
        have hS := hS0
        clear hS0
        refine ready_g (rs := [6]) (by kernel_rfl) (by simp) ?_
        refine AllReadyG.cons rfl (fun Kont hK => ?_) AllReadyG.nil
        go_simp
        have s6 := SV.lit' (k := 1) w4 [sV x.1] 1 27 rfl (by simp [Value.oneCell']) w4.heap.size rfl
        replace hbW := hbW.alloc hbW.size (.cells #[sV x.1] 27)
        replace ho4 := ho4.alloc (.cells #[sV x.1] 27)
        refine hK.out _ _ (Or.inr ((hS.get (by kernel_rfl)).alloc _)) (fun hS0 => ?_)
        clear hK Kont
        try simp only [Act.put, List.setIfInBounds_toArray, List.set_cons_zero, List.set_cons_succ]
        clear hS
        have hS := hS0
        clear hS0
        refine ready_g (rs := [7]) (by kernel_rfl) (by simp) ?_
        refine AllReadyG.cons rfl (fun Kont hK => ?_) AllReadyG.nil
        refine want (by kernel_rfl) ?_
        refine wp_append_os el_rows (some 68) rfl (.tmp 65) (.tmp 67) rfl wb.heap.size _ n0 (pc (ls.take n0)) rfl ho4 _ 1 1 _ rfl s6 (by omega) (by omega) hbW.size ?_
        intro v5 w5 ho5 hb5
        replace hbW := hbW.trans hb5
        replace vd := vd.below hbW
        rw [show pc (ls.take n0) ++ [sV x.1] = pc (ls.take n0 ++ [x]) by rw [pc_app]; rfl] at ho5
        clear ho4 hb5 s6
        refine hK.out _ _ (Or.inl (by kernel_rfl)) (fun hS0 => ?_)
        clear hK Kont
        try simp only [Act.put, List.setIfInBounds_toArray, List.set_cons_zero, List.set_cons_succ]
        clear hS
        have hS := hS0
        clear hS0
        refine ready_g (rs := [11]) (by kernel_rfl) (by simp) ?_
        refine AllReadyG.cons rfl (fun Kont hK => ?_) AllReadyG.nil
        refine want (by kernel_rfl) ?_
        refine wp_append_os el_rows (some 72) rfl (.tmp 68) (.tmp 71) rfl wb.heap.size _ (n0 + 1) _ rfl ho5 a2 (j - n0) (j - n0) _ rfl vd (by omega) (by omega) hbW.size ?_
        intro v6 w6 ho6 hb6
        replace hbW := hbW.trans hb6
        rw [← pc_app, show n0 + 1 + (j - n0) = j + 1 by omega] at ho6
        clear ho5 hb6 vd
        refine hK.out _ _ (Or.inl (by kernel_rfl)) (fun hS0 => ?_)
        clear hK Kont
        try simp only [Act.put, List.setIfInBounds_toArray, List.set_cons_zero, List.set_cons_succ]
        clear hS
        have hS := hS0
        clear hS0
        refine take_w (i := 12) (v := ?_) (some 14) rfl (by kernel_rfl) rfl (fun _ _ _ h => h) (Or.inl ⟨by rfl, ?_⟩) hS ?_
        rotate_left
        · (intro wq hq; go_simp); first | done | with_reducible rfl
        try simp only [Act.put, List.setIfInBounds_toArray, List.set_cons_zero, List.set_cons_succ]
        replace hS := Till.list 12 hS
        refine done_g (by kernel_rfl) (NoPanic.normal ?_) _
        clear hS
        go_wp2_with fail
        go_meet
        exact ⟨ho6, hbW⟩
      · skip
        go_simp
        refine hK.out _ _ (Or.inr ((hS.get (by kernel_rfl)).alloc _)) (fun hS0 => ?_)
        clear hK Kont
        try simp only [Act.put, List.setIfInBounds_toArray, List.set_cons_zero, List.set_cons_succ]
        clear hS
        have hS := hS0
        clear hS0
        refine ready_g (rs := [4]) (by kernel_rfl) (by simp) ?_
        refine AllReadyG.cons rfl (fun Kont hK => ?_) AllReadyG.nil
        refine want (by kernel_rfl) ?_
        refine wp_append_os2 el_rows (some 65) rfl (.tmp 61) (.tmp 64) rfl wb.heap.size _ 0 [] rfl ((OS.lit (k := 1) wb.drew wb.heap.size (Nat.le_refl _) [] 0 27 rfl (by simp) (by simp) _ rfl).alloc _) _ n0 _ _ rfl ((vk.drew.alloc _).alloc _) (by omega) (by omega) (by simp <;> omega) ?_
        intro v4 w4 ho4 hb4 _ hk4
        have hbW : Below wb.heap.size wb w4 := (((Below.refl _ _).alloc (Nat.le_refl _) _).alloc (by simp) _).drew.trans hb4
        rw [Nat.zero_add, List.nil_append] at ho4
        have s6 := SV.lit' (k := 1) (wb.alloc (.cells #[] 27)) [sV x.1] 1 27 rfl (by simp [Value.oneCell']) (wb.heap.size + 1) (by simp)
        replace s6 := SV.other (SV.drew s6) (fun y hy hlt => hk4 y.block hlt (fun e => by cases hy; have e' : some wb.heap.size = some (wb.heap.size + 1) := e; simp at e'))
        clear hk4
        refine hK.out _ _ (Or.inr (((hS.get (by kernel_rfl)).low hb4 (Nat.le_refl _)))) (fun hS0 => ?_)
        clear hK Kont
        try simp only [Act.put, List.setIfInBounds_toArray, List.set_cons_zero, List.set_cons_succ]
        clear hS
        have hS := hS0
        clear hS0
        refine ready_g (rs := [7]) (by kernel_rfl) (by simp) ?_
        refine AllReadyG.cons rfl (fun Kont hK => ?_) AllReadyG.nil
        refine want (by kernel_rfl) ?_
        refine wp_append_os el_rows (some 68) rfl (.tmp 65) (.tmp 67) rfl wb.heap.size _ n0 (pc (ls.take n0)) rfl ho4 _ 1 1 _ rfl s6 (by omega) (by omega) hbW.size ?_
        intro v5 w5 ho5 hb5
        replace hbW := hbW.trans hb5
        replace vd := vd.below hbW
        rw [show pc (ls.take n0) ++ [sV x.1] = pc (ls.take n0 ++ [x]) by rw [pc_app]; rfl] at ho5
        clear ho4 hb5 s6
        refine hK.out _ _ (Or.inl (by kernel_rfl)) (fun hS0 => ?_)
        clear hK Kont
        try simp only [Act.put, List.setIfInBounds_toArray, List.set_cons_zero, List.set_cons_succ]
        clear hS
        have hS := hS0
        clear hS0
        refine ready_g (rs := [11]) (by kernel_rfl) (by simp) ?_
        refine AllReadyG.cons rfl (fun Kont hK => ?_) AllReadyG.nil
        refine want (by kernel_rfl) ?_
        refine wp_append_os el_rows (some 72) rfl (.tmp 68) (.tmp 71) rfl wb.heap.size _ (n0 + 1) _ rfl ho5 a2 (j - n0) (j - n0) _ rfl vd (by omega) (by omega) hbW.size ?_
        intro v6 w6 ho6 hb6
        replace hbW := hbW.trans hb6
        rw [← pc_app, show n0 + 1 + (j - n0) = j + 1 by omega] at ho6
        clear ho5 hb6 vd
        refine hK.out _ _ (Or.inl (by kernel_rfl)) (fun hS0 => ?_)
        clear hK Kont
        try simp only [Act.put, List.setIfInBounds_toArray, List.set_cons_zero, List.set_cons_succ]
        clear hS
        have hS := hS0
        clear hS0
        refine take_w (i := 12) (v := ?_) (some 14) rfl (by kernel_rfl) rfl (fun _ _ _ h => h) (Or.inl ⟨by rfl, ?_⟩) hS ?_
        rotate_left
        · (intro wq hq; go_simp); first | done | with_reducible rfl
        try simp only [Act.put, List.setIfInBounds_toArray, List.set_cons_zero, List.set_cons_succ]
        replace hS := Till.list 12 hS
        refine done_g (by kernel_rfl) (NoPanic.normal ?_) _
        clear hS
        go_wp2_with fail
        go_meet
        exact ⟨ho6, hbW⟩
    · skip
      go_simp
      refine hK.out _ _ (Or.inr ((hS.get (by kernel_rfl)).alloc _)) (fun hS0 => ?_)
      clear hK Kont
      try simp only [Act.put, List.setIfInBounds_toArray, List.set_cons_zero, List.set_cons_succ]
      clear hS
      have hS := hS0
      clear hS0
      refine ready_g (rs := [0]) (by kernel_rfl) (by simp) ?_
      refine AllReadyG.cons rfl (fun Kont hK => ?_) AllReadyG.nil
      go_simp
      refine hK.out _ _ (Or.inr ((hS.get (by kernel_rfl)).alloc _)) (fun hS0 => ?_)
      clear hK Kont
      try simp only [Act.put, List.setIfInBounds_toArray, List.set_cons_zero, List.set_cons_succ]
      clear hS
      have hS := hS0
      clear hS0
      refine ready_g (rs := [4]) (by kernel_rfl) (by simp) ?_
      refine AllReadyG.cons rfl (fun Kont hK => ?_) AllReadyG.nil
      refine want (by kernel_rfl) ?_
      refine wp_append_os2 el_rows (some 65) rfl (.tmp 61) (.tmp 64) rfl wb.heap.size _ 0 [] rfl (OS.lit (k := 1) (wb.alloc (.cells #[sV x.1] 27)) wb.heap.size (by simp) [] 0 27 rfl (by simp) (by simp) _ (by simp)) _ n0 _ _ rfl ((vk.drew.alloc _).alloc _) (by omega) (by omega) (by simp <;> omega) ?_
      intro v4 w4 ho4 hb4 _ hk4
      have hbW : Below wb.heap.size wb w4 := (((Below.refl _ _).alloc (Nat.le_refl _) _).alloc (by simp) _).drew.trans hb4
      rw [Nat.zero_add, List.nil_append] at ho4
      have s6 := SV.other (SV.drew (SV.alloc (SV.lit' (k := 1) wb [sV x.1] 1 27 rfl (by simp [Value.oneCell']) wb.heap.size rfl) (.cells #[] 27))) (fun y hy hlt => hk4 y.block hlt (fun e => by cases hy; have e' : some (wb.heap.size + 1) = some wb.heap.size := e; simp at e'))
      clear hk4
      refine hK.out _ _ (Or.inr (((hS.get (by kernel_rfl)).low hb4 (Nat.le_refl _)))) (fun hS0 => ?_)
      clear hK Kont
      try simp only [Act.put, List.setIfInBounds_toArray, List.set_cons_zero, List.set_cons_succ]
      clear hS
      have hS := hS0
      clear hS0
      refine ready_g (rs := [7]) (by kernel_rfl) (by simp) ?_
      refine AllReadyG.cons rfl (fun Kont hK => ?_) AllReadyG.nil
      refine want (by kernel_rfl) ?_
      refine wp_append_os el_rows (some 68) rfl (.tmp 65) (.tmp 67) rfl wb.heap.size _ n0 (pc (ls.take n0)) rfl ho4 _ 1 1 _ rfl s6 (by omega) (by omega) hbW.size ?_
      intro v5 w5 ho5 hb5
      replace hbW := hbW.trans hb5
      replace vd := vd.below hbW
      rw [show pc (ls.take n0) ++ [sV x.1] = pc (ls.take n0 ++ [x]) by rw [pc_app]; rfl] at ho5
      clear ho4 hb5 s6
      refine hK.out _ _ (Or.inl (by kernel_rfl)) (fun hS0 => ?_)
      clear hK Kont
      try simp only [Act.put, List.setIfInBounds_toArray, List.set_cons_zero, List.set_cons_succ]
      clear hS
      have hS := hS0
      clear hS0
      refine ready_g (rs := [11]) (by kernel_rfl) (by simp) ?_
      refine AllReadyG.cons rfl (fun Kont hK => ?_) AllReadyG.nil
      refine want (by kernel_rfl) ?_
      refine wp_append_os el_rows (some 72) rfl (.tmp 68) (.tmp 71) rfl wb.heap.size _ (n0 + 1) _ rfl ho5 a2 (j - n0) (j - n0) _ rfl vd (by omega) (by omega) hbW.size ?_
      intro v6 w6 ho6 hb6
      replace hbW := hbW.trans hb6
      rw [← pc_app, show n0 + 1 + (j - n0) = j + 1 by omega] at ho6
      clear ho5 hb6 vd
      refine hK.out _ _ (Or.inl (by kernel_rfl)) (fun hS0 => ?_)
      clear hK Kont
      try simp only [Act.put, List.setIfInBounds_toArray, List.set_cons_zero, List.set_cons_succ]
      clear hS
      have hS := hS0
      clear hS0
      refine take_w (i := 12) (v := ?_) (some 14) rfl (by kernel_rfl) rfl (fun _ _ _ h => h) (Or.inl ⟨by rfl, ?_⟩) hS ?_
      rotate_left
      · (intro wq hq; go_simp); first | done | with_reducible rfl
      try simp only [Act.put, List.setIfInBounds_toArray, List.set_cons_zero, List.set_cons_succ]
      replace hS := Till.list 12 hS
      refine done_g (by kernel_rfl) (NoPanic.normal ?_) _
      clear hS
      go_wp2_with fail
      go_meet
      exact ⟨ho6, hbW⟩
  case rest =>
  obtain ⟨ho9, hb9⟩ := hcut
  obtain ⟨aA, cA, rfl, -, -, svA, -⟩ := OS.sv ho9
  have svB2 := svB.below hb9
  have hs9 := hs.below hb9
  have hpl9 := Lib.hid (PR.below HPL.out hb9)
  have hxr9 := Lib.hid (RowAt.below HXR.out hb9)
  have hv10 := hv9.below hb9
  have hx10 := hx9.below hb9
  have hw10 := Below.then hw9 hb9
  clear ho9 hb9 hs hv9 hx9 hw9 hs1 hs2 vk vd k1 HPL HXR svB
  have HPL := hpl9
  have HXR := hxr9
  have hs := hs9
  clear hpl9 hxr9 hs9
  go_wp2_with fail
  generalize wc = wb at *
  generalize hPD : sortA (cN ts K) (l ++ [u]) = LB at *
  generalize hPE : sortA (cN ts K) (u :: l) = LA at *
  have hBm : (ls.take m0 ++ [x] ++ ls.drop m0).map (·.2) = LB := by
    rw [HPL2.out.1, ← HLM.out, ← HXU.out]; simp [List.map_take, List.map_drop]
  have hAm : (ls.take n0 ++ [x] ++ ls.drop n0).map (·.2) = LA := by
    rw [HPL2.out.2, ← HLM.out, ← HXU.out]; simp [List.map_take, List.map_drop]
  have rvB := RVs.of svB2 (((HPL.out.take m0).app (fun p hp => by rw [List.mem_singleton.1 hp]; exact HXR.out)).app (HPL.out.drop m0))
  have rvA := RVs.of svA (((HPL.out.take n0).app (fun p hp => by rw [List.mem_singleton.1 hp]; exact HXR.out)).app (HPL.out.drop n0))
  rw [hBm] at rvB
  rw [hAm] at rvA
  have HPD := Lib.hid hPD
  have HPE := Lib.hid hPE
  clear hPD hPE hBm hAm svA svB2
  have HFB : Hid (∀ v ∈ LB, FR ts v) := by rw [← HPD.out]; exact sorted_fr (fun v hv => by
    rcases List.mem_append.1 hv with hv | hv
    · exact HI.out.2 v hv
    · rw [List.mem_singleton.1 hv]; exact HKV.out.fr)
  have HFA : Hid (∀ v ∈ LA, FR ts v) := by rw [← HPE.out]; exact sorted_fr (fun v hv => by
    rcases List.mem_cons.1 hv with rfl | hv
    · exact HKV.out.fr
    · exact HI.out.2 v hv)
  have HSB : Hid (srtB (cN ts K) [] LB = true) := srtB_in [] (by rw [← HPD.out]; exact sortA_in (cN_ord hty.out K).a _)
  have HSA : Hid (srtB (cN ts K) [] LA = true) := srtB_in [] (by rw [← HPE.out]; exact sortA_in (cN_ord hty.out K).a _)
  go_cut [15] (fun v wx => v = .bool true ∧ Below wb.heap.size wb wx)
  case first =>
    refine wp_region_noPanic ?_
    refine region_g 7 (fun wq => Sx wq bs A N C (K : Int) m g) (by kernel_rfl) (hx10) (fun hS => ?_)
    refine take_g (i := 0) (v := ?_) [0] (some 73) rfl (by kernel_rfl) rfl (fun _ _ _ h => h) (Or.inl ⟨by rfl, ?_⟩) hS ?_
    rotate_left
    · (intro wq hq; obtain ⟨q0, q1, q2, q3⟩ := hq; go_simp); first | done | with_reducible rfl
    try simp only [Act.put, List.setIfInBounds_toArray, List.set_cons_zero, List.set_cons_succ]
    replace hS := Till.list 0 hS
    refine take_w (i := 2) (v := ?_) (some 75) rfl (by kernel_rfl) rfl (fun _ _ _ h => h) (Or.inl ⟨by rfl, ?_⟩) hS ?_
    rotate_left
    · (intro wq hq; go_simp); first | done | with_reducible rfl
    try simp only [Act.put, List.setIfInBounds_toArray, List.set_cons_zero, List.set_cons_succ]
    replace hS := Till.list 2 hS
    refine take_w (i := 4) (v := ?_) (some 77) rfl (by kernel_rfl) rfl (fun _ _ _ h => h) (Or.inl ⟨by rfl, ?_⟩) hS ?_
    rotate_left
    · (intro wq hq; go_simp); first | done | with_reducible rfl
    try simp only [Act.put, List.setIfInBounds_toArray, List.set_cons_zero, List.set_cons_succ]
    replace hS := Till.list 4 hS
    refine take_w (i := 8) (v := ?_) (some 81) rfl (by kernel_rfl) rfl (fun _ _ _ h => h) (Or.inl ⟨by rfl, ?_⟩) hS ?_
    rotate_left
    · (intro wq hq; go_simp); first | done | with_reducible rfl
    try simp only [Act.put, List.setIfInBounds_toArray, List.set_cons_zero, List.set_cons_succ]
    replace hS := Till.list 8 hS
    refine ready_g (rs := [1, 5]) (by kernel_rfl) (by simp) ?_
    refine (AllReadyG.cons rfl (fun Kont hK => ?_) (AllReadyG.cons rfl (fun Kont hK => ?_) AllReadyG.nil))
    · skip
      go_simp
      refine hK.out _ _ (Or.inr ((Sx.alloc (w := wb.drew) hx10 _))) (fun hS0 => ?_)
      clear hK Kont
      try simp only [Act.put, List.setIfInBounds_toArray, List.set_cons_zero, List.set_cons_succ]
      clear hS
      have hS := hS0
      clear hS0
      refine ready_g (rs := [3, 5]) (by kernel_rfl) (by simp) ?_
      refine (AllReadyG.cons rfl (fun Kont hK => ?_) (AllReadyG.cons rfl (fun Kont hK => ?_) AllReadyG.nil))
      · skip
        refine want (by kernel_rfl) ?_
        refine wp_append_os2 el_rows (some 76) rfl (.tmp 74) (.tmp 75) rfl wb.heap.size _ 0 [] rfl (OS.lit (k := 1) wb.drew wb.heap.size (Nat.le_refl _) [] 0 27 rfl (by simp) (by simp) _ rfl) _ j _ _ rfl (hs.drew.alloc _) (by omega) (by omega) (by simp <;> omega) ?_
        intro v4 w4 ho4 hb4 _ hk4
        have hbW : Below wb.heap.size wb w4 := ((Below.refl _ _).alloc (Nat.le_refl _) _).drew.trans hb4
        rw [Nat.zero_add, List.nil_append] at ho4
        refine hK.out _ _ (Or.inr ((hx10.below hbW))) (fun hS0 => ?_)
        clear hK Kont
        try simp only [Act.put, List.setIfInBounds_toArray, List.set_cons_zero, List.set_cons_succ]
        clear hS
        have hS := hS0
        clear hS0
        refine ready_g (rs := [5]) (by kernel_rfl) (by simp) ?_
        refine AllReadyG.cons rfl (fun Kont hK => ?_) AllReadyG.nil
        go_simp
        have s6 := SV.lit' (k := 1) w4 [sV x.1] 1 27 rfl (by simp [Value.oneCell']) w4.heap.size rfl
        replace hbW := hbW.alloc hbW.size (.cells #[sV x.1] 27)
        replace ho4 := ho4.alloc (.cells #[sV x.1] 27)
        refine hK.out _ _ (Or.inr ((hx10.below hbW))) (fun hS0 => ?_)
        clear hK Kont
        try simp only [Act.put, List.setIfInBounds_toArray, List.set_cons_zero, List.set_cons_succ]
        clear hS
        have hS := hS0
        clear hS0
        refine ready_g (rs := [6]) (by kernel_rfl) (by simp) ?_
        refine AllReadyG.cons rfl (fun Kont hK => ?_) AllReadyG.nil
        refine want (by kernel_rfl) ?_
        refine wp_append_os el_rows (some 79) rfl (.tmp 76) (.tmp 78) rfl wb.heap.size _ j (pc ls) rfl ho4 _ 1 1 _ rfl s6 (by omega) (by omega) hbW.size ?_
        intro v5 w5 ho5 hb5
        replace hbW := hbW.trans hb5
        rw [show pc ls ++ [sV x.1] = pc (ls ++ [x]) by rw [pc_app]; rfl] at ho5
        clear ho4 hb5 s6
        refine hK.out _ _ (Or.inr ((hx10.below hbW))) (fun hS0 => ?_)
        clear hK Kont
        try simp only [Act.put, List.setIfInBounds_toArray, List.set_cons_zero, List.set_cons_succ]
        clear hS
        have hS := hS0
        clear hS0
        obtain ⟨aX, cX, rfl, -, -, svX, -⟩ := OS.sv ho5
        have rvX := RVs.of svX ((PR.below HPL.out hbW).app (fun p hp => by rw [List.mem_singleton.1 hp]; exact RowAt.below HXR.out hbW))
        rw [show (ls ++ [x]).map (·.2) = l ++ [u] by rw [List.map_append, HLM.out, ← HXU.out]; rfl] at rvX
        refine ready_g (rs := [7]) (by kernel_rfl) (by simp) ?_
        refine AllReadyG.cons rfl (fun Kont hK => ?_) AllReadyG.nil
        go_simp
        refine (osort_any A N C ts K m g aX (j + 1) cX (l ++ [u]) w5 (hv10.below hbW) hN1 hK1 hty.out rvX (by omega) (fun v hv => by
          rcases List.mem_append.1 hv with hv | hv
          · exact HI.out.2 v hv
          · rw [List.mem_singleton.1 hv]; exact HKV.out.fr)).mono ?_
        rw [HPD.out]
        rintro e w6 ⟨g6, rfl, rv6, -, hb6⟩
        refine hK.out _ _ (Or.inl (by kernel_rfl)) (fun hS0 => ?_)
        clear hK Kont
        try simp only [Act.put, List.setIfInBounds_toArray, List.set_cons_zero, List.set_cons_succ]
        clear hS
        have hS := hS0
        clear hS0
        have hbY := Below.then hbW hb6
        refine ready_g (rs := [9]) (by kernel_rfl) (by simp) ?_
        refine AllReadyG.cons rfl (fun Kont hK => ?_) AllReadyG.nil
        go_simp
        refine (rrows_any _ (j + 1) (j + 1) LB aB (j + 1) cB LB w6 rv6 (rvB.below hbY) (few_max (by omega)) (few_max (by omega))).mono ?_
        rw [decide_eq_true (rfl : LB = LB)]
        rintro e w7 ⟨rfl, hb7⟩
        have hbZ := Below.then hbY hb7
        refine hK.out _ _ (Or.inl (by kernel_rfl)) (fun hS0 => ?_)
        clear hK Kont
        try simp only [Act.put, List.setIfInBounds_toArray, List.set_cons_zero, List.set_cons_succ]
        clear hS
        have hS := hS0
        clear hS0
        refine take_w (i := 10) (v := ?_) (some 15) rfl (by kernel_rfl) rfl (fun _ _ _ h => h) (Or.inl ⟨by rfl, ?_⟩) hS ?_
        rotate_left
        · (intro wq hq; go_simp); first | done | with_reducible rfl
        try simp only [Act.put, List.setIfInBounds_toArray, List.set_cons_zero, List.set_cons_succ]
        replace hS := Till.list 10 hS
        refine done_g (by kernel_rfl) (NoPanic.normal ?_) _
        clear hS
        go_wp2_with fail
        go_meet
        exact ⟨rfl, hbZ⟩
      · skip
        go_simp
        refine hK.out _ _ (Or.inr (((Sx.alloc (w := wb.drew) hx10 _).alloc _))) (fun hS0 => ?_)
        clear hK Kont
        try simp only [Act.put, List.setIfInBounds_toArray, List.set_cons_zero, List.set_cons_succ]
        clear hS
        have hS := hS0
        clear hS0
        refine ready_g (rs := [3]) (by kernel_rfl) (by simp) ?_
        refine AllReadyG.cons rfl (fun Kont hK => ?_) AllReadyG.nil
        refine want (by kernel_rfl) ?_
        refine wp_append_os2 el_rows (some 76) rfl (.tmp 74) (.tmp 75) rfl wb.heap.size _ 0 [] rfl ((OS.lit (k := 1) wb.drew wb.heap.size (Nat.le_refl _) [] 0 27 rfl (by simp) (by simp) _ rfl).alloc _) _ j _ _ rfl ((hs.drew.alloc _).alloc _) (by omega) (by omega) (by simp <;> omega) ?_
        intro v4 w4 ho4 hb4 _ hk4
        have hbW : Below wb.heap.size wb w4 := (((Below.refl _ _).alloc (Nat.le_refl _) _).alloc (by simp) _).drew.trans hb4
        rw [Nat.zero_add, List.nil_append] at ho4
        have s6 := SV.lit' (k := 1) (wb.alloc (.cells #[] 27)) [sV x.1] 1 27 rfl (by simp [Value.oneCell']) (wb.heap.size + 1) (by simp)
        replace s6 := SV.other (SV.drew s6) (fun y hy hlt => hk4 y.block hlt (fun e => by cases hy; have e' : some wb.heap.size = some (wb.heap.size + 1) := e; simp at e'))
        clear hk4
        refine hK.out _ _ (Or.inr ((hx10.below hbW))) (fun hS0 => ?_)
        clear hK Kont
        try simp only [Act.put, List.setIfInBounds_toArray, List.set_cons_zero, List.set_cons_succ]
        clear hS
        have hS := hS0
        clear hS0
        refine ready_g (rs := [6]) (by kernel_rfl) (by simp) ?_
        refine AllReadyG.cons rfl (fun Kont hK => ?_) AllReadyG.nil
        refine want (by kernel_rfl) ?_
        refine wp_append_os el_rows (some 79) rfl (.tmp 76) (.tmp 78) rfl wb.heap.size _ j (pc ls) rfl ho4 _ 1 1 _ rfl s6 (by omega) (by omega) hbW.size ?_
        intro v5 w5 ho5 hb5
        replace hbW := hbW.trans hb5
        rw [show pc ls ++ [sV x.1] = pc (ls ++ [x]) by rw [pc_app]; rfl] at ho5
        clear ho4 hb5 s6
        refine hK.out _ _ (Or.inr ((hx10.below hbW))) (fun hS0 => ?_)
        clear hK Kont
        try simp only [Act.put, List.setIfInBounds_toArray, List.set_cons_zero, List.set_cons_succ]
        clear hS
        have hS := hS0
        clear hS0
        obtain ⟨aX, cX, rfl, -, -, svX, -⟩ := OS.sv ho5
        have rvX := RVs.of svX ((PR.below HPL.out hbW).app (fun p hp => by rw [List.mem_singleton.1 hp]; exact RowAt.below HXR.out hbW))
        rw [show (ls ++ [x]).map (·.2) = l ++ [u] by rw [List.map_append, HLM.out, ← HXU.out]; rfl] at rvX
        refine ready_g (rs := [7]) (by kernel_rfl) (by simp) ?_
        refine AllReadyG.cons rfl (fun Kont hK => ?_) AllReadyG.nil
        go_simp
        refine (osort_any A N C ts K m g aX (j + 1) cX (l ++ [u]) w5 (hv10.below hbW) hN1 hK1 hty.out rvX (by omega) (fun v hv => by
          rcases List.mem_append.1 hv with hv | hv
          · exact HI.out.2 v hv
          · rw [List.mem_singleton.1 hv]; exact HKV.out.fr)).mono ?_
        rw [HPD.out]
        rintro e w6 ⟨g6, rfl, rv6, -, hb6⟩
        refine hK.out _ _ (Or.inl (by kernel_rfl)) (fun hS0 => ?_)
        clear hK Kont
        try simp only [Act.put, List.setIfInBounds_toArray, List.set_cons_zero, List.set_cons_succ]
        clear hS
        have hS := hS0
        clear hS0
        have hbY := Below.then hbW hb6
        refine ready_g (rs := [9]) (by kernel_rfl) (by simp) ?_
        refine AllReadyG.cons rfl (fun Kont hK => ?_) AllReadyG.nil
        go_simp
        refine (rrows_any _ (j + 1) (j + 1) LB aB (j + 1) cB LB w6 rv6 (rvB.below hbY) (few_max (by omega)) (few_max (by omega))).mono ?_
        rw [decide_eq_true (rfl : LB = LB)]
        rintro e w7 ⟨rfl, hb7⟩
        have hbZ := Below.then hbY hb7
        refine hK.out _ _ (Or.inl (by kernel_rfl)) (fun hS0 => ?_)
        clear hK Kont
        try simp only [Act.put, List.setIfInBounds_toArray, List.set_cons_zero, List.set_cons_succ]
        clear hS
        have hS := hS0
        clear hS0
        refine take_w (i := 10) (v := ?_) (some 15) rfl (by kernel_rfl) rfl (fun _ _ _ h => h) (Or.inl ⟨by rfl, ?_⟩) hS ?_
        rotate_left
        · (intro wq hq; go_simp); first | done | with_reducible rfl
        try simp only [Act.put, List.setIfInBounds_toArray, List.set_cons_zero, List.set_cons_succ]
        replace hS := Till.list 10 hS
        refine done_g (by kernel_rfl) (NoPanic.normal ?_) _
        clear hS
        go_wp2_with fail
        go_meet
        exact ⟨rfl, hbZ⟩
    · skip
      go_simp
      refine hK.out _ _ (Or.inr ((Sx.alloc (w := wb.drew) hx10 _))) (fun hS0 => ?_)
      clear hK Kont
      try simp only [Act.put, List.setIfInBounds_toArray, List.set_cons_zero, List.set_cons_succ]
      clear hS
      have hS := hS0
      clear hS0
      refine ready_g (rs := [1]) (by kernel_rfl) (by simp) ?_
      refine AllReadyG.cons rfl (fun Kont hK => ?_) AllReadyG.nil
      go_simp
      refine hK.out _ _ (Or.inr (((Sx.alloc (w := wb.drew) hx10 _).alloc _))) (fun hS0 => ?_)
      clear hK Kont
      try simp only [Act.put, List.setIfInBounds_toArray, List.set_cons_zero, List.set_cons_succ]
      clear hS
      have hS := hS0
      clear hS0
      refine ready_g (rs := [3]) (by kernel_rfl) (by simp) ?_
      refine AllReadyG.cons rfl (fun Kont hK => ?_) AllReadyG.nil
      refine want (by kernel_rfl) ?_
      refine wp_append_os2 el_rows (some 76) rfl (.tmp 74) (.tmp 75) rfl wb.heap.size _ 0 [] rfl (OS.lit (k := 1) (wb.alloc (.cells #[sV x.1] 27)) wb.heap.size (by simp) [] 0 27 rfl (by simp) (by simp) _ (by simp)) _ j _ _ rfl ((hs.drew.alloc _).alloc _) (by omega) (by omega) (by simp <;> omega) ?_
      intro v4 w4 ho4 hb4 _ hk4
      have hbW : Below wb.heap.size wb w4 := (((Below.refl _ _).alloc (Nat.le_refl _) _).alloc (by simp) _).drew.trans hb4
      rw [Nat.zero_add, List.nil_append] at ho4
      have s6 := SV.other (SV.drew (SV.alloc (SV.lit' (k := 1) wb [sV x.1] 1 27 rfl (by simp [Value.oneCell']) wb.heap.size rfl) (.cells #[] 27))) (fun y hy hlt => hk4 y.block hlt (fun e => by cases hy; have e' : some (wb.heap.size + 1) = some wb.heap.size := e; simp at e'))
      clear hk4
      refine hK.out _ _ (Or.inr ((hx10.below hbW))) (fun hS0 => ?_)
      clear hK Kont
      try simp only [Act.put, List.setIfInBounds_toArray, List.set_cons_zero, List.set_cons_succ]
      clear hS
      have hS := hS0
      clear hS0
      refine ready_g (rs := [6]) (by kernel_rfl) (by simp) ?_
      refine AllReadyG.cons rfl (fun Kont hK => ?_) AllReadyG.nil
      refine want (by kernel_rfl) ?_
      refine wp_append_os el_rows (some 79) rfl (.tmp 76) (.tmp 78) rfl wb.heap.size _ j (pc ls) rfl ho4 _ 1 1 _ rfl s6 (by omega) (by omega) hbW.size ?_
      intro v5 w5 ho5 hb5
      replace hbW := hbW.trans hb5
      rw [show pc ls ++ [sV x.1] = pc (ls ++ [x]) by rw [pc_app]; rfl] at ho5
      clear ho4 hb5 s6
      refine hK.out _ _ (Or.inr ((hx10.below hbW))) (fun hS0 => ?_)
      clear hK Kont
      try simp only [Act.put, List.setIfInBounds_toArray, List.set_cons_zero, List.set_cons_succ]
      clear hS
      have hS := hS0
      clear hS0
      obtain ⟨aX, cX, rfl, -, -, svX, -⟩ := OS.sv ho5
      have rvX := RVs.of svX ((PR.below HPL.out hbW).app (fun p hp => by rw [List.mem_singleton.1 hp]; exact RowAt.below HXR.out hbW))
      rw [show (ls ++ [x]).map (·.2) = l ++ [u] by rw [List.map_append, HLM.out, ← HXU.out]; rfl] at rvX
      refine ready_g (rs := [7]) (by kernel_rfl) (by simp) ?_
      refine AllReadyG.cons rfl (fun Kont hK => ?_) AllReadyG.nil
      go_simp
      refine (osort_any A N C ts K m g aX (j + 1) cX (l ++ [u]) w5 (hv10.below hbW) hN1 hK1 hty.out rvX (by omega) (fun v hv => by
        rcases List.mem_append.1 hv with hv | hv
        · exact HI.out.2 v hv
        · rw [List.mem_singleton.1 hv]; exact HKV.out.fr)).mono ?_
      rw [HPD.out]
      rintro e w6 ⟨g6, rfl, rv6, -, hb6⟩
      refine hK.out _ _ (Or.inl (by kernel_rfl)) (fun hS0 => ?_)
      clear hK Kont
      try simp only [Act.put, List.setIfInBounds_toArray, List.set_cons_zero, List.set_cons_succ]
      clear hS
      have hS := hS0
      clear hS0
      have hbY := Below.then hbW hb6
      refine ready_g (rs := [9]) (by kernel_rfl) (by simp) ?_
      refine AllReadyG.cons rfl (fun Kont hK => ?_) AllReadyG.nil
      go_simp
      refine (rrows_any _ (j + 1) (j + 1) LB aB (j + 1) cB LB w6 rv6 (rvB.below hbY) (few_max (by omega)) (few_max (by omega))).mono ?_
      rw [decide_eq_true (rfl : LB = LB)]
      rintro e w7 ⟨rfl, hb7⟩
      have hbZ := Below.then hbY hb7
      refine hK.out _ _ (Or.inl (by kernel_rfl)) (fun hS0 => ?_)
      clear hK Kont
      try simp only [Act.put, List.setIfInBounds_toArray, List.set_cons_zero, List.set_cons_succ]
      clear hS
      have hS := hS0
      clear hS0
      refine take_w (i := 10) (v := ?_) (some 15) rfl (by kernel_rfl) rfl (fun _ _ _ h => h) (Or.inl ⟨by rfl, ?_⟩) hS ?_
      rotate_left
      · (intro wq hq; go_simp); first | done | with_reducible rfl
      try simp only [Act.put, List.setIfInBounds_toArray, List.set_cons_zero, List.set_cons_succ]
      replace hS := Till.list 10 hS
      refine done_g (by kernel_rfl) (NoPanic.normal ?_) _
      clear hS
      go_wp2_with fail
      go_meet
      exact ⟨rfl, hbZ⟩
  case rest =>
  obtain ⟨rfl, hb11⟩ := hcut
  have hs11 := hs.below hb11
  have hpl11 := Lib.hid (PR.below HPL.out hb11)
  have hxr11 := Lib.hid (RowAt.below HXR.out hb11)
  have hv11 := hv10.below hb11
  have hx11 := hx10.below hb11
  have hw11 := Below.then hw10 hb11
  have rvB11 := rvB.below hb11
  have rvA11 := rvA.below hb11
  clear hb11 hs hv10 hx10 hw10 HPL HXR rvB rvA
  have HPL := hpl11
  have HXR := hxr11
  have hs := hs11
  clear hpl11 hxr11 hs11
  clear wb
  go_wp2_with fail
  generalize wc = wb at *
  have ox := OS.lit (k := 1) wb.drew wb.heap.size (Nat.le_refl _) [sV x.1] 1 27 rfl (by simp [Value.oneCell']) (show (1 : Nat) ≤ maxLen by unfold maxLen; decide) _ rfl
  refine wp_region_noPanic ?_
  refine region_g 5 (fun wq => Sx wq bs A N C (K : Int) m g) (by kernel_rfl) (hx11) (fun hS => ?_)
  refine take_g (i := 0) (v := ?_) [0] (some 83) rfl (by kernel_rfl) rfl (fun _ _ _ h => h) (Or.inl ⟨by rfl, ?_⟩) hS ?_
  rotate_left
  · (intro wq hq; obtain ⟨q0, q1, q2, q3⟩ := hq; go_simp); first | done | with_reducible rfl
  try simp only [Act.put, List.setIfInBounds_toArray, List.set_cons_zero, List.set_cons_succ]
  replace hS := Till.list 0 hS
  refine take_w (i := 1) (v := ?_) (some 84) rfl (by kernel_rfl) rfl (fun _ _ _ h => h) (Or.inl ⟨by rfl, ?_⟩) hS ?_
  rotate_left
  · (intro wq hq; go_simp); first | done | with_reducible rfl
  try simp only [Act.put, List.setIfInBounds_toArray, List.set_cons_zero, List.set_cons_succ]
  replace hS := Till.list 1 hS
  refine take_w (i := 3) (v := ?_) (some 86) rfl (by kernel_rfl) rfl (fun _ _ _ h => h) (Or.inl ⟨by rfl, ?_⟩) hS ?_
  rotate_left
  · (intro wq hq; go_simp); first | done | with_reducible rfl
  try simp only [Act.put, List.setIfInBounds_toArray, List.set_cons_zero, List.set_cons_succ]
  replace hS := Till.list 3 hS
  refine take_w (i := 6) (v := ?_) (some 89) rfl (by kernel_rfl) rfl (fun _ _ _ h => h) (Or.inl ⟨by rfl, ?_⟩) hS ?_
  rotate_left
  · (intro wq hq; go_simp); first | done | with_reducible rfl
  try simp only [Act.put, List.setIfInBounds_toArray, List.set_cons_zero, List.set_cons_succ]
  replace hS := Till.list 6 hS
  refine ready_g (rs := [2]) (by kernel_rfl) (by simp) ?_
  refine AllReadyG.cons rfl (fun Kont hK => ?_) AllReadyG.nil
  go_simp
  refine hK.out _ _ (Or.inr ((Sx.alloc (w := wb.drew) hx11 _))) (fun hS0 => ?_)
  clear hK Kont
  try simp only [Act.put, List.setIfInBounds_toArray, List.set_cons_zero, List.set_cons_succ]
  clear hS
  have hS := hS0
  clear hS0
  refine ready_g (rs := [4]) (by kernel_rfl) (by simp) ?_
  refine AllReadyG.cons rfl (fun Kont hK => ?_) AllReadyG.nil
  refine want (by kernel_rfl) ?_
  refine wp_append_os el_rows (some 87) rfl (.tmp 85) (.tmp 86) rfl wb.heap.size _ 1 [sV x.1] rfl ox _ j j (pc ls) rfl (hs.drew.alloc _) (by omega) (by omega) (by simp) ?_
  intro v5 w5 ho5 hb5
  have hbW : Below wb.heap.size wb w5 := ((Below.refl _ _).alloc (Nat.le_refl _) _).drew.trans hb5
  rw [show [sV x.1] ++ pc ls = pc (x :: ls) from rfl, Nat.add_comm 1 j] at ho5
  clear hb5 ox
  refine hK.out _ _ (Or.inr ((hx11.below hbW))) (fun hS0 => ?_)
  clear hK Kont
  try simp only [Act.put, List.setIfInBounds_toArray, List.set_cons_zero, List.set_cons_succ]
  clear hS
  have hS := hS0
  clear hS0
  obtain ⟨aX, cX, rfl, -, -, svX, -⟩ := OS.sv ho5
  have rvX := RVs.of svX (fun p hp => by
    rcases List.mem_cons.1 hp with rfl | hp
    · exact RowAt.below HXR.out hbW
    · exact PR.below HPL.out hbW p hp)
  rw [show (x :: ls).map (·.2) = u :: l by rw [List.map_cons, HLM.out, ← HXU.out]] at rvX
  refine ready_g (rs := [5]) (by kernel_rfl) (by simp) ?_
  refine AllReadyG.cons rfl (fun Kont hK => ?_) AllReadyG.nil
  go_simp
  refine (osort_any A N C ts K m g aX (j + 1) cX (u :: l) w5 (hv11.below hbW) hN1 hK1 hty.out rvX (by omega) (fun v hv => by
    rcases List.mem_cons.1 hv with rfl | hv
    · exact HKV.out.fr
    · exact HI.out.2 v hv)).mono ?_
  rw [HPE.out]
  rintro e w6 ⟨g6, rfl, rv6, -, hb6⟩
  refine hK.out _ _ (Or.inl (by kernel_rfl)) (fun hS0 => ?_)
  clear hK Kont
  try simp only [Act.put, List.setIfInBounds_toArray, List.set_cons_zero, List.set_cons_succ]
  clear hS
  have hS := hS0
  clear hS0
  have hbY := Below.then hbW hb6
  refine ready_g (rs := [7]) (by kernel_rfl) (by simp) ?_
  refine AllReadyG.cons rfl (fun Kont hK => ?_) AllReadyG.nil
  go_simp
  refine (rrows_any _ (j + 1) (j + 1) LA aA (j + 1) cA LA w6 rv6 (rvA11.below hbY) (few_max (by omega)) (few_max (by omega))).mono ?_
  rw [decide_eq_true (rfl : LA = LA)]
  rintro e w7 ⟨rfl, hb7⟩
  have hbZ := Below.then hbY hb7
  refine hK.out _ _ (Or.inl (by kernel_rfl)) (fun hS0 => ?_)
  clear hK Kont
  try simp only [Act.put, List.setIfInBounds_toArray, List.set_cons_zero, List.set_cons_succ]
  clear hS
  have hS := hS0
  clear hS0
  refine take_w (i := 8) (v := ?_) (some 16) rfl (by kernel_rfl) rfl (fun _ _ _ h => h) (Or.inl ⟨by rfl, ?_⟩) hS ?_
  rotate_left
  · (intro wq hq; go_simp); first | done | with_reducible rfl
  try simp only [Act.put, List.setIfInBounds_toArray, List.set_cons_zero, List.set_cons_succ]
  replace hS := Till.list 8 hS
  refine done_g (by kernel_rfl) (NoPanic.normal ?_) _
  clear hS
  have hv12 := hv11.below hbZ
  have hx12 := hx11.below hbZ
  have hw12 := Below.then hw11 hbZ
  have rvB12 := rvB11.below hbZ
  have rvA12 := rvA11.below hbZ
  clear hbW hbY hbZ hb6 hb7 rv6 rvX svX ho5 hv11 hx11 hw11 rvB11 rvA11 hs HPL HXR
  obtain ⟨c0, c1, c2, c3⟩ := id hx12
  go_wp2_with fail
  clear c0 c1 c2 c3
  refine (osorted_any A N C ts K m g aB (j + 1) cB LB _ hv12 hN1 hK1 hty.out rvB12 (by omega) HFB.out).mono ?_
  rw [HSB.out]
  rintro e w13 ⟨rfl, hb13⟩
  have hv13 := hv12.below hb13
  obtain ⟨c0, c1, c2, c3⟩ := hx12.below hb13
  have rvA13 := rvA12.below hb13
  have hw13 := Below.then hw12 hb13
  go_wp2_with fail
  clear c0 c1 c2 c3
  refine (osorted_any A N C ts K m g aA (j + 1) cA LA _ hv13 hN1 hK1 hty.out rvA13 (by omega) HFA.out).mono ?_
  rw [HSA.out]
  rintro e w14 ⟨rfl, hb14⟩
  have hw14 := Below.then hw13 hb14
  go_wp2_with fail
  go_ret
  exact ⟨rfl, hw14⟩
end Go.Proofs.Ytloohkgiicgndaa
/-
  OrderPlaces: for every shape, every list of rows and every row the statement's function returns true, and its arguments read as they did. No condition.
-/
namespace Go.Proofs.Ytloohkgiicgndaa.orderPlaces
open Go.ChangeShapes Go.WideShapes Go.ChangeAt Go.RowKit
set_option linter.unusedVariables false
set_option maxRecDepth 4000

set_option maxRecDepth 100000 in
theorem lifted (os : Os) (started : os.Started) (H : Type) (enc : TypeId × Value → H) :
    ReturnsInHanded {} Try.checked os 7 .any (Rows.orderPlacesSpec.pre6 enc Try.prog Try.f7 Rows.orderPlacesRow.domain false) (Rows.orderPlacesSpec.post enc Try.prog Try.f7 false true false false) := by
  refine returnsInHanded_of_change (C := Try.checked) own started (by kernel_rfl) Try.func7
    (ChangeSpec.witness6 (enc := enc) (C := Try.checked) false ⟨#[], #[.agg #[.int .u8 0, .int .u8 0, .int .u8 0, .int .u8 0, .int .u8 0, .int .u8 0, .int .u8 0, .int .u8 0, .int .u8 0, .int .u8 0, .int .u8 0, .int .u8 0], .slice none 0 0, .slice none 0 0], []⟩ 8 (by kernel_rfl) (by kernel_rfl) (by kernel_rfl) (by kernel_rfl)) ?_
  intro W base args ds gs before hval0 hW hcnd _
  have hval : ∀ (j : Nat) t v, Try.f7.params[j]? = some t → args[j]? = some v → Value.okWide Try.prog W .any base t v := hval0
  have hW' := hW
  obtain ⟨p, q, hA0, hV, rfl, hfz, hnd⟩ := hW
  have hA : DataW.TrodAll enc Try.prog W 0 (fun _ => true) true Try.f7.params.toList args.toList ds p := hA0
  rw [Try.params7] at hA hval
  obtain ⟨v0, vs0, d0, ds0, p0, q0, hargs0, rfl, rfl, h0, r0⟩ := trodAll_cons hA
  obtain ⟨v1, vs1, d1, ds1, p1, q1, hargs1, hds1, hq1, h1, r1⟩ := trodAll_cons r0
  obtain ⟨v2, vs2, d2, ds2, p2, q2, hargs2, hds2, hq2, h2, r2⟩ := trodAll_cons r1
  obtain ⟨hn1, hn2, hn3⟩ := trodAll_nil r2
  subst hn2 hn3
  subst hds2 hq2
  subst hds1 hq1
  obtain rfl : args = #[v0, v1, v2] := by cases args; simp_all
  obtain ⟨rfl, rfl⟩ := trodVars_none hV
  have rd0 := h0
  have lt0 : ∀ x ∈ p0, x.block < W.heap.size := by obtain ⟨m, hm⟩ := rd0; exact DataW.trod_lt m _ _ _ hm
  obtain ⟨la0, lb0, lc0, ld0, le0, lf0, lg0, lh0, na0, nb0, nc0, nd0, rfl, S0⟩ := open_shape (hval 0 24 v0 rfl rfl) h0
  have rd1 := h1
  have lt1 : ∀ x ∈ p1, x.block < W.heap.size := by obtain ⟨m, hm⟩ := rd1; exact DataW.trod_lt m _ _ _ hm
  obtain ⟨A1, n1, c1, v1, rfl, W1, L1, R1⟩ := open_rows4 (hval 1 25 v1 rfl rfl) h1
  have rd2 := h2
  have lt2 : ∀ x ∈ p2, x.block < W.heap.size := by obtain ⟨m, hm⟩ := rd2; exact DataW.trod_lt m _ _ _ hm
  obtain ⟨A2, n2, c2, v2, rfl, W2, L2, R2⟩ := open_row (hval 2 27 v2 rfl rfl) h2
  clear hA0 hval0
  refine (places9_is S0 A1 n1 c1 v1 A2 n2 c2 v2 W W1 L1 R1 W2 L2 R2).mono fun e W' ⟨he, bel⟩ => ?_
  subst he
  exact ⟨_, rfl, _, _, _, [], _, [], hW', trodAll_mk1 (shut_bool Try.underlying4 _), (trodAll_cons_mk (Below.trod laidOut (by kernel_rfl) (of_decide_eq_true (by kernel_rfl)) rd0 bel lt0) (trodAll_cons_mk (Below.trod laidOut (by kernel_rfl) (of_decide_eq_true (by kernel_rfl)) rd1 bel lt1) (trodAll_cons_mk (Below.trod laidOut (by kernel_rfl) (of_decide_eq_true (by kernel_rfl)) rd2 bel lt2) trodAll_mk0))), rfl, bel.frame _, fun h => by cases h⟩

theorem over : Rows.orderPlacesRow.holds Try.pinned (OpenSpec.ofChange Rows.orderPlacesSpec) :=
  OpenClaim.holds_of_wide 7 Try.f7 rfl rfl rfl rfl rfl rfl rfl ⟨rfl, rfl, rfl, rfl, rfl⟩ rfl rfl rfl rfl rfl (by kernel_rfl) Try.func7 (by kernel_rfl)
    (of_decide_eq_true (by kernel_rfl)) (by unfold Func.isWrapper; first | (rw [if_pos (by decide +kernel)]; kernel_rfl) | (rw [if_neg (by decide +kernel)]; exact ⟨rfl, rfl⟩))
    (fun os started H enc _ => lifted os started H enc)
end Go.Proofs.Ytloohkgiicgndaa.orderPlaces
namespace Go.Proofs.Ytloohkgiicgndaa
theorem orderPlaces_holds : Rows.OrderPlacesSaid := orderPlaces.over
end Go.Proofs.Ytloohkgiicgndaa
