/-
  GrainMarks: for every shape and every list of rows the statement's function returns true, and its arguments read as they did. No condition.
-/
import Derived.Test.YtiigcjncpjdkcaaGrnB
import Derived.Test.YtiigcjncpjdkcaaGrnD
import Derived.Test.YtiigcjncpjdkcaaGrnF
import Derived.Test.YtiigcjncpjdkcaaGrnA
import Derived.Test.YtiigcjncpjdkcaaRows
import Derived.WalkKit
import Derived.ProofKit
import Derived.OpenShut
import Derived.ShutString
import Derived.ChangeOld
import Derived.Below
import Derived.Test.YtiigcjncpjdkcaaSchC
/- GrainMarks: the walk. -/
namespace Go.Proofs.Ytiigcjncpjdkcaa
open Go.ChangeShapes Go.WideShapes Go.ChangeAt Go.RowKit
set_option linter.unusedVariables false
set_option maxRecDepth 4000

theorem rgv_at {l : List RowV} (h : ∀ v ∈ l, RgV v) (i : Nat) : RgV (l.getD i []) := by
  by_cases hi : i < l.length
  · exact rg_at h hi
  · have e : l.getD i [] = [] := by simp [List.getD, show l.length ≤ i by omega]
    rw [e]; exact fun x hx => by cases hx
theorem granL_rg {l : List RowV} {ts : List Int} (h : ∀ v ∈ l, FR ts v) (G i : Nat) : ∀ v ∈ granL G l i, RgV v := fun v hv => RgV.of (h v (List.mem_of_mem_drop (List.mem_of_mem_take hv)))
theorem marksL_rg {l : List RowV} {ts : List Int} (h : ∀ v ∈ l, FR ts v) (G K : Nat) : ∀ v ∈ marksL G K l, RgV v := by
  intro v hv
  obtain ⟨i, _, rfl⟩ := List.mem_map.1 hv
  have := rgv_at (l := l) (fun v hv => RgV.of (h v hv)) (i * G)
  exact fun x hx => this x (List.mem_of_mem_take hx)
set_option maxHeartbeats 16000000 in
theorem marksA_is {l0 l1 l2 l3 l4 l5 l6 l7 n keys mode grain : Int} (h : ShW l0 l1 l2 l3 l4 l5 l6 l7 n keys mode grain) (R : Option Addr) (nr cr : Nat) (vss : List RowV) (w : World)
    (hr : RVs w R nr vss) (hnr : nr ≤ maxLen) (hg : ∀ v ∈ vss, RgV v) :
    Calls Try.prog 6 #[ShV l0 l1 l2 l3 l4 l5 l6 l7 n keys mode grain, .slice R nr cr] w fun e w' => e = .returned (.bool true) ∧ Below w.heap.size w w' := by
  go_enter Try.func6, Try.ntmps6
  go_wp2_with fail
  refine (shownA_is _).mono ?_
  rintro e w1 ⟨rfl, hb1⟩
  have t1 := (Bk.new w (shC l0 l1 l2 l3 l4 l5 l6 l7 n keys mode grain) 24).below hb1
  have hw1 := after1 hb1
  have hr := hr.below hw1
  clear hb1
  obtain ⟨⟨x0, x1, x2, x3⟩, ⟨x4, x5, x6, x7⟩, ⟨x8, x9, x10, x11⟩⟩ := t1.shape
  go_wp2_with fail
  refine (madeA_good h _).mono ?_
  rintro e w2 ⟨A, N, C, K, m, g, ts, rfl, hk, hN, ho, hb2⟩
  clear x0 x1 x2 x3 x4 x5 x6 x7 x8 x9 x10 x11 t1
  obtain ⟨_, _, hA, hC1, hC2, hv, -⟩ := ho.sv
  cases hA
  obtain ⟨G, rfl⟩ : ∃ G : Nat, g = (G : Int) := ⟨g.toNat, by have := (check_is hk).2.2.2.2.2.2.1; omega⟩
  have hG : 1 ≤ G ∧ G ≤ 64 := by have h1 := (check_is hk).2.2.2.2.2.2.1; have h2 := (check_is hk).2.2.2.2.2.2.2.1; omega
  have hkk := Lib.hid (MadeG.keys hk)
  have hty : Hid (Ty ts) := Lib.hid (check_is hk).2.2.2.2.2.2.2.2
  have hlt := Lib.hid (IV.len hv)
  have hx := Sx.new w2 A N C K m (G : Int) 29
  have hr := (hr.below hb2).alloc (.cells #[.slice A N C, .int .i64 K, .int .i64 m, .int .i64 (G : Int)] 29)
  have hv := hv.alloc (.cells #[.slice A N C, .int .i64 K, .int .i64 m, .int .i64 (G : Int)] 29)
  have hw := (Below.then hw1 hb2).alloc (by have := (Below.then hw1 hb2).size; omega) (.cells #[.slice A N C, .int .i64 K, .int .i64 m, .int .i64 (G : Int)] 29)
  have hN1 : N ≤ maxLen := few_max (by omega)
  have hK1 : K ≤ maxLen := few_max (by have := hkk.out; omega)
  obtain ⟨c0, c1, c2, c3⟩ := id hx
  go_wp2_with fail
  clear c0 c1 c2 c3
  generalize w2.alloc (.cells #[.slice A N C, .int .i64 K, .int .i64 m, .int .i64 (G : Int)] 29) = w3 at *
  generalize w2.heap.size = bs at *
  clear ho hb2 hw1 hk
  obtain ⟨c0, c1, c2, c3⟩ := id hx
  have hF := fitsL_fr hty.out hg 60
  have hfl := fitsL_len ts vss 60
  obtain ⟨fs, hfs⟩ : ∃ fs, fitsL ts vss 60 = fs := ⟨_, rfl⟩
  have cc := fits_rows A N C ts K m (G : Int) R nr cr vss 60 w3.drew (hv.below (Below.refl _ _).drew) (by omega) (hr.below (Below.refl _ _).drew) hnr (by omega)
  rw [hfs] at hF hfl cc
  clear hfs hr
  go_wp2_with fail
  refine wp_region_noPanic ?_
  refine region_g 4 (Ext (World.drew _)) (by kernel_rfl) (Ext.refl _) (fun hS => ?_)
  refine take_g (i := 0) (v := ?_) [0] (some 16) rfl (by kernel_rfl) rfl (fun _ _ _ h => h) (Or.inl ⟨by rfl, ?_⟩) hS ?_
  rotate_left
  · (intro wq hq; have q0 := hq _ _ _ c0; have q1 := hq _ _ _ c1; have q2 := hq _ _ _ c2; have q3 := hq _ _ _ c3; go_simp); first | done | with_reducible rfl
  try simp only [Act.put, List.setIfInBounds_toArray, List.set_cons_zero, List.set_cons_succ]
  replace hS := Till.list 0 hS
  refine take_g (i := 1) (v := ?_) [3, 1] (some 17) rfl (by kernel_rfl) rfl (fun _ _ _ h => h) (Or.inl ⟨by rfl, ?_⟩) hS ?_
  rotate_left
  · (intro wq hq; have q0 := hq _ _ _ c0; have q1 := hq _ _ _ c1; have q2 := hq _ _ _ c2; have q3 := hq _ _ _ c3; go_simp); first | done | with_reducible rfl
  try simp only [Act.put, List.setIfInBounds_toArray, List.set_cons_zero, List.set_cons_succ]
  replace hS := Till.list 1 hS
  refine take_w (i := 2) (v := ?_) (some 18) rfl (by kernel_rfl) rfl (fun _ _ _ h => h) (Or.inl ⟨by rfl, ?_⟩) hS ?_
  rotate_left
  · (intro wq hq; go_simp); first | done | with_reducible rfl
  try simp only [Act.put, List.setIfInBounds_toArray, List.set_cons_zero, List.set_cons_succ]
  replace hS := Till.list 2 hS
  refine ready_g (rs := [3]) (by kernel_rfl) (by simp) ?_
  refine AllReadyG.cons rfl (fun Kont hK => ?_) AllReadyG.nil
  go_simp
  refine cc.mono ?_
  rintro e w4 ⟨j, v4, rfl, hj, o4, hb4⟩
  have hv4 := SV.below (w := w3.drew) hv hb4
  have hx4 := Sx.below (w := w3.drew) hx hb4
  have hw4 := Below.then hw.drew hb4
  obtain ⟨a4, c4, rfl, rv4⟩ := o4.rvs
  refine hK.out _ _ (Or.inr ((hS.get (by kernel_rfl)).trans (Ext.below hb4))) (fun hS0 => ?_)
  clear hK Kont
  try simp only [Act.put, List.setIfInBounds_toArray, List.set_cons_zero, List.set_cons_succ]
  clear hS
  have hS := hS0
  clear hS0
  refine ready_g (rs := [4]) (by kernel_rfl) (by simp) ?_
  refine AllReadyG.cons rfl (fun Kont hK => ?_) AllReadyG.nil
  go_simp
  obtain ⟨qs, hq1, hq2, hq3⟩ := rv4.pairs
  have HQ := Lib.hid hq2
  have HI : Hid (InA (cN ts K) (sortA (cN ts K) fs) ∧ ∀ v ∈ sortA (cN ts K) fs, FR ts v) := ⟨sortA_in (cN_ord hty.out K).a _, sorted_fr hF⟩
  refine (r9sort_any A N C ts K m (G : Int) a4 j c4 qs _ hv4 hN1 hK1 hq1 hq3 (by omega) (fun q hq => hF q.2 (by rw [← HQ.out]; exact List.mem_map.2 ⟨q, hq, rfl⟩))).mono ?_
  rintro e w7 ⟨v7, rfl, o7, hb7⟩
  obtain ⟨a7, c7, rfl, -, -, sv7, -⟩ := OS.sv o7
  have hlq : (sortA (cP ts K) qs).length = j := by rw [sortA_len]; have := hq1.1; rw [pc_len] at this; omega
  rw [hlq] at sv7
  have hs7 : (sortA (cP ts K) qs).map (·.2) = sortA (cN ts K) fs := by rw [← HQ.out]; exact sortA_map (cN ts K) (fun p : P9 => p.2) qs
  have rv7 := RVs.of sv7 (fun p hp => (hq3 p (sortA_mem.1 hp)).below hb7)
  rw [hs7] at rv7
  have hv7 := hv4.below hb7
  have hx7 := hx4.below hb7
  have hw7 := Below.then hw4 hb7
  clear sv7 hs7 o7
  rw [hlq]
  refine hK.out _ _ (Or.inl (by kernel_rfl)) (fun hS0 => ?_)
  clear hK Kont
  try simp only [Act.put, List.setIfInBounds_toArray, List.set_cons_zero, List.set_cons_succ]
  clear hS
  have hS := hS0
  clear hS0
  refine take_w (i := 5) (v := ?_) (some 7) rfl (by kernel_rfl) rfl (fun _ _ _ h => h) (Or.inl ⟨by rfl, ?_⟩) hS ?_
  rotate_left
  · (intro wq hq; go_simp); first | done | with_reducible rfl
  try simp only [Act.put, List.setIfInBounds_toArray, List.set_cons_zero, List.set_cons_succ]
  replace hS := Till.list 5 hS
  refine done_g (by kernel_rfl) (NoPanic.normal ?_) _
  clear hS
  clear hlq cc hv hx hw c0 c1 c2 c3 o4 hv4 hx4 hw4 rv4 hq1 hq2 hq3 hb4 hb7 HQ hF
  generalize sortA (cN ts K) fs = l at *
  have hll := Lib.hid rv7.1
  obtain ⟨c0, c1, c2, c3⟩ := id hx7
  go_wp2_with fail
  clear c0 c1 c2 c3
  refine (gsplit_any A N C K m G a7 j c7 l _ rv7 (by omega) hG.1 (by omega)).mono ?_
  rintro e w8 ⟨A8, C8, rfl, h81, h82, g8, hb8⟩
  have hv8 := hv7.below hb8
  have hx8 := hx7.below hb8
  have rv8 := rv7.below hb8
  have hw8 := Below.then hw7 hb8
  clear hv7 hx7 rv7 hw7 hb8
  have hqj := cnt_le G j hG.1
  obtain ⟨q, hq⟩ : ∃ q, cntG G j = q := ⟨_, rfl⟩
  rw [hq] at g8 h81 hqj ⊢
  have HQ := Lib.hid hq
  clear hq
  obtain ⟨c0, c1, c2, c3⟩ := id hx8
  go_wp2_with fail
  clear c0 c1 c2 c3
  have HFK : Hid (∀ v ∈ l, K ≤ v.length) := Lib.hid (fun v hvm => by
    have h1 := (HI.out.2 v hvm).len
    have h2 := hkk.out
    have h3 := hlt.out
    omega)
  refine (gmarks_any A N C K m G a7 j c7 l _ rv8 (by omega) hG.1 (by omega) HFK.out).mono ?_
  rw [HQ.out]
  rintro e w9 ⟨A9, C9, rfl, h91, h92, m9, hb9⟩
  have hv9 := hv8.below hb9
  have hx9 := hx8.below hb9
  have g9 := g8.below hb9
  have hw9 := Below.then hw8 hb9
  clear hv8 hx8 rv8 hw8 hb9 g8
  obtain ⟨c0, c1, c2, c3⟩ := id hx9
  go_wp2_with fail
  clear c0 c1 c2 c3
  refine (r9sorted_gen A N C ts K m (G : Int) A9 q C9 (marksL G K l) _ hv9 hN1 hK1 m9 (by omega) (marksL_rg HI.out.2 G K)).mono ?_
  rw [marks_sorted hG.1 HI.out.1 HI.out.2 hty.out]
  rintro e w10 ⟨rfl, hb10⟩
  have hv10 := hv9.below hb10
  have hx10 := hx9.below hb10
  have g10 := g9.below hb10
  have m10 := m9.below hb10
  have hw10 := Below.then hw9 hb10
  clear hv9 hx9 m9 hw9 hb10 g9
  go_wp2_with fail
  go_loopw [11] (fun i wr => ∃ (x : Nat), x ≤ q ∧ i = .int .i64 (x : Int) ∧ Below w10.heap.size w10 wr) (fun i _ => q - (intOf i).toNat)
  case atStart => exact ⟨0, by omega, rfl, Below.refl _ _⟩
  case round =>
    obtain ⟨x, hxq, rfl, hb⟩ := hrel
    by_cases hlx : x < q
    · have hxi : (x : Int) < (q : Int) := by omega
      obtain ⟨b5, f5, u, rfl, hc5, hu5⟩ := g10.at x hlx
      have hc5 := keepc hc5 hb
      rw [splitL_at (by rw [hll.out, HQ.out]; exact hlx)] at hu5
      obtain ⟨B5, L5, D5, rfl, h55, h56, -, s5⟩ := hu5
      have s6 := s5.below hb
      have hLg : Hid ((granL G l x).length = L5) := s5.1
      have hL60 : L5 ≤ 100000 := by
        have h1 := hLg.out
        have h2 := gran_len G l x
        omega
      clear s5
      obtain ⟨w11, e11⟩ : ∃ z, z = wr := ⟨wr, rfl⟩
      subst e11
      go_wp2_with fail
      go_loopw [12] (fun i wi => ∃ (y : Nat), y ≤ L5 ∧ i = .int .i64 (y : Int) ∧ Below w11.heap.size w11 wi) (fun i _ => L5 - (intOf i).toNat)
      case atStart => exact ⟨0, by omega, rfl, Below.refl _ _⟩
      case round =>
        obtain ⟨y, hyL, rfl, hbi⟩ := hrel
        by_cases hly : y < L5
        · have hyi : (y : Int) < (L5 : Int) := by omega
          have hb2 := Below.then hb hbi
          have hc6 := keepc hc5 hbi
          obtain ⟨b6, f6, u6, rfl, hcr, hur⟩ := s6.at y hly
          obtain ⟨A3, L3, C3, rfl, r31, r32, r33, r34, -⟩ := hur.1
          have hcr := keepc hcr hbi
          obtain ⟨b7, f7, A7, L7, C7, rfl, hcm, hL7, wm7⟩ := m10.at x hlx
          have hcm := keepc hcm hb2
          have hmb := marks_between hG.1 HI.out.1 HI.out.2 hty.out (i := x) (k := y) (by rw [hll.out, HQ.out]; exact hlx) (by rw [hLg.out]; exact hly)
          rw [hll.out, HQ.out] at hmb
          have cc := r4compare_any A N C ts K m (G : Int) A3 L3 C3 ((granL G l x).getD y []) A7 L7 C7 ((marksL G K l).getD x []) wr.drew ((hv10.below hb2).below (Below.refl _ _).drew) hN1 ((SV.below r34 hbi).below (Below.refl _ _).drew) (by omega) ((SV.below wm7 hb2).below (Below.refl _ _).drew) hL7 hK1 (rgv_at (granL_rg HI.out.2 G x) y) (rgv_at (marksL_rg HI.out.2 G K) x)
          obtain ⟨c0, c1, c2, c3⟩ := hx10.below hb2
          by_cases hx1 : x + 1 < q
          · have hwx : IntKind.i64.wrap ((x : Int) + 1) = ((x + 1 : Nat) : Int) := by rw [IntKind.wrap_i64]; omega
            have hwx2 : (x : Int) + 1 < (q : Int) := by omega
            have hwx3 : (0 : Int) ≤ (x : Int) + 1 := by omega
            obtain ⟨b8, f8, A8, L8, C8, e8, hcn, hL8, wm8⟩ := m10.at (x + 1) hx1
            cases e8
            have hcn := keepc hcn hb2
            have dd : ∀ w12, Below w10.heap.size w10 w12 → Below w11.heap.size w11 w12 → Calls Try.prog 23 #[SS A N C K m (G : Int), .slice A3 L3 C3, .slice A8 L8 C8] w12 fun e w' => e = .returned (.int .i64 (cR (ts.take K) ((granL G l x).getD y []) ((marksL G K l).getD (x + 1) []))) ∧ Below w12.heap.size w12 w' := fun w12 hq hq2 =>
              r4compare_any A N C ts K m (G : Int) A3 L3 C3 ((granL G l x).getD y []) A8 L8 C8 ((marksL G K l).getD (x + 1) []) w12 (hv10.below hq) hN1 (SV.below r34 hq2) (by omega) (SV.below wm8 hq) hL8 hK1 (rgv_at (granL_rg HI.out.2 G x) y) (rgv_at (marksL_rg HI.out.2 G K) (x + 1))
            have hmb1 := hmb.1
            have hmb2 := hmb.2 hx1
            generalize cR (ts.take K) ((granL G l x).getD y []) ((marksL G K l).getD x []) = r1 at cc hmb1
            generalize cR (ts.take K) ((granL G l x).getD y []) ((marksL G K l).getD (x + 1) []) = r2 at dd hmb2
            have hmb1 : ¬ r1 < 0 := by omega
            have hmb2 : ¬ r2 > 0 := by omega
            have DD := Lib.hid dd
            clear dd hmb hur s6 r34 wm7 wm8
            go_wp2_with fail
            refine wp_region_noPanic ?_
            refine region_g 34 (Ext (World.drew _)) (by kernel_rfl) (Ext.refl _) (fun hS => ?_)
            refine take_g (i := 0) (v := ?_) [20, 14, 12, 0] (some 54) rfl (by kernel_rfl) rfl (fun _ _ _ h => h) (Or.inl ⟨by rfl, ?_⟩) hS ?_
            rotate_left
            · (intro wq hq; have q0 := hq _ _ _ c0; have q1 := hq _ _ _ c1; have q2 := hq _ _ _ c2; have q3 := hq _ _ _ c3; have q4 := hq _ _ _ hc6; have q5 := hq _ _ _ hcr; have q6 := hq _ _ _ hcm; have q7 := hq _ _ _ hcn; go_simp); first | done | with_reducible rfl
            try simp only [Act.put, List.setIfInBounds_toArray, List.set_cons_zero, List.set_cons_succ]
            replace hS := Till.list 0 hS
            refine take_w (i := 1) (v := ?_) (some 55) rfl (by kernel_rfl) rfl (fun _ _ _ h => h) (Or.inl ⟨by rfl, ?_⟩) hS ?_
            rotate_left
            · (intro wq hq; go_simp); first | done | with_reducible rfl
            try simp only [Act.put, List.setIfInBounds_toArray, List.set_cons_zero, List.set_cons_succ]
            replace hS := Till.list 1 hS
            refine take_w (i := 2) (v := ?_) (some 56) rfl (by kernel_rfl) rfl (fun _ _ _ h => h) (Or.inl ⟨by rfl, ?_⟩) hS ?_
            rotate_left
            · (intro wq hq; go_simp); first | done | with_reducible rfl
            try simp only [Act.put, List.setIfInBounds_toArray, List.set_cons_zero, List.set_cons_succ]
            replace hS := Till.list 2 hS
            refine take_w (i := 5) (v := ?_) (some 59) rfl (by kernel_rfl) rfl (fun _ _ _ h => h) (Or.inl ⟨by rfl, ?_⟩) hS ?_
            rotate_left
            · (intro wq hq; go_simp); first | done | with_reducible rfl
            try simp only [Act.put, List.setIfInBounds_toArray, List.set_cons_zero, List.set_cons_succ]
            replace hS := Till.list 5 hS
            refine take_w (i := 8) (v := ?_) (some 62) rfl (by kernel_rfl) rfl (fun _ _ _ h => h) (Or.inl ⟨by rfl, ?_⟩) hS ?_
            rotate_left
            · (intro wq hq; go_simp); first | done | with_reducible rfl
            try simp only [Act.put, List.setIfInBounds_toArray, List.set_cons_zero, List.set_cons_succ]
            replace hS := Till.list 8 hS
            refine take_w (i := 9) (v := ?_) (some 63) rfl (by kernel_rfl) rfl (fun _ _ _ h => h) (Or.inl ⟨by rfl, ?_⟩) hS ?_
            rotate_left
            · (intro wq hq; go_simp); first | done | with_reducible rfl
            try simp only [Act.put, List.setIfInBounds_toArray, List.set_cons_zero, List.set_cons_succ]
            replace hS := Till.list 9 hS
            refine take_w (i := 3) (v := ?_) (some 57) rfl (by kernel_rfl) rfl (fun _ _ _ h => h) (Or.inl ⟨by rfl, ?_⟩) hS ?_
            rotate_left
            · (intro wq hq; go_simp); first | done | with_reducible rfl
            try simp only [Act.put, List.setIfInBounds_toArray, List.set_cons_zero, List.set_cons_succ]
            replace hS := Till.list 3 hS
            refine take_w (i := 10) (v := ?_) (some 64) rfl (by kernel_rfl) rfl (fun _ _ _ h => h) (Or.inl ⟨by rfl, ?_⟩) hS ?_
            rotate_left
            · (intro wq hq; go_simp); first | done | with_reducible rfl
            try simp only [Act.put, List.setIfInBounds_toArray, List.set_cons_zero, List.set_cons_succ]
            replace hS := Till.list 10 hS
            refine take_g (i := 4) (v := ?_) [20, 14, 12, 7, 6, 4] (some 58) rfl (by kernel_rfl) rfl (fun _ _ _ h => h) (Or.inl ⟨by rfl, ?_⟩) hS ?_
            rotate_left
            · (intro wq hq; have q0 := hq _ _ _ c0; have q1 := hq _ _ _ c1; have q2 := hq _ _ _ c2; have q3 := hq _ _ _ c3; have q4 := hq _ _ _ hc6; have q5 := hq _ _ _ hcr; have q6 := hq _ _ _ hcm; have q7 := hq _ _ _ hcn; go_simp); first | done | with_reducible rfl
            try simp only [Act.put, List.setIfInBounds_toArray, List.set_cons_zero, List.set_cons_succ]
            replace hS := Till.list 4 hS
            refine take_g (i := 11) (v := ?_) [20, 14, 12, 11] (some 65) rfl (by kernel_rfl) rfl (fun _ _ _ h => h) (Or.inl ⟨by rfl, ?_⟩) hS ?_
            rotate_left
            · (intro wq hq; have q0 := hq _ _ _ c0; have q1 := hq _ _ _ c1; have q2 := hq _ _ _ c2; have q3 := hq _ _ _ c3; have q4 := hq _ _ _ hc6; have q5 := hq _ _ _ hcr; have q6 := hq _ _ _ hcm; have q7 := hq _ _ _ hcn; go_simp); first | done | with_reducible rfl
            try simp only [Act.put, List.setIfInBounds_toArray, List.set_cons_zero, List.set_cons_succ]
            replace hS := Till.list 11 hS
            refine take_w (i := 6) (v := ?_) (some 60) rfl (by kernel_rfl) rfl (fun _ _ _ h => h) (Or.inl ⟨by rfl, ?_⟩) hS ?_
            rotate_left
            · (intro wq hq; go_simp); first | done | with_reducible rfl
            try simp only [Act.put, List.setIfInBounds_toArray, List.set_cons_zero, List.set_cons_succ]
            replace hS := Till.list 6 hS
            refine take_g (i := 7) (v := ?_) [20, 14, 12, 7] (some 61) rfl (by kernel_rfl) rfl (fun _ _ _ h => h) (Or.inl ⟨by rfl, ?_⟩) hS ?_
            rotate_left
            · (intro wq hq; have q0 := hq _ _ _ c0; have q1 := hq _ _ _ c1; have q2 := hq _ _ _ c2; have q3 := hq _ _ _ c3; have q4 := hq _ _ _ hc6; have q5 := hq _ _ _ hcr; have q6 := hq _ _ _ hcm; have q7 := hq _ _ _ hcn; go_simp); first | done | with_reducible rfl
            try simp only [Act.put, List.setIfInBounds_toArray, List.set_cons_zero, List.set_cons_succ]
            replace hS := Till.list 7 hS
            refine ready_g (rs := [12]) (by kernel_rfl) (by simp) ?_
            refine AllReadyG.cons rfl (fun Kont hK => ?_) AllReadyG.nil
            go_simp
            refine cc.mono ?_
            rintro e w12 ⟨rfl, hb12⟩
            have hb13 := Below.then hb2.drew hb12
            have hb14 := Below.then hbi.drew hb12
            refine hK.out _ _ (Or.inr ((hS.get (by kernel_rfl)).trans (Ext.below hb12))) (fun hS0 => ?_)
            clear hK Kont
            try simp only [Act.put, List.setIfInBounds_toArray, List.set_cons_zero, List.set_cons_succ]
            clear hS
            have hS := hS0
            clear hS0
            refine take_g (i := 13) (v := .bool false) [20, 14, 13] (some 67) rfl (by kernel_rfl) rfl (fun _ _ _ h => h) (Or.inl ⟨by rfl, ?_⟩) hS ?_
            · (intro wq hq; (go_simp))
            try simp only [Act.put, List.setIfInBounds_toArray, List.set_cons_zero, List.set_cons_succ]
            replace hS := Till.list 13 hS
            refine take_w (i := 14) (v := ?_) (some 68) rfl (by kernel_rfl) rfl (fun _ _ _ h => h) (Or.inl ⟨by rfl, ?_⟩) hS ?_
            rotate_left
            · (intro wq hq; go_simp); first | done | with_reducible rfl
            try simp only [Act.put, List.setIfInBounds_toArray, List.set_cons_zero, List.set_cons_succ]
            replace hS := Till.list 14 hS
            refine take_w (i := 15) (v := ?_) (some 69) rfl (by kernel_rfl) rfl (fun _ _ _ h => h) (Or.inl ⟨by rfl, ?_⟩) hS ?_
            rotate_left
            · (intro wq hq; go_simp); first | done | with_reducible rfl
            try simp only [Act.put, List.setIfInBounds_toArray, List.set_cons_zero, List.set_cons_succ]
            replace hS := Till.list 15 hS
            refine take_w (i := 17) (v := ?_) (some 71) rfl (by kernel_rfl) rfl (fun _ _ _ h => h) (Or.inl ⟨by rfl, ?_⟩) hS ?_
            rotate_left
            · (intro wq hq; go_simp); first | done | with_reducible rfl
            try simp only [Act.put, List.setIfInBounds_toArray, List.set_cons_zero, List.set_cons_succ]
            replace hS := Till.list 17 hS
            refine take_w (i := 16) (v := ?_) (some 70) rfl (by kernel_rfl) rfl (fun _ _ _ h => h) (Or.inl ⟨by rfl, ?_⟩) hS ?_
            rotate_left
            · (intro wq hq; go_simp); first | done | with_reducible rfl
            try simp only [Act.put, List.setIfInBounds_toArray, List.set_cons_zero, List.set_cons_succ]
            replace hS := Till.list 16 hS
            refine take_w (i := 18) (v := ?_) (some 72) rfl (by kernel_rfl) rfl (fun _ _ _ h => h) (Or.inl ⟨by rfl, ?_⟩) hS ?_
            rotate_left
            · (intro wq hq; go_simp); first | done | with_reducible rfl
            try simp only [Act.put, List.setIfInBounds_toArray, List.set_cons_zero, List.set_cons_succ]
            replace hS := Till.list 18 hS
            refine take_g (i := 19) (v := .bool true) [20, 19] (some 73) rfl (by kernel_rfl) rfl (fun _ _ _ h => h) (Or.inl ⟨by rfl, ?_⟩) hS ?_
            · (intro wq hq; (go_simp <;> omega))
            try simp only [Act.put, List.setIfInBounds_toArray, List.set_cons_zero, List.set_cons_succ]
            replace hS := Till.list 19 hS
            refine take_w (i := 20) (v := ?_) (some 74) rfl (by kernel_rfl) rfl (fun _ _ _ h => h) (Or.inl ⟨by rfl, ?_⟩) hS ?_
            rotate_left
            · (intro wq hq; go_simp); first | done | with_reducible rfl
            try simp only [Act.put, List.setIfInBounds_toArray, List.set_cons_zero, List.set_cons_succ]
            replace hS := Till.list 20 hS
            refine take_g (i := 21) (v := ?_) [21] (some 75) rfl (by kernel_rfl) rfl (fun _ _ _ h => h) (Or.inl ⟨by rfl, ?_⟩) hS ?_
            rotate_left
            · (intro wq hq; have q0 := hq _ _ _ c0; have q1 := hq _ _ _ c1; have q2 := hq _ _ _ c2; have q3 := hq _ _ _ c3; have q4 := hq _ _ _ hc6; have q5 := hq _ _ _ hcr; have q6 := hq _ _ _ hcm; have q7 := hq _ _ _ hcn; go_simp); first | done | with_reducible rfl
            try simp only [Act.put, List.setIfInBounds_toArray, List.set_cons_zero, List.set_cons_succ]
            replace hS := Till.list 21 hS
            refine take_w (i := 22) (v := ?_) (some 76) rfl (by kernel_rfl) rfl (fun _ _ _ h => h) (Or.inl ⟨by rfl, ?_⟩) hS ?_
            rotate_left
            · (intro wq hq; go_simp); first | done | with_reducible rfl
            try simp only [Act.put, List.setIfInBounds_toArray, List.set_cons_zero, List.set_cons_succ]
            replace hS := Till.list 22 hS
            refine take_w (i := 23) (v := ?_) (some 77) rfl (by kernel_rfl) rfl (fun _ _ _ h => h) (Or.inl ⟨by rfl, ?_⟩) hS ?_
            rotate_left
            · (intro wq hq; go_simp); first | done | with_reducible rfl
            try simp only [Act.put, List.setIfInBounds_toArray, List.set_cons_zero, List.set_cons_succ]
            replace hS := Till.list 23 hS
            refine take_w (i := 26) (v := ?_) (some 80) rfl (by kernel_rfl) rfl (fun _ _ _ h => h) (Or.inl ⟨by rfl, ?_⟩) hS ?_
            rotate_left
            · (intro wq hq; go_simp); first | done | with_reducible rfl
            try simp only [Act.put, List.setIfInBounds_toArray, List.set_cons_zero, List.set_cons_succ]
            replace hS := Till.list 26 hS
            refine take_w (i := 29) (v := ?_) (some 83) rfl (by kernel_rfl) rfl (fun _ _ _ h => h) (Or.inl ⟨by rfl, ?_⟩) hS ?_
            rotate_left
            · (intro wq hq; go_simp); first | done | with_reducible rfl
            try simp only [Act.put, List.setIfInBounds_toArray, List.set_cons_zero, List.set_cons_succ]
            replace hS := Till.list 29 hS
            refine take_w (i := 30) (v := ?_) (some 84) rfl (by kernel_rfl) rfl (fun _ _ _ h => h) (Or.inl ⟨by rfl, ?_⟩) hS ?_
            rotate_left
            · (intro wq hq; go_simp); first | done | with_reducible rfl
            try simp only [Act.put, List.setIfInBounds_toArray, List.set_cons_zero, List.set_cons_succ]
            replace hS := Till.list 30 hS
            refine take_w (i := 24) (v := ?_) (some 78) rfl (by kernel_rfl) rfl (fun _ _ _ h => h) (Or.inl ⟨by rfl, ?_⟩) hS ?_
            rotate_left
            · (intro wq hq; go_simp); first | done | with_reducible rfl
            try simp only [Act.put, List.setIfInBounds_toArray, List.set_cons_zero, List.set_cons_succ]
            replace hS := Till.list 24 hS
            refine take_w (i := 31) (v := ?_) (some 85) rfl (by kernel_rfl) rfl (fun _ _ _ h => h) (Or.inl ⟨by rfl, ?_⟩) hS ?_
            rotate_left
            · (intro wq hq; go_simp); first | done | with_reducible rfl
            try simp only [Act.put, List.setIfInBounds_toArray, List.set_cons_zero, List.set_cons_succ]
            replace hS := Till.list 31 hS
            refine take_g (i := 25) (v := ?_) [28, 27, 25] (some 79) rfl (by kernel_rfl) rfl (fun _ _ _ h => h) (Or.inl ⟨by rfl, ?_⟩) hS ?_
            rotate_left
            · (intro wq hq; have q0 := hq _ _ _ c0; have q1 := hq _ _ _ c1; have q2 := hq _ _ _ c2; have q3 := hq _ _ _ c3; have q4 := hq _ _ _ hc6; have q5 := hq _ _ _ hcr; have q6 := hq _ _ _ hcm; have q7 := hq _ _ _ hcn; go_simp); first | done | with_reducible rfl
            try simp only [Act.put, List.setIfInBounds_toArray, List.set_cons_zero, List.set_cons_succ]
            replace hS := Till.list 25 hS
            refine take_w (i := 27) (v := ?_) (some 81) rfl (by kernel_rfl) rfl (fun _ _ _ h => h) (Or.inl ⟨by rfl, ?_⟩) hS ?_
            rotate_left
            · (intro wq hq; go_simp); first | done | with_reducible rfl
            try simp only [Act.put, List.setIfInBounds_toArray, List.set_cons_zero, List.set_cons_succ]
            replace hS := Till.list 27 hS
            refine take_g (i := 28) (v := ?_) [28] (some 82) rfl (by kernel_rfl) rfl (fun _ _ _ h => h) (Or.inl ⟨by rfl, ?_⟩) hS ?_
            rotate_left
            · (intro wq hq; have q0 := hq _ _ _ c0; have q1 := hq _ _ _ c1; have q2 := hq _ _ _ c2; have q3 := hq _ _ _ c3; have q4 := hq _ _ _ hc6; have q5 := hq _ _ _ hcr; have q6 := hq _ _ _ hcm; have q7 := hq _ _ _ hcn; go_simp); first | done | with_reducible rfl
            try simp only [Act.put, List.setIfInBounds_toArray, List.set_cons_zero, List.set_cons_succ]
            replace hS := Till.list 28 hS
            refine take_g (i := 32) (v := .pointer (some ⟨b7, f7 + (x + 1), none⟩)) [33, 32] (some 86) rfl (by kernel_rfl) rfl (fun _ _ _ h => h) (Or.inl ⟨by rfl, ?_⟩) hS ?_
            · (intro wq hq; (go_simp))
            try simp only [Act.put, List.setIfInBounds_toArray, List.set_cons_zero, List.set_cons_succ]
            replace hS := Till.list 32 hS
            refine take_g (i := 33) (v := ?_) [33] (some 87) rfl (by kernel_rfl) rfl (fun _ _ _ h => h) (Or.inl ⟨by rfl, ?_⟩) hS ?_
            rotate_left
            · (intro wq hq; have q0 := hq _ _ _ c0; have q1 := hq _ _ _ c1; have q2 := hq _ _ _ c2; have q3 := hq _ _ _ c3; have q4 := hq _ _ _ hc6; have q5 := hq _ _ _ hcr; have q6 := hq _ _ _ hcm; have q7 := hq _ _ _ hcn; go_simp); first | done | with_reducible rfl
            try simp only [Act.put, List.setIfInBounds_toArray, List.set_cons_zero, List.set_cons_succ]
            replace hS := Till.list 33 hS
            refine ready_g (rs := [34]) (by kernel_rfl) (by simp) ?_
            refine AllReadyG.cons rfl (fun Kont hK => ?_) AllReadyG.nil
            go_simp
            refine (DD.out _ hb13 hb14).mono ?_
            rintro e w15 ⟨rfl, hb15⟩
            have hb16 := Below.then hb14 hb15
            refine hK.out _ _ (Or.inl (by kernel_rfl)) (fun hS0 => ?_)
            clear hK Kont
            try simp only [Act.put, List.setIfInBounds_toArray, List.set_cons_zero, List.set_cons_succ]
            clear hS
            have hS := hS0
            clear hS0
            refine take_w (i := 35) (v := ?_) (some 89) rfl (by kernel_rfl) rfl (fun _ _ _ h => h) (Or.inl ⟨by rfl, ?_⟩) hS ?_
            rotate_left
            · (intro wq hq; go_simp); first | done | with_reducible rfl
            try simp only [Act.put, List.setIfInBounds_toArray, List.set_cons_zero, List.set_cons_succ]
            replace hS := Till.list 35 hS
            refine take_w (i := 36) (v := ?_) (some 90) rfl (by kernel_rfl) rfl (fun _ _ _ h => h) (Or.inl ⟨by rfl, ?_⟩) hS ?_
            rotate_left
            · (intro wq hq; go_simp); first | done | with_reducible rfl
            try simp only [Act.put, List.setIfInBounds_toArray, List.set_cons_zero, List.set_cons_succ]
            replace hS := Till.list 36 hS
            refine take_w (i := 37) (v := ?_) (some 91) rfl (by kernel_rfl) rfl (fun _ _ _ h => h) (Or.inl ⟨by rfl, ?_⟩) hS ?_
            rotate_left
            · (intro wq hq; go_simp); first | done | with_reducible rfl
            try simp only [Act.put, List.setIfInBounds_toArray, List.set_cons_zero, List.set_cons_succ]
            replace hS := Till.list 37 hS
            refine done_g (by kernel_rfl) (NoPanic.normal ?_) _
            clear hS
            clear c0 c1 c2 c3 hc6 hcr hcm hcn cc hb12 hb13 hb14 hb15 hb2 hbi
            go_wp2_with fail
            go_roundw
            case rel => exact ⟨y + 1, by omega, by go_num, hb16⟩
            case measure => simp [intOf]; omega
          · have hwx : IntKind.i64.wrap ((x : Int) + 1) = ((x + 1 : Nat) : Int) := by rw [IntKind.wrap_i64]; omega
            have hwx2 : ¬ (x : Int) + 1 < (q : Int) := by omega
            have hmb1 := hmb.1
            generalize cR (ts.take K) ((granL G l x).getD y []) ((marksL G K l).getD x []) = r1 at cc hmb1
            have hmb1 : ¬ r1 < 0 := by omega
            clear hmb hur s6 r34 wm7
            go_wp2_with fail
            refine wp_region_noPanic ?_
            refine region_g 12 (Ext (World.drew _)) (by kernel_rfl) (Ext.refl _) (fun hS => ?_)
            refine take_g (i := 0) (v := ?_) [0] (some 54) rfl (by kernel_rfl) rfl (fun _ _ _ h => h) (Or.inl ⟨by rfl, ?_⟩) hS ?_
            rotate_left
            · (intro wq hq; have q0 := hq _ _ _ c0; have q1 := hq _ _ _ c1; have q2 := hq _ _ _ c2; have q3 := hq _ _ _ c3; have q4 := hq _ _ _ hc6; have q5 := hq _ _ _ hcr; have q6 := hq _ _ _ hcm; go_simp); first | done | with_reducible rfl
            try simp only [Act.put, List.setIfInBounds_toArray, List.set_cons_zero, List.set_cons_succ]
            replace hS := Till.list 0 hS
            refine take_w (i := 1) (v := ?_) (some 55) rfl (by kernel_rfl) rfl (fun _ _ _ h => h) (Or.inl ⟨by rfl, ?_⟩) hS ?_
            rotate_left
            · (intro wq hq; go_simp); first | done | with_reducible rfl
            try simp only [Act.put, List.setIfInBounds_toArray, List.set_cons_zero, List.set_cons_succ]
            replace hS := Till.list 1 hS
            refine take_w (i := 2) (v := ?_) (some 56) rfl (by kernel_rfl) rfl (fun _ _ _ h => h) (Or.inl ⟨by rfl, ?_⟩) hS ?_
            rotate_left
            · (intro wq hq; go_simp); first | done | with_reducible rfl
            try simp only [Act.put, List.setIfInBounds_toArray, List.set_cons_zero, List.set_cons_succ]
            replace hS := Till.list 2 hS
            refine take_w (i := 5) (v := ?_) (some 59) rfl (by kernel_rfl) rfl (fun _ _ _ h => h) (Or.inl ⟨by rfl, ?_⟩) hS ?_
            rotate_left
            · (intro wq hq; go_simp); first | done | with_reducible rfl
            try simp only [Act.put, List.setIfInBounds_toArray, List.set_cons_zero, List.set_cons_succ]
            replace hS := Till.list 5 hS
            refine take_w (i := 8) (v := ?_) (some 62) rfl (by kernel_rfl) rfl (fun _ _ _ h => h) (Or.inl ⟨by rfl, ?_⟩) hS ?_
            rotate_left
            · (intro wq hq; go_simp); first | done | with_reducible rfl
            try simp only [Act.put, List.setIfInBounds_toArray, List.set_cons_zero, List.set_cons_succ]
            replace hS := Till.list 8 hS
            refine take_w (i := 9) (v := ?_) (some 63) rfl (by kernel_rfl) rfl (fun _ _ _ h => h) (Or.inl ⟨by rfl, ?_⟩) hS ?_
            rotate_left
            · (intro wq hq; go_simp); first | done | with_reducible rfl
            try simp only [Act.put, List.setIfInBounds_toArray, List.set_cons_zero, List.set_cons_succ]
            replace hS := Till.list 9 hS
            refine take_w (i := 3) (v := ?_) (some 57) rfl (by kernel_rfl) rfl (fun _ _ _ h => h) (Or.inl ⟨by rfl, ?_⟩) hS ?_
            rotate_left
            · (intro wq hq; go_simp); first | done | with_reducible rfl
            try simp only [Act.put, List.setIfInBounds_toArray, List.set_cons_zero, List.set_cons_succ]
            replace hS := Till.list 3 hS
            refine take_w (i := 10) (v := ?_) (some 64) rfl (by kernel_rfl) rfl (fun _ _ _ h => h) (Or.inl ⟨by rfl, ?_⟩) hS ?_
            rotate_left
            · (intro wq hq; go_simp); first | done | with_reducible rfl
            try simp only [Act.put, List.setIfInBounds_toArray, List.set_cons_zero, List.set_cons_succ]
            replace hS := Till.list 10 hS
            refine take_g (i := 4) (v := ?_) [7, 6, 4] (some 58) rfl (by kernel_rfl) rfl (fun _ _ _ h => h) (Or.inl ⟨by rfl, ?_⟩) hS ?_
            rotate_left
            · (intro wq hq; have q0 := hq _ _ _ c0; have q1 := hq _ _ _ c1; have q2 := hq _ _ _ c2; have q3 := hq _ _ _ c3; have q4 := hq _ _ _ hc6; have q5 := hq _ _ _ hcr; have q6 := hq _ _ _ hcm; go_simp); first | done | with_reducible rfl
            try simp only [Act.put, List.setIfInBounds_toArray, List.set_cons_zero, List.set_cons_succ]
            replace hS := Till.list 4 hS
            refine take_g (i := 11) (v := ?_) [11] (some 65) rfl (by kernel_rfl) rfl (fun _ _ _ h => h) (Or.inl ⟨by rfl, ?_⟩) hS ?_
            rotate_left
            · (intro wq hq; have q0 := hq _ _ _ c0; have q1 := hq _ _ _ c1; have q2 := hq _ _ _ c2; have q3 := hq _ _ _ c3; have q4 := hq _ _ _ hc6; have q5 := hq _ _ _ hcr; have q6 := hq _ _ _ hcm; go_simp); first | done | with_reducible rfl
            try simp only [Act.put, List.setIfInBounds_toArray, List.set_cons_zero, List.set_cons_succ]
            replace hS := Till.list 11 hS
            refine take_w (i := 6) (v := ?_) (some 60) rfl (by kernel_rfl) rfl (fun _ _ _ h => h) (Or.inl ⟨by rfl, ?_⟩) hS ?_
            rotate_left
            · (intro wq hq; go_simp); first | done | with_reducible rfl
            try simp only [Act.put, List.setIfInBounds_toArray, List.set_cons_zero, List.set_cons_succ]
            replace hS := Till.list 6 hS
            refine take_g (i := 7) (v := ?_) [7] (some 61) rfl (by kernel_rfl) rfl (fun _ _ _ h => h) (Or.inl ⟨by rfl, ?_⟩) hS ?_
            rotate_left
            · (intro wq hq; have q0 := hq _ _ _ c0; have q1 := hq _ _ _ c1; have q2 := hq _ _ _ c2; have q3 := hq _ _ _ c3; have q4 := hq _ _ _ hc6; have q5 := hq _ _ _ hcr; have q6 := hq _ _ _ hcm; go_simp); first | done | with_reducible rfl
            try simp only [Act.put, List.setIfInBounds_toArray, List.set_cons_zero, List.set_cons_succ]
            replace hS := Till.list 7 hS
            refine ready_g (rs := [12]) (by kernel_rfl) (by simp) ?_
            refine AllReadyG.cons rfl (fun Kont hK => ?_) AllReadyG.nil
            go_simp
            refine cc.mono ?_
            rintro e w12 ⟨rfl, hb12⟩
            have hb14 := Below.then hbi.drew hb12
            refine hK.out _ _ (Or.inl (by kernel_rfl)) (fun hS0 => ?_)
            clear hK Kont
            try simp only [Act.put, List.setIfInBounds_toArray, List.set_cons_zero, List.set_cons_succ]
            clear hS
            have hS := hS0
            clear hS0
            refine take_w (i := 13) (v := .bool false) (some 67) rfl (by kernel_rfl) rfl (fun _ _ _ h => h) (Or.inl ⟨by rfl, ?_⟩) hS ?_
            · (intro wq hq; (go_simp))
            try simp only [Act.put, List.setIfInBounds_toArray, List.set_cons_zero, List.set_cons_succ]
            replace hS := Till.list 13 hS
            refine take_w (i := 14) (v := ?_) (some 68) rfl (by kernel_rfl) rfl (fun _ _ _ h => h) (Or.inl ⟨by rfl, ?_⟩) hS ?_
            rotate_left
            · (intro wq hq; go_simp); first | done | with_reducible rfl
            try simp only [Act.put, List.setIfInBounds_toArray, List.set_cons_zero, List.set_cons_succ]
            replace hS := Till.list 14 hS
            refine take_w (i := 15) (v := ?_) (some 69) rfl (by kernel_rfl) rfl (fun _ _ _ h => h) (Or.inl ⟨by rfl, ?_⟩) hS ?_
            rotate_left
            · (intro wq hq; go_simp); first | done | with_reducible rfl
            try simp only [Act.put, List.setIfInBounds_toArray, List.set_cons_zero, List.set_cons_succ]
            replace hS := Till.list 15 hS
            refine take_w (i := 17) (v := ?_) (some 71) rfl (by kernel_rfl) rfl (fun _ _ _ h => h) (Or.inl ⟨by rfl, ?_⟩) hS ?_
            rotate_left
            · (intro wq hq; go_simp); first | done | with_reducible rfl
            try simp only [Act.put, List.setIfInBounds_toArray, List.set_cons_zero, List.set_cons_succ]
            replace hS := Till.list 17 hS
            refine take_w (i := 16) (v := ?_) (some 70) rfl (by kernel_rfl) rfl (fun _ _ _ h => h) (Or.inl ⟨by rfl, ?_⟩) hS ?_
            rotate_left
            · (intro wq hq; go_simp); first | done | with_reducible rfl
            try simp only [Act.put, List.setIfInBounds_toArray, List.set_cons_zero, List.set_cons_succ]
            replace hS := Till.list 16 hS
            refine take_w (i := 18) (v := ?_) (some 72) rfl (by kernel_rfl) rfl (fun _ _ _ h => h) (Or.inl ⟨by rfl, ?_⟩) hS ?_
            rotate_left
            · (intro wq hq; go_simp); first | done | with_reducible rfl
            try simp only [Act.put, List.setIfInBounds_toArray, List.set_cons_zero, List.set_cons_succ]
            replace hS := Till.list 18 hS
            refine take_w (i := 19) (v := .bool false) (some 73) rfl (by kernel_rfl) rfl (fun _ _ _ h => h) (Or.inl ⟨by rfl, ?_⟩) hS ?_
            · (intro wq hq; (go_simp <;> omega))
            try simp only [Act.put, List.setIfInBounds_toArray, List.set_cons_zero, List.set_cons_succ]
            replace hS := Till.list 19 hS
            refine take_w (i := 20) (v := ?_) (some 74) rfl (by kernel_rfl) rfl (fun _ _ _ h => h) (Or.inl ⟨by rfl, ?_⟩) hS ?_
            rotate_left
            · (intro wq hq; go_simp); first | done | with_reducible rfl
            try simp only [Act.put, List.setIfInBounds_toArray, List.set_cons_zero, List.set_cons_succ]
            replace hS := Till.list 20 hS
            refine take_w (i := 21) (v := undef) (some 75) rfl (by kernel_rfl) rfl (fun _ _ _ h => h) (Or.inr ⟨by rfl, rfl⟩) hS ?_
            try simp only [Act.put, List.setIfInBounds_toArray, List.set_cons_zero, List.set_cons_succ]
            replace hS := Till.list 21 hS
            refine take_w (i := 22) (v := undef) (some 76) rfl (by kernel_rfl) rfl (fun _ _ _ h => h) (Or.inr ⟨by rfl, rfl⟩) hS ?_
            try simp only [Act.put, List.setIfInBounds_toArray, List.set_cons_zero, List.set_cons_succ]
            replace hS := Till.list 22 hS
            refine take_w (i := 23) (v := undef) (some 77) rfl (by kernel_rfl) rfl (fun _ _ _ h => h) (Or.inr ⟨by rfl, rfl⟩) hS ?_
            try simp only [Act.put, List.setIfInBounds_toArray, List.set_cons_zero, List.set_cons_succ]
            replace hS := Till.list 23 hS
            refine take_w (i := 26) (v := undef) (some 80) rfl (by kernel_rfl) rfl (fun _ _ _ h => h) (Or.inr ⟨by rfl, rfl⟩) hS ?_
            try simp only [Act.put, List.setIfInBounds_toArray, List.set_cons_zero, List.set_cons_succ]
            replace hS := Till.list 26 hS
            refine take_w (i := 29) (v := undef) (some 83) rfl (by kernel_rfl) rfl (fun _ _ _ h => h) (Or.inr ⟨by rfl, rfl⟩) hS ?_
            try simp only [Act.put, List.setIfInBounds_toArray, List.set_cons_zero, List.set_cons_succ]
            replace hS := Till.list 29 hS
            refine take_w (i := 30) (v := undef) (some 84) rfl (by kernel_rfl) rfl (fun _ _ _ h => h) (Or.inr ⟨by rfl, rfl⟩) hS ?_
            try simp only [Act.put, List.setIfInBounds_toArray, List.set_cons_zero, List.set_cons_succ]
            replace hS := Till.list 30 hS
            refine take_w (i := 24) (v := undef) (some 78) rfl (by kernel_rfl) rfl (fun _ _ _ h => h) (Or.inr ⟨by rfl, rfl⟩) hS ?_
            try simp only [Act.put, List.setIfInBounds_toArray, List.set_cons_zero, List.set_cons_succ]
            replace hS := Till.list 24 hS
            refine take_w (i := 31) (v := undef) (some 85) rfl (by kernel_rfl) rfl (fun _ _ _ h => h) (Or.inr ⟨by rfl, rfl⟩) hS ?_
            try simp only [Act.put, List.setIfInBounds_toArray, List.set_cons_zero, List.set_cons_succ]
            replace hS := Till.list 31 hS
            refine take_w (i := 25) (v := undef) (some 79) rfl (by kernel_rfl) rfl (fun _ _ _ h => h) (Or.inr ⟨by rfl, rfl⟩) hS ?_
            try simp only [Act.put, List.setIfInBounds_toArray, List.set_cons_zero, List.set_cons_succ]
            replace hS := Till.list 25 hS
            refine take_w (i := 32) (v := undef) (some 86) rfl (by kernel_rfl) rfl (fun _ _ _ h => h) (Or.inr ⟨by rfl, rfl⟩) hS ?_
            try simp only [Act.put, List.setIfInBounds_toArray, List.set_cons_zero, List.set_cons_succ]
            replace hS := Till.list 32 hS
            refine take_w (i := 27) (v := undef) (some 81) rfl (by kernel_rfl) rfl (fun _ _ _ h => h) (Or.inr ⟨by rfl, rfl⟩) hS ?_
            try simp only [Act.put, List.setIfInBounds_toArray, List.set_cons_zero, List.set_cons_succ]
            replace hS := Till.list 27 hS
            refine take_w (i := 33) (v := undef) (some 87) rfl (by kernel_rfl) rfl (fun _ _ _ h => h) (Or.inr ⟨by rfl, rfl⟩) hS ?_
            try simp only [Act.put, List.setIfInBounds_toArray, List.set_cons_zero, List.set_cons_succ]
            replace hS := Till.list 33 hS
            refine take_w (i := 28) (v := undef) (some 82) rfl (by kernel_rfl) rfl (fun _ _ _ h => h) (Or.inr ⟨by rfl, rfl⟩) hS ?_
            try simp only [Act.put, List.setIfInBounds_toArray, List.set_cons_zero, List.set_cons_succ]
            replace hS := Till.list 28 hS
            refine take_w (i := 34) (v := undef) (some 88) rfl (by kernel_rfl) rfl (fun _ _ _ h => h) (Or.inr ⟨by rfl, rfl⟩) hS ?_
            try simp only [Act.put, List.setIfInBounds_toArray, List.set_cons_zero, List.set_cons_succ]
            replace hS := Till.list 34 hS
            refine take_w (i := 35) (v := undef) (some 89) rfl (by kernel_rfl) rfl (fun _ _ _ h => h) (Or.inr ⟨by rfl, rfl⟩) hS ?_
            try simp only [Act.put, List.setIfInBounds_toArray, List.set_cons_zero, List.set_cons_succ]
            replace hS := Till.list 35 hS
            refine take_w (i := 36) (v := ?_) (some 90) rfl (by kernel_rfl) rfl (fun _ _ _ h => h) (Or.inl ⟨by rfl, ?_⟩) hS ?_
            rotate_left
            · (intro wq hq; go_simp); first | done | with_reducible rfl
            try simp only [Act.put, List.setIfInBounds_toArray, List.set_cons_zero, List.set_cons_succ]
            replace hS := Till.list 36 hS
            refine take_w (i := 37) (v := ?_) (some 91) rfl (by kernel_rfl) rfl (fun _ _ _ h => h) (Or.inl ⟨by rfl, ?_⟩) hS ?_
            rotate_left
            · (intro wq hq; go_simp); first | done | with_reducible rfl
            try simp only [Act.put, List.setIfInBounds_toArray, List.set_cons_zero, List.set_cons_succ]
            replace hS := Till.list 37 hS
            refine done_g (by kernel_rfl) (NoPanic.normal ?_) _
            clear hS
            clear c0 c1 c2 c3 hc6 hcr hcm cc hb12 hb2 hbi
            go_wp2_with fail
            go_roundw
            case rel => exact ⟨y + 1, by omega, by go_num, hb14⟩
            case measure => simp [intOf]; omega
        · have hyi : ¬ (y : Int) < (L5 : Int) := by omega
          have hb2 := Below.then hb hbi
          have hc6 := keepc hc5 hbi
          clear hbi s6
          go_wp2_with fail
          go_roundw
          case rel => exact ⟨x + 1, by omega, by go_num, hb2⟩
          case measure => simp [intOf]; omega
    · have hxi : ¬ (x : Int) < (q : Int) := by omega
      have hw11 := Below.then hw10 hb
      clear g10 m10 hb
      go_wp2_with fail
      go_ret
      exact ⟨rfl, hw11⟩
end Go.Proofs.Ytiigcjncpjdkcaa
/-
  GrainMarks: for every shape and every list of rows the statement's function returns true, and its arguments read as they did. No condition.
-/
namespace Go.Proofs.Ytiigcjncpjdkcaa.grainMarks
open Go.ChangeShapes Go.WideShapes Go.ChangeAt Go.RowKit
set_option linter.unusedVariables false
set_option maxRecDepth 4000

set_option maxRecDepth 100000 in
theorem lifted (os : Os) (started : os.Started) (H : Type) (enc : TypeId × Value → H) :
    ReturnsInHanded {} Try.checked os 6 .any (Rows.grainMarksSpec.pre6 enc Try.prog Try.f6 Rows.grainMarksRow.domain false) (Rows.grainMarksSpec.post enc Try.prog Try.f6 false true false false) := by
  refine returnsInHanded_of_change (C := Try.checked) own started (by kernel_rfl) Try.func6
    (ChangeSpec.witness6 (enc := enc) (C := Try.checked) false ⟨#[], #[.agg #[.int .u8 0, .int .u8 0, .int .u8 0, .int .u8 0, .int .u8 0, .int .u8 0, .int .u8 0, .int .u8 0, .int .u8 0, .int .u8 0, .int .u8 0, .int .u8 0], .slice none 0 0], []⟩ 8 (by kernel_rfl) (by kernel_rfl) (by kernel_rfl) (by kernel_rfl)) ?_
  intro W base args ds gs before hval0 hW hcnd _
  have hval : ∀ (j : Nat) t v, Try.f6.params[j]? = some t → args[j]? = some v → Value.okWide Try.prog W .any base t v := hval0
  have hW' := hW
  obtain ⟨p, q, hA0, hV, rfl, hfz, hnd⟩ := hW
  have hA : DataW.TrodAll enc Try.prog W 0 (fun _ => true) true Try.f6.params.toList args.toList ds p := hA0
  rw [Try.params6] at hA hval
  obtain ⟨v0, vs0, d0, ds0, p0, q0, hargs0, rfl, rfl, h0, r0⟩ := trodAll_cons hA
  obtain ⟨v1, vs1, d1, ds1, p1, q1, hargs1, hds1, hq1, h1, r1⟩ := trodAll_cons r0
  obtain ⟨hn1, hn2, hn3⟩ := trodAll_nil r1
  subst hn2 hn3
  subst hds1 hq1
  obtain rfl : args = #[v0, v1] := by cases args; simp_all
  obtain ⟨rfl, rfl⟩ := trodVars_none hV
  have rd0 := h0
  have lt0 : ∀ x ∈ p0, x.block < W.heap.size := by obtain ⟨m, hm⟩ := rd0; exact DataW.trod_lt m _ _ _ hm
  obtain ⟨la0, lb0, lc0, ld0, le0, lf0, lg0, lh0, na0, nb0, nc0, nd0, rfl, S0⟩ := open_shape (hval 0 24 v0 rfl rfl) h0
  have rd1 := h1
  have lt1 : ∀ x ∈ p1, x.block < W.heap.size := by obtain ⟨m, hm⟩ := rd1; exact DataW.trod_lt m _ _ _ hm
  obtain ⟨A1, n1, c1, v1, rfl, W1, L1, R1⟩ := open_rows4 (hval 1 25 v1 rfl rfl) h1
  clear hA0 hval0
  refine (marksA_is S0 A1 n1 c1 v1 W W1 L1 R1).mono fun e W' ⟨he, bel⟩ => ?_
  subst he
  exact ⟨_, rfl, _, _, _, [], _, [], hW', trodAll_mk1 (shut_bool Try.underlying4 _), (trodAll_cons_mk (Below.trod laidOut (by kernel_rfl) (of_decide_eq_true (by kernel_rfl)) rd0 bel lt0) (trodAll_cons_mk (Below.trod laidOut (by kernel_rfl) (of_decide_eq_true (by kernel_rfl)) rd1 bel lt1) trodAll_mk0)), rfl, bel.frame _, fun h => by cases h⟩

theorem over : Rows.grainMarksRow.holds Try.pinned (OpenSpec.ofChange Rows.grainMarksSpec) :=
  OpenClaim.holds_of_wide 6 Try.f6 rfl rfl rfl rfl rfl rfl rfl ⟨rfl, rfl, rfl, rfl, rfl⟩ rfl rfl rfl rfl rfl (by kernel_rfl) Try.func6 (by kernel_rfl)
    (of_decide_eq_true (by kernel_rfl)) (by unfold Func.isWrapper; first | (rw [if_pos (by decide +kernel)]; kernel_rfl) | (rw [if_neg (by decide +kernel)]; exact ⟨rfl, rfl⟩))
    (fun os started H enc _ => lifted os started H enc)
end Go.Proofs.Ytiigcjncpjdkcaa.grainMarks
namespace Go.Proofs.Ytiigcjncpjdkcaa
theorem grainMarks_holds : Rows.GrainMarksSaid := grainMarks.over
end Go.Proofs.Ytiigcjncpjdkcaa
