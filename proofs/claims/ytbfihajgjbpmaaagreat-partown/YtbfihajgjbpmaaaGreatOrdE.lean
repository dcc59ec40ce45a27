/- Texts that belong together, one behind the other: Q9j. -/
import Derived.Test.YtbfihajgjbpmaaaGreatOrdX
import Derived.Test.YtbfihajgjbpmaaaGreatSchC
/- Contracts of the document's own One, Rows, Fits. -/
namespace Go.Proofs.YtbfihajgjbpmaaaGreat
open Go.ChangeShapes Go.WideShapes Go.ChangeAt Go.RowKit
set_option linter.unusedVariables false
set_option maxRecDepth 4000

set_option maxHeartbeats 2000000 in
theorem one_any (A : Option Addr) (N C : Nat) (l : List (Int × ByteArray)) (A' : Option Addr) (N' C' : Nat) (k : List (Int × ByteArray)) (w : World) (hv : WV w A N l) (hv' : WV w A' N' k) (hN : N ≤ maxLen) (hN' : N' ≤ maxLen) :
    Calls Tryz.prog 43 #[.slice A N C, .slice A' N' C'] w fun e w' => e = .returned (.bool (decide (l = k))) ∧ Below w.heap.size w w' := by
  unfold maxLen at hN hN'
  have hl := Lib.hid (WV.len hv)
  have hl' := Lib.hid (WV.len hv')
  by_cases h1 : N = N'
  · subst h1
    go_enter Tryz.func43, Tryz.ntmps43
    go_wp2_with fail
    go_loopw [5] (fun i wr => ∃ j : Nat, j ≤ N ∧ i = .int .i64 (j : Int) ∧ Hid (∀ i, i < j → l.getD i v0 = k.getD i v0) ∧ Below w.heap.size w wr) (fun i _ => N - (intOf i).toNat)
    case atStart => exact ⟨0, by omega, rfl, Lib.hid (fun i hi => by omega), Below.refl _ _⟩
    case round =>
      obtain ⟨j, hj, rfl, HT, hbel⟩ := hrel
      by_cases hlt : j < N
      · obtain ⟨b, off, rfl, hd1, hd2⟩ := WV.at hv j hlt
        obtain ⟨b', off', rfl, he1, he2⟩ := WV.at hv' j hlt
        replace hd1 := keepc hd1 hbel
        replace hd2 := keepc hd2 hbel
        replace he1 := keepc he1 hbel
        replace he2 := keepc he2 hbel
        have hji : (j : Int) < (N : Int) := by omega
        generalize hx1 : l.getD j v0 = y at hd1 hd2
        generalize hy1 : k.getD j v0 = z at he1 he2
        have HX := Lib.hid hx1
        have HY := Lib.hid hy1
        clear hx1 hy1 hv hv'
        go_wp2_with fail
        refine wp_region_noPanic ?_
        refine region_g 9 (Ext (World.drew _)) (by kernel_rfl) (Ext.refl _) (fun hS => ?_)
        refine take_w (i := 0) (v := ?_) (some 17) rfl (by kernel_rfl) rfl (fun _ _ _ h => h) (Or.inl ⟨by rfl, ?_⟩) hS ?_
        rotate_left
        · (intro wq hq; go_simp); first | done | with_reducible rfl
        try simp only [Act.put, List.setIfInBounds_toArray, List.set_cons_zero, List.set_cons_succ]
        replace hS := Till.list 0 hS
        refine take_w (i := 1) (v := ?_) (some 18) rfl (by kernel_rfl) rfl (fun _ _ _ h => h) (Or.inl ⟨by rfl, ?_⟩) hS ?_
        rotate_left
        · (intro wq hq; go_simp); first | done | with_reducible rfl
        try simp only [Act.put, List.setIfInBounds_toArray, List.set_cons_zero, List.set_cons_succ]
        replace hS := Till.list 1 hS
        refine take_w (i := 4) (v := ?_) (some 21) rfl (by kernel_rfl) rfl (fun _ _ _ h => h) (Or.inl ⟨by rfl, ?_⟩) hS ?_
        rotate_left
        · (intro wq hq; go_simp); first | done | with_reducible rfl
        try simp only [Act.put, List.setIfInBounds_toArray, List.set_cons_zero, List.set_cons_succ]
        replace hS := Till.list 4 hS
        refine take_w (i := 5) (v := ?_) (some 22) rfl (by kernel_rfl) rfl (fun _ _ _ h => h) (Or.inl ⟨by rfl, ?_⟩) hS ?_
        rotate_left
        · (intro wq hq; go_simp); first | done | with_reducible rfl
        try simp only [Act.put, List.setIfInBounds_toArray, List.set_cons_zero, List.set_cons_succ]
        replace hS := Till.list 5 hS
        refine take_w (i := 2) (v := ?_) (some 19) rfl (by kernel_rfl) rfl (fun _ _ _ h => h) (Or.inl ⟨by rfl, ?_⟩) hS ?_
        rotate_left
        · (intro wq hq; go_simp); first | done | with_reducible rfl
        try simp only [Act.put, List.setIfInBounds_toArray, List.set_cons_zero, List.set_cons_succ]
        replace hS := Till.list 2 hS
        refine take_w (i := 6) (v := ?_) (some 23) rfl (by kernel_rfl) rfl (fun _ _ _ h => h) (Or.inl ⟨by rfl, ?_⟩) hS ?_
        rotate_left
        · (intro wq hq; go_simp); first | done | with_reducible rfl
        try simp only [Act.put, List.setIfInBounds_toArray, List.set_cons_zero, List.set_cons_succ]
        replace hS := Till.list 6 hS
        refine take_n (i := 3) (v := ?_) (some 20) rfl (by kernel_rfl) rfl (fun _ _ _ h => h) (Or.inl ⟨by rfl, ?_⟩) hS ?_
        rotate_left
        · (intro wq hq; have q0 := hq _ _ _ hd1; have q1 := hq _ _ _ hd2; have q2 := hq _ _ _ he1; have q3 := hq _ _ _ he2; go_simp); first | done | with_reducible rfl
        try simp only [Act.put, List.setIfInBounds_toArray, List.set_cons_zero, List.set_cons_succ]
        replace hS := Till.list 3 hS
        refine take_n (i := 7) (v := ?_) (some 24) rfl (by kernel_rfl) rfl (fun _ _ _ h => h) (Or.inl ⟨by rfl, ?_⟩) hS ?_
        rotate_left
        · (intro wq hq; have q0 := hq _ _ _ hd1; have q1 := hq _ _ _ hd2; have q2 := hq _ _ _ he1; have q3 := hq _ _ _ he2; go_simp); first | done | with_reducible rfl
        try simp only [Act.put, List.setIfInBounds_toArray, List.set_cons_zero, List.set_cons_succ]
        replace hS := Till.list 7 hS
        refine take_n (i := 8) (v := .bool (!decide (y = z))) (some 25) rfl (by kernel_rfl) rfl (fun _ _ _ h => h) (Or.inl ⟨by rfl, ?_⟩) hS ?_
        · (intro wq hq; (go_simp; exact eqv_ne y z wq))
        try simp only [Act.put, List.setIfInBounds_toArray, List.set_cons_zero, List.set_cons_succ]
        replace hS := Till.list 8 hS
        refine done_g (by kernel_rfl) (NoPanic.normal ?_) _
        clear hS
        clear hd1 hd2 he1 he2
        by_cases hxy : y = z
        · have HT' : Hid (∀ i, i < j + 1 → l.getD i v0 = k.getD i v0) := Lib.hid (fun i hi => by
            by_cases hij : i < j
            · exact HT.out i hij
            · obtain rfl : i = j := by omega
              rw [HX.out, HY.out, hxy])
          rw [decide_eq_true hxy]
          clear hxy
          go_wp2_with fail
          go_roundw
          case rel => exact ⟨j + 1, by omega, by go_num, HT', hbel.drew⟩
          case measure => simp [intOf]; omega
        · have HF : Hid (decide (l = k) = false) := Lib.hid (decide_eq_false (fun h => hxy (by rw [← HX.out, ← HY.out, h])))
          rw [decide_eq_false hxy]
          clear hxy
          go_wp2_with fail
          go_ret
          exact ⟨by rw [HF.out]; rfl, hbel.drew⟩
      · obtain rfl : j = N := by omega
        have HF : Hid (decide (l = k) = true) := Lib.hid (decide_eq_true (listV_getD (by rw [hl.out, hl'.out]) (fun i hi => HT.out i (by rw [← hl.out]; exact hi))))
        go_wp2_with fail
        go_ret
        exact ⟨by rw [HF.out]; rfl, hbel⟩
  · have hne : ((N : Int) == (N' : Int)) = false := by rw [beq_eq_false_iff_ne]; omega
    have HF : Hid (decide (l = k) = false) := Lib.hid (decide_eq_false (fun h => h1 (by rw [← hl.out, ← hl'.out, h])))
    clear hv hv'
    go_enter Tryz.func43, Tryz.ntmps43
    go_wp2_with fail
    go_ret
    exact ⟨by rw [HF.out]; rfl, Below.refl _ _⟩
theorem rows_getD {a b : List RowV} (hl : a.length = b.length) (h : ∀ i, i < a.length → a.getD i [] = b.getD i []) : a = b := by
  refine List.ext_getElem hl (fun i h1 h2 => ?_)
  have := h i h1
  simpa [List.getD, h1, h2] using this
set_option maxHeartbeats 2000000 in
theorem rrows_any (A : Option Addr) (N C : Nat) (l : List RowV) (A' : Option Addr) (N' C' : Nat) (k : List RowV) (w : World) (hv : RVs w A N l) (hv' : RVs w A' N' k) (hN : N ≤ maxLen) (hN' : N' ≤ maxLen) :
    Calls Tryz.prog 23 #[.slice A N C, .slice A' N' C'] w fun e w' => e = .returned (.bool (decide (l = k))) ∧ Below w.heap.size w w' := by
  unfold maxLen at hN hN'
  have hl := Lib.hid hv.1
  have hl' := Lib.hid hv'.1
  by_cases h1 : N = N'
  · subst h1
    go_enter Tryz.func23, Tryz.ntmps23
    go_wp2_with fail
    go_loopw [5] (fun i wr => ∃ j : Nat, j ≤ N ∧ i = .int .i64 (j : Int) ∧ Hid (∀ i, i < j → l.getD i [] = k.getD i []) ∧ Below w.heap.size w wr) (fun i _ => N - (intOf i).toNat)
    case atStart => exact ⟨0, by omega, rfl, Lib.hid (fun i hi => by omega), Below.refl _ _⟩
    case round =>
      obtain ⟨j, hj, rfl, HT, hbel⟩ := hrel
      by_cases hlt : j < N
      · obtain ⟨b, off, A1, L1, C1, rfl, hc1, hL1, hw1⟩ := hv.at j hlt
        obtain ⟨b', off', A2, L2, C2, rfl, hc2, hL2, hw2⟩ := hv'.at j hlt
        replace hc1 := keepc hc1 hbel
        replace hc2 := keepc hc2 hbel
        have hji : (j : Int) < (N : Int) := by omega
        have cc := one_any A1 L1 C1 _ A2 L2 C2 _ wr.drew (hw1.below hbel.drew) (hw2.below hbel.drew) hL1 hL2
        generalize hx1 : l.getD j [] = y at cc
        generalize hy1 : k.getD j [] = z at cc
        have HX := Lib.hid hx1
        have HY := Lib.hid hy1
        clear hx1 hy1 hv hv' hw1 hw2
        go_wp2_with fail
        refine wp_region_noPanic ?_
        refine region_g 8 (Ext (World.drew _)) (by kernel_rfl) (Ext.refl _) (fun hS => ?_)
        refine take_w (i := 0) (v := ?_) (some 18) rfl (by kernel_rfl) rfl (fun _ _ _ h => h) (Or.inl ⟨by rfl, ?_⟩) hS ?_
        rotate_left
        · (intro wq hq; go_simp); first | done | with_reducible rfl
        try simp only [Act.put, List.setIfInBounds_toArray, List.set_cons_zero, List.set_cons_succ]
        replace hS := Till.list 0 hS
        refine take_w (i := 1) (v := ?_) (some 19) rfl (by kernel_rfl) rfl (fun _ _ _ h => h) (Or.inl ⟨by rfl, ?_⟩) hS ?_
        rotate_left
        · (intro wq hq; go_simp); first | done | with_reducible rfl
        try simp only [Act.put, List.setIfInBounds_toArray, List.set_cons_zero, List.set_cons_succ]
        replace hS := Till.list 1 hS
        refine take_w (i := 4) (v := ?_) (some 22) rfl (by kernel_rfl) rfl (fun _ _ _ h => h) (Or.inl ⟨by rfl, ?_⟩) hS ?_
        rotate_left
        · (intro wq hq; go_simp); first | done | with_reducible rfl
        try simp only [Act.put, List.setIfInBounds_toArray, List.set_cons_zero, List.set_cons_succ]
        replace hS := Till.list 4 hS
        refine take_w (i := 5) (v := ?_) (some 23) rfl (by kernel_rfl) rfl (fun _ _ _ h => h) (Or.inl ⟨by rfl, ?_⟩) hS ?_
        rotate_left
        · (intro wq hq; go_simp); first | done | with_reducible rfl
        try simp only [Act.put, List.setIfInBounds_toArray, List.set_cons_zero, List.set_cons_succ]
        replace hS := Till.list 5 hS
        refine take_w (i := 2) (v := ?_) (some 20) rfl (by kernel_rfl) rfl (fun _ _ _ h => h) (Or.inl ⟨by rfl, ?_⟩) hS ?_
        rotate_left
        · (intro wq hq; go_simp); first | done | with_reducible rfl
        try simp only [Act.put, List.setIfInBounds_toArray, List.set_cons_zero, List.set_cons_succ]
        replace hS := Till.list 2 hS
        refine take_w (i := 6) (v := ?_) (some 24) rfl (by kernel_rfl) rfl (fun _ _ _ h => h) (Or.inl ⟨by rfl, ?_⟩) hS ?_
        rotate_left
        · (intro wq hq; go_simp); first | done | with_reducible rfl
        try simp only [Act.put, List.setIfInBounds_toArray, List.set_cons_zero, List.set_cons_succ]
        replace hS := Till.list 6 hS
        refine take_g (i := 3) (v := ?_) [3] (some 21) rfl (by kernel_rfl) rfl (fun _ _ _ h => h) (Or.inl ⟨by rfl, ?_⟩) hS ?_
        rotate_left
        · (intro wq hq; have q0 := hq _ _ _ hc1; have q1 := hq _ _ _ hc2; go_simp); first | done | with_reducible rfl
        try simp only [Act.put, List.setIfInBounds_toArray, List.set_cons_zero, List.set_cons_succ]
        replace hS := Till.list 3 hS
        refine take_g (i := 7) (v := ?_) [7] (some 25) rfl (by kernel_rfl) rfl (fun _ _ _ h => h) (Or.inl ⟨by rfl, ?_⟩) hS ?_
        rotate_left
        · (intro wq hq; have q0 := hq _ _ _ hc1; have q1 := hq _ _ _ hc2; go_simp); first | done | with_reducible rfl
        try simp only [Act.put, List.setIfInBounds_toArray, List.set_cons_zero, List.set_cons_succ]
        replace hS := Till.list 7 hS
        refine ready_g (rs := [8]) (by kernel_rfl) (by simp) ?_
        refine AllReadyG.cons rfl (fun Kont hK => ?_) AllReadyG.nil
        go_simp
        refine cc.mono ?_
        rintro e w' ⟨rfl, hb'⟩
        refine hK.out _ _ (Or.inl (by kernel_rfl)) (fun hS0 => ?_)
        clear hK Kont
        try simp only [Act.put, List.setIfInBounds_toArray, List.set_cons_zero, List.set_cons_succ]
        clear hS
        have hS := hS0
        clear hS0
        refine take_w (i := 9) (v := ?_) (some 6) rfl (by kernel_rfl) rfl (fun _ _ _ h => h) (Or.inl ⟨by rfl, ?_⟩) hS ?_
        rotate_left
        · (intro wq hq; go_simp); first | done | with_reducible rfl
        try simp only [Act.put, List.setIfInBounds_toArray, List.set_cons_zero, List.set_cons_succ]
        replace hS := Till.list 9 hS
        refine done_g (by kernel_rfl) (NoPanic.normal ?_) _
        clear hS
        have hb2 := Below.then hbel.drew hb'
        clear hc1 hc2 cc hb' hbel
        by_cases hxy : y = z
        · have HT' : Hid (∀ i, i < j + 1 → l.getD i [] = k.getD i []) := Lib.hid (fun i hi => by
            by_cases hij : i < j
            · exact HT.out i hij
            · obtain rfl : i = j := by omega
              rw [HX.out, HY.out, hxy])
          rw [decide_eq_true hxy]
          clear hxy
          go_wp2_with fail
          go_roundw
          case rel => exact ⟨j + 1, by omega, by go_num, HT', hb2⟩
          case measure => simp [intOf]; omega
        · have HF : Hid (decide (l = k) = false) := Lib.hid (decide_eq_false (fun h => hxy (by rw [← HX.out, ← HY.out, h])))
          rw [decide_eq_false hxy]
          clear hxy
          go_wp2_with fail
          go_ret
          exact ⟨by rw [HF.out]; rfl, hb2⟩
      · obtain rfl : j = N := by omega
        have HF : Hid (decide (l = k) = true) := Lib.hid (decide_eq_true (rows_getD (by rw [hl.out, hl'.out]) (fun i hi => HT.out i (by rw [← hl.out]; exact hi))))
        go_wp2_with fail
        go_ret
        exact ⟨by rw [HF.out]; rfl, hbel⟩
  · have hne : ((N : Int) == (N' : Int)) = false := by rw [beq_eq_false_iff_ne]; omega
    have HF : Hid (decide (l = k) = false) := Lib.hid (decide_eq_false (fun h => h1 (by rw [← hl.out, ← hl'.out, h])))
    clear hv hv'
    go_enter Tryz.func23, Tryz.ntmps23
    go_wp2_with fail
    go_ret
    exact ⟨by rw [HF.out]; rfl, Below.refl _ _⟩
theorem OwnRows.lower {w : World} {base base' : Nat} {v : Value} {j : Nat} {vss : List RowV} (h : OwnRows w base v j vss) (hb : base' ≤ base) : OwnRows w base' v j vss := by
  obtain ⟨cs, h1, h2, h3⟩ := h
  exact ⟨cs, h1.lower hb, h2, h3⟩
/-- what Fits makes of rows -/
def fitsL (ts : List Int) (vss : List RowV) (most : Nat) : List RowV := (vss.take most).map (fitR ts)
theorem fitsL_snoc (ts : List Int) (vss : List RowV) (j : Nat) (h : j < vss.length) : fitsL ts vss (j + 1) = fitsL ts vss j ++ [fitR ts (vss.getD j [])] := by
  unfold fitsL
  rw [List.take_succ_eq_append_getElem h, List.map_append]
  simp [List.getD, h]
set_option maxHeartbeats 2000000 in
theorem fits_rows (A : Option Addr) (N C : Nat) (ts : List Int) (K : Nat) (m g : Int) (R : Option Addr) (n c : Nat) (vss : List RowV) (most : Nat) (w : World) (hv : IV w A N ts) (hN : N ≤ 1000) (hr : RVs w R n vss) (hn : n ≤ maxLen) (hmost : most ≤ 1000) :
    Calls Tryz.prog 17 #[SS A N C K m g, .slice R n c, .int .i64 (most : Int)] w fun e w' => ∃ (j : Nat) (v : Value), e = .returned v ∧ j ≤ most ∧ OwnRows w' w.heap.size v j (fitsL ts vss most) ∧ Below w.heap.size w w' := by
  unfold maxLen at hn
  have hl := Lib.hid hr.1
  have t0 := (Bk.new w #[.slice A N C, .int .i64 K, .int .i64 m, .int .i64 g] 24).alloc (.cells #[] 46)
  have or0 : OwnRows ((w.alloc (.cells #[.slice A N C, .int .i64 K, .int .i64 m, .int .i64 g] 24)).alloc (.cells #[] 46)) (w.heap.size + 1) (.slice (some ⟨w.heap.size + 1, 0, none⟩) 0 0) 0 [] := ⟨[], OS.lit (k := 1) (w.alloc (.cells #[.slice A N C, .int .i64 K, .int .i64 m, .int .i64 g] 24)) (w.heap.size + 1) (by simp) [] 0 46 rfl (by simp) (by simp) _ (by simp), rfl, fun i hi => by omega⟩
  have hb0 := Joins.below_alloc2 w (.cells #[.slice A N C, .int .i64 K, .int .i64 m, .int .i64 g] 24) (.cells #[] 46)
  go_enter Tryz.func17, Tryz.ntmps17
  go_wp2_with fail
  go_loopw [7, 8] (fun o i wr => ∃ (j : Nat), j ≤ n ∧ j ≤ most ∧ i = .int .i64 (j : Int) ∧ OwnRows wr (w.heap.size + 1) o j (fitsL ts vss j) ∧ Bk wr w.heap.size #[.slice A N C, .int .i64 K, .int .i64 m, .int .i64 g] 24 ∧ Below w.heap.size w wr) (fun _ i _ => most - (intOf i).toNat)
  case atStart => exact ⟨0, by omega, by omega, rfl, by simpa [fitsL] using or0, t0, hb0⟩
  case round =>
    clear or0 t0 hb0
    obtain ⟨j, hj, hj2, rfl, orr, t, hb⟩ := hrel
    by_cases hlt : j < n ∧ j < most
    · obtain ⟨hlt, hlm⟩ := hlt
      have hji : (j : Int) < (n : Int) := by omega
      have hjm : (j : Int) < (most : Int) := by omega
      obtain ⟨b, off, A1, L1, C1, rfl, hc, hL1, hw1⟩ := hr.at j hlt
      have hc := keepc hc hb
      have HS := Lib.hid (fitsL_snoc ts vss j (by rw [hl.out]; exact hlt))
      have cc := rfit_any A N C ts K m g A1 L1 C1 (vss.getD j []) wr.drew (hv.below hb.drew) hN (hw1.below hb.drew) hL1
      generalize vss.getD j [] = rj at cc HS
      obtain ⟨fs, hfs⟩ : ∃ fs, fitsL ts vss j = fs := ⟨_, rfl⟩
      rw [hfs] at orr HS
      clear hfs hw1
      obtain ⟨c0, c1, c2, c3⟩ := t.sx
      go_wp2_with fail
      refine wp_region_noPanic ?_
      refine region_g 6 (Ext (World.drew _)) (by kernel_rfl) (Ext.refl _) (fun hS => ?_)
      refine take_w (i := 0) (v := ?_) (some 21) rfl (by kernel_rfl) rfl (fun _ _ _ h => h) (Or.inl ⟨by rfl, ?_⟩) hS ?_
      rotate_left
      · (intro wq hq; go_simp); first | done | with_reducible rfl
      try simp only [Act.put, List.setIfInBounds_toArray, List.set_cons_zero, List.set_cons_succ]
      replace hS := Till.list 0 hS
      refine take_g (i := 1) (v := ?_) [1] (some 22) rfl (by kernel_rfl) rfl (fun _ _ _ h => h) (Or.inl ⟨by rfl, ?_⟩) hS ?_
      rotate_left
      · (intro wq hq; have q0 := hq _ _ _ c0; have q1 := hq _ _ _ c1; have q2 := hq _ _ _ c2; have q3 := hq _ _ _ c3; have q4 := hq _ _ _ hc; go_simp); first | done | with_reducible rfl
      try simp only [Act.put, List.setIfInBounds_toArray, List.set_cons_zero, List.set_cons_succ]
      replace hS := Till.list 1 hS
      refine take_w (i := 2) (v := ?_) (some 23) rfl (by kernel_rfl) rfl (fun _ _ _ h => h) (Or.inl ⟨by rfl, ?_⟩) hS ?_
      rotate_left
      · (intro wq hq; go_simp); first | done | with_reducible rfl
      try simp only [Act.put, List.setIfInBounds_toArray, List.set_cons_zero, List.set_cons_succ]
      replace hS := Till.list 2 hS
      refine take_w (i := 3) (v := ?_) (some 24) rfl (by kernel_rfl) rfl (fun _ _ _ h => h) (Or.inl ⟨by rfl, ?_⟩) hS ?_
      rotate_left
      · (intro wq hq; go_simp); first | done | with_reducible rfl
      try simp only [Act.put, List.setIfInBounds_toArray, List.set_cons_zero, List.set_cons_succ]
      replace hS := Till.list 3 hS
      refine take_w (i := 4) (v := ?_) (some 25) rfl (by kernel_rfl) rfl (fun _ _ _ h => h) (Or.inl ⟨by rfl, ?_⟩) hS ?_
      rotate_left
      · (intro wq hq; go_simp); first | done | with_reducible rfl
      try simp only [Act.put, List.setIfInBounds_toArray, List.set_cons_zero, List.set_cons_succ]
      replace hS := Till.list 4 hS
      refine take_g (i := 5) (v := ?_) [5] (some 26) rfl (by kernel_rfl) rfl (fun _ _ _ h => h) (Or.inl ⟨by rfl, ?_⟩) hS ?_
      rotate_left
      · (intro wq hq; have q0 := hq _ _ _ c0; have q1 := hq _ _ _ c1; have q2 := hq _ _ _ c2; have q3 := hq _ _ _ c3; have q4 := hq _ _ _ hc; go_simp); first | done | with_reducible rfl
      try simp only [Act.put, List.setIfInBounds_toArray, List.set_cons_zero, List.set_cons_succ]
      replace hS := Till.list 5 hS
      refine ready_g (rs := [6]) (by kernel_rfl) (by simp) ?_
      refine AllReadyG.cons rfl (fun Kont hK => ?_) AllReadyG.nil
      go_simp
      refine cc.mono ?_
      rintro e w5 ⟨a5, c5, rfl, o5, hb5⟩
      refine hK.out _ _ (Or.inl (by kernel_rfl)) (fun hS0 => ?_)
      clear hK Kont
      try simp only [Act.put, List.setIfInBounds_toArray, List.set_cons_zero, List.set_cons_succ]
      clear hS
      have hS := hS0
      clear hS0
      have ro5 : RO w5 u7.ownBlock (.slice a5 N c5) (fitR ts rj) := RO.own o5 (fun b hb => by have := orr.lt b hb; exact this)
      have t5 := Bk.below (w := wr.drew) t hb5
      have or5 := OwnRows.below (w := wr.drew) orr hb5
      have hb2 := Below.then hb.drew hb5
      clear c0 c1 c2 c3 cc hc orr t o5 hb hb5
      obtain ⟨cs, ocs, hlr, hro⟩ := or5
      have ho6 := ocs.alloc (.cells #[.slice a5 N c5] 46)
      have hcl : cs.length = j := by have := ocs.1; omega
      have hbs := t5.lt
      have hsv : SV 1 (w5.alloc (.cells #[.slice a5 N c5] 46)) (some ⟨w5.heap.size, 0, none⟩) 1 [.slice a5 N c5] := SV.lit' (k := 1) w5 [.slice a5 N c5] 1 46 rfl (by simp [Value.oneCell']) _ rfl
      have hbase : w.heap.size + 1 ≤ (w5.alloc (.cells #[.slice a5 N c5] 46)).heap.size := by rw [heap_alloc]; omega
      refine ready_g (rs := [7]) (by kernel_rfl) (by simp) ?_
      refine AllReadyG.cons rfl (fun Kont hK => ?_) AllReadyG.nil
      go_simp
      refine hK.out _ _ (Or.inl (by kernel_rfl)) (fun hS0 => ?_)
      clear hK Kont
      try simp only [Act.put, List.setIfInBounds_toArray, List.set_cons_zero, List.set_cons_succ]
      clear hS
      have hS := hS0
      clear hS0
      refine ready_g (rs := [8]) (by kernel_rfl) (by simp) ?_
      refine AllReadyG.cons rfl (fun Kont hK => ?_) AllReadyG.nil
      refine want (by kernel_rfl) ?_
      refine wp_append_os2 el_rows (some 29) rfl (.tmp 21) (.tmp 28) rfl (w.heap.size + 1) u7 j _ rfl ho6 _ 1 1 [.slice a5 N c5] rfl hsv (by omega) (by omega) hbase ?_
      intro v6 w6 ho7 hb6 hk6 hst6
      refine hK.out _ _ (Or.inl (by kernel_rfl)) (fun hS0 => ?_)
      clear hK Kont
      try simp only [Act.put, List.setIfInBounds_toArray, List.set_cons_zero, List.set_cons_succ]
      clear hS
      have hS := hS0
      clear hS0
      have hba := Joins.below_alloc1 w5 (.cells #[.slice a5 N c5] 46)
      have or6 := OwnRows.snoc (v := u7) ho7 hlr hcl (fun i hi => (hro i hi).below hba) (ro5.below hba) hk6 hst6
      have t6 := (t5.alloc (.cells #[.slice a5 N c5] 46)).low hb6 (by omega)
      have hb7 := (hb2.alloc hb2.size (.cells #[.slice a5 N c5] 46)).trans (hb6.mono (by omega))
      clear ho6 ho7 hb6 hk6 hst6 hba ro5 hro ocs hlr hcl cs t5 hb2 hsv hbase
      rw [← HS.out] at or6
      refine take_w (i := 9) (v := ?_) (some 7) rfl (by kernel_rfl) rfl (fun _ _ _ h => h) (Or.inl ⟨by rfl, ?_⟩) hS ?_
      rotate_left
      · (intro wq hq; go_simp); first | done | with_reducible rfl
      try simp only [Act.put, List.setIfInBounds_toArray, List.set_cons_zero, List.set_cons_succ]
      replace hS := Till.list 9 hS
      refine done_g (by kernel_rfl) (NoPanic.normal ?_) _
      clear hS
      go_wp2_with fail
      go_roundw
      case rel => exact ⟨j + 1, by omega, by omega, by go_num, or6, t6, hb7⟩
      case measure => simp [intOf]; omega
    · have HE : Hid (fitsL ts vss j = fitsL ts vss most) := by
        show fitsL ts vss j = _
        unfold fitsL
        by_cases h : j < n
        · rw [show j = most by omega]
        · rw [List.take_of_length_le (by rw [hl.out]; omega), List.take_of_length_le (by rw [hl.out]; omega)]
      rw [HE.out] at orr
      by_cases h1 : j < n
      · have hji : (j : Int) < (n : Int) := by omega
        have hjm : ¬ (j : Int) < (most : Int) := by omega
        go_wp2_with fail
        go_ret
        exact ⟨j, _, rfl, hj2, orr.lower (by omega), hb⟩
      · have hji : ¬ (j : Int) < (n : Int) := by omega
        go_wp2_with fail
        go_ret
        exact ⟨j, _, rfl, hj2, orr.lower (by omega), hb⟩
end Go.Proofs.YtbfihajgjbpmaaaGreat
