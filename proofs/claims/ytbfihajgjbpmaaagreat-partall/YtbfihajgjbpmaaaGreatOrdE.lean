/- Texts that belong together, one behind the other: Q9j. -/
import Derived.Test.YtbfihajgjbpmaaaGreatOrdX
import Derived.Test.YtbfihajgjbpmaaaGreatSchC
/- Contracts of the document's own One, Rows, Fits. -/
namespace Go.Proofs.YtbfihajgjbpmaaaGreat
open Go.ChangeShapes Go.WideShapes Go.ChangeAt Go.RowKit
set_option linter.unusedVariables false
set_option maxRecDepth 4000

set_option maxHeartbeats 2000000 in
theorem one_any (A : Option Addr) (N C : Nat) (l : List (Int × ByteArray)) (A' : Option Addr) (N' C' : Nat) (k : List (Int × ByteArray)) (w : World) (hv : WV w A N l) (hv' : WV w A' N' k) (hN : N ≤ maxLen) (hN' : N' ≤ maxLen) :
    Calls Tryz.prog 43 #[.slice A N C, .slice A' N' C'] w fun e w' => e = .returned (.bool (decide (l = k))) ∧ Below w.heap.size w w' := by
  unfold maxLen at hN hN'
  have hl := Lib.hid (WV.len hv)
  have hl' := Lib.hid (WV.len hv')
  by_cases h1 : N = N'
  · subst h1
    go_enter Tryz.func43, Tryz.ntmps43
    go_wp2_with fail
    go_loopw [5] (fun i wr => ∃ j : Nat, j ≤ N ∧ i = .int .i64 (j : Int) ∧ Hid (∀ i, i < j → l.getD i v0 = k.getD i v0) ∧ Below w.heap.size w wr) (fun i _ => N - (intOf i).toNat)
    case atStart => exact ⟨0, by omega, rfl, Lib.hid (fun i hi => by omega), Below.refl _ _⟩
    case round =>
      obtain ⟨j, hj, rfl, HT, hbel⟩ := hrel
      by_cases hlt : j < N
      · obtain ⟨b, off, rfl, hd1, hd2⟩ := WV.at hv j hlt
        obtain ⟨b', off', rfl, he1, he2⟩ := WV.at hv' j hlt
        replace hd1 := keepc hd1 hbel
        replace hd2 := keepc hd2 hbel
        replace he1 := keepc he1 hbel
        replace he2 := keepc he2 hbel
        have hji : (j : Int) < (N : Int) := by omega
        generalize hx1 : l.getD j v0 = y at hd1 hd2
        generalize hy1 : k.getD j v0 = z at he1 he2
        have HX := Lib.hid hx1
        have HY := Lib.hid hy1
        clear hx1 hy1 hv hv'
        go_wp2_with fail
        refine wp_region_noPanic ?_
        refine region_g 9 (Ext (World.drew _)) (by kernel_rfl) (Ext.refl _) (fun hS => ?_)
        refine take_w (i := 0) (v := ?_) (some 17) rfl (by kernel_rfl) rfl (fun _ _ _ h => h) (Or.inl ⟨by rfl, ?_⟩) hS ?_
        rotate_left
        · (intro wq hq; go_simp); first | done | with_reducible rfl
        try simp only [Act.put, List.setIfInBounds_toArray, List.set_cons_zero, List.set_cons_succ]
        replace hS := Till.list 0 hS
        refine take_w (i := 1) (v := ?_) (some 18) rfl (by kernel_rfl) rfl (fun _ _ _ h => h) (Or.inl ⟨by rfl, ?_⟩) hS ?_
        rotate_left
        · (intro wq hq; go_simp); first | done | with_reducible rfl
        try simp only [Act.put, List.setIfInBounds_toArray, List.set_cons_zero, List.set_cons_succ]
        replace hS := Till.list 1 hS
        refine take_w (i := 4) (v := ?_) (some 21) rfl (by kernel_rfl) rfl (fun _ _ _ h => h) (Or.inl ⟨by rfl, ?_⟩) hS ?_
        rotate_left
        · (intro wq hq; go_simp); first | done | with_reducible rfl
        try simp only [Act.put, List.setIfInBounds_toArray, List.set_cons_zero, List.set_cons_succ]
        replace hS := Till.list 4 hS
        refine take_w (i := 5) (v := ?_) (some 22) rfl (by kernel_rfl) rfl (fun _ _ _ h => h) (Or.inl ⟨by rfl, ?_⟩) hS ?_
        rotate_left
        · (intro wq hq; go_simp); first | done | with_reducible rfl
        try simp only [Act.put, List.setIfInBounds_toArray, List.set_cons_zero, List.set_cons_succ]
        replace hS := Till.list 5 hS
        refine take_w (i := 2) (v := ?_) (some 19) rfl (by kernel_rfl) rfl (fun _ _ _ h => h) (Or.inl ⟨by rfl, ?_⟩) hS ?_
        rotate_left
        · (intro wq hq; go_simp); first | done | with_reducible rfl
        try simp only [Act.put, List.setIfInBounds_toArray, List.set_cons_zero, List.set_cons_succ]
        replace hS := Till.list 2 hS
        refine take_w (i := 6) (v := ?_) (some 23) rfl (by kernel_rfl) rfl (fun _ _ _ h => h) (Or.inl ⟨by rfl, ?_⟩) hS ?_
        rotate_left
        · (intro wq hq; go_simp); first | done | with_reducible rfl
        try simp only [Act.put, List.setIfInBounds_toArray, List.set_cons_zero, List.set_cons_succ]
        replace hS := Till.list 6 hS
        refine take_n (i := 3) (v := ?_) (some 20) rfl (by kernel_rfl) rfl (fun _ _ _ h => h) (Or.inl ⟨by rfl, ?_⟩) hS ?_
        rotate_left
        · (intro wq hq; have q0 := hq _ _ _ hd1; have q1 := hq _ _ _ hd2; have q2 := hq _ _ _ he1; have q3 := hq _ _ _ he2; go_simp); first | done | with_reducible rfl
        try simp only [Act.put, List.setIfInBounds_toArray, List.set_cons_zero, List.set_cons_succ]
        replace hS := Till.list 3 hS
        refine take_n (i := 7) (v := ?_) (some 24) rfl (by kernel_rfl) rfl (fun _ _ _ h => h) (Or.inl ⟨by rfl, ?_⟩) hS ?_
        rotate_left
        · (intro wq hq; have q0 := hq _ _ _ hd1; have q1 := hq _ _ _ hd2; have q2 := hq _ _ _ he1; have q3 := hq _ _ _ he2; go_simp); first | done | with_reducible rfl
        try simp only [Act.put, List.setIfInBounds_toArray, List.set_cons_zero, List.set_cons_succ]
        replace hS := Till.list 7 hS
        refine take_n (i := 8) (v := .bool (!decide (y = z))) (some 25) rfl (by kernel_rfl) rfl (fun _ _ _ h => h) (Or.inl ⟨by rfl, ?_⟩) hS ?_
        · (intro wq hq; (go_simp; exact eqv_ne y z wq))
        try simp only [Act.put, List.setIfInBounds_toArray, List.set_cons_zero, List.set_cons_succ]
        replace hS := Till.list 8 hS
        refine done_g (by kernel_rfl) (NoPanic.normal ?_) _
        clear hS
        clear hd1 hd2 he1 he2
        by_cases hxy : y = z
        · have HT' : Hid (∀ i, i < j + 1 → l.getD i v0 = k.getD i v0) := Lib.hid (fun i hi => by
            by_cases hij : i < j
            · exact HT.out i hij
            · obtain rfl : i = j := by omega
              rw [HX.out, HY.out, hxy])
          rw [decide_eq_true hxy]
          clear hxy
          go_wp2_with fail
          go_roundw
          case rel => exact ⟨j + 1, by omega, by go_num, HT', hbel.drew⟩
          case measure => simp [intOf]; omega
        · have HF : Hid (decide (l = k) = false) := Lib.hid (decide_eq_false (fun h => hxy (by rw [← HX.out, ← HY.out, h])))
          rw [decide_eq_false hxy]
          clear hxy
          go_wp2_with fail
          go_ret
          exact ⟨by rw [HF.out]; rfl, hbel.drew⟩
      · obtain rfl : j = N := by omega
        have HF : Hid (decide (l = k) = true) := Lib.hid (decide_eq_true (listV_getD (by rw [hl.out, hl'.out]) (fun i hi => HT.out i (by rw [← hl.out]; exact hi))))
        go_wp2_with fail
        go_ret
        exact ⟨by rw [HF.out]; rfl, hbel⟩
  · have hne : ((N : Int) == (N' : Int)) = false := by rw [beq_eq_false_iff_ne]; omega
    have HF : Hid (decide (l = k) = false) := Lib.hid (decide_eq_false (fun h => h1 (by rw [← hl.out, ← hl'.out, h])))
    clear hv hv'
    go_enter Tryz.func43, Tryz.ntmps43
    go_wp2_with fail
    go_ret
    exact ⟨by rw [HF.out]; rfl, Below.refl _ _⟩
theorem rows_getD {a b : List RowV} (hl : a.length = b.length) (h : ∀ i, i < a.length → a.getD i [] = b.getD i []) : a = b := by
  refine List.ext_getElem hl (fun i h1 h2 => ?_)
  have := h i h1
  simpa [List.getD, h1, h2] using this
set_option maxHeartbeats 2000000 in
theorem rrows_any (A : Option Addr) (N C : Nat) (l : List RowV) (A' : Option Addr) (N' C' : Nat) (k : List RowV) (w : World) (hv : RVs w A N l) (hv' : RVs w A' N' k) (hN : N ≤ maxLen) (hN' : N' ≤ maxLen) :
    Calls Tryz.prog 23 #[.slice A N C, .slice A' N' C'] w fun e w' => e = .returned (.bool (decide (l = k))) ∧ Below w.heap.size w w' := by
  unfold maxLen at hN hN'
  have hl := Lib.hid hv.1
  have hl' := Lib.hid hv'.1
  by_cases h1 : N = N'
  · subst h1
    go_enter Tryz.func23, Tryz.ntmps23
    go_wp2_with fail
    go_loopw [5] (fun i wr => ∃ j : Nat, j ≤ N ∧ i = .int .i64 (j : Int) ∧ Hid (∀ i, i < j → l.getD i [] = k.getD i []) ∧ Below w.heap.size w wr) (fun i _ => N - (intOf i).toNat)
    case atStart => exact ⟨0, by omega, rfl, Lib.hid (fun i hi => by omega), Below.refl _ _⟩
    case round =>
      obtain ⟨j, hj, rfl, HT, hbel⟩ := hrel
      by_cases hlt : j < N
      · obtain ⟨b, off, A1, L1, C1, rfl, hc1, hL1, hw1⟩ := hv.at j hlt
        obtain ⟨b', off', A2, L2, C2, rfl, hc2, hL2, hw2⟩ := hv'.at j hlt
        replace hc1 := keepc hc1 hbel
        replace hc2 := keepc hc2 hbel
        have hji : (j : Int) < (N : Int) := by omega
        have cc := one_any A1 L1 C1 _ A2 L2 C2 _ wr.drew (hw1.below hbel.drew) (hw2.below hbel.drew) hL1 hL2
        generalize hx1 : l.getD j [] = y at cc
        generalize hy1 : k.getD j [] = z at cc
        have HX := Lib.hid hx1
        have HY := Lib.hid hy1
        clear hx1 hy1 hv hv' hw1 hw2
        go_wp2_with fail
        refine wp_region_noPanic ?_
        refine region_g 8 (Ext (World.drew _)) (by kernel_rfl) (Ext.refl _) (fun hS => ?_)
        refine take_w (i := 0) (v := ?_) (some 18) rfl (by kernel_rfl) rfl (fun _ _ _ h => h) (Or.inl ⟨by rfl, ?_⟩) hS ?_
        rotate_left
        · (intro wq hq; go_simp); first | done | with_reducible rfl
        try simp only [Act.put, List.setIfInBounds_toArray, List.set_cons_zero, List.set_cons_succ]
        replace hS := Till.list 0 hS
        refine take_w (i := 1) (v := ?_) (some 19) rfl (by kernel_rfl) rfl (fun _ _ _ h => h) (Or.inl ⟨by rfl, ?_⟩) hS ?_
        rotate_left
        · (intro wq hq; go_simp); first | done | with_reducible rfl
        try simp only [Act.put, List.setIfInBounds_toArray, List.set_cons_zero, List.set_cons_succ]
        replace hS := Till.list 1 hS
        refine take_w (i := 4) (v := ?_) (some 22) rfl (by kernel_rfl) rfl (fun _ _ _ h => h) (Or.inl ⟨by rfl, ?_⟩) hS ?_
        rotate_left
        · (intro wq hq; go_simp); first | done | with_reducible rfl
        try simp only [Act.put, List.setIfInBounds_toArray, List.set_cons_zero, List.set_cons_succ]
        replace hS := Till.list 4 hS
        refine take_w (i := 5) (v := ?_) (some 23) rfl (by kernel_rfl) rfl (fun _ _ _ h => h) (Or.inl ⟨by rfl, ?_⟩) hS ?_
        rotate_left
        · (intro wq hq; go_simp); first | done | with_reducible rfl
        try simp only [Act.put, List.setIfInBounds_toArray, List.set_cons_zero, List.set_cons_succ]
        replace hS := Till.list 5 hS
        refine take_w (i := 2) (v := ?_) (some 20) rfl (by kernel_rfl) rfl (fun _ _ _ h => h) (Or.inl ⟨by rfl, ?_⟩) hS ?_
        rotate_left
        · (intro wq hq; go_simp); first | done | with_reducible rfl
        try simp only [Act.put, List.setIfInBounds_toArray, List.set_cons_zero, List.set_cons_succ]
        replace hS := Till.list 2 hS
        refine take_w (i := 6) (v := ?_) (some 24) rfl (by kernel_rfl) rfl (fun _ _ _ h => h) (Or.inl ⟨by rfl, ?_⟩) hS ?_
        rotate_left
        · (intro wq hq; go_simp); first | done | with_reducible rfl
        try simp only [Act.put, List.setIfInBounds_toArray, List.set_cons_zero, List.set_cons_succ]
        replace hS := Till.list 6 hS
        refine take_g (i := 3) (v := ?_) [3] (some 21) rfl (by kernel_rfl) rfl (fun _ _ _ h => h) (Or.inl ⟨by rfl, ?_⟩) hS ?_
        rotate_left
        · (intro wq hq; have q0 := hq _ _ _ hc1; have q1 := hq _ _ _ hc2; go_simp); first | done | with_reducible rfl
        try simp only [Act.put, List.setIfInBounds_toArray, List.set_cons_zero, List.set_cons_succ]
        replace hS := Till.list 3 hS
        refine take_g (i := 7) (v := ?_) [7] (some 25) rfl (by kernel_rfl) rfl (fun _ _ _ h => h) (Or.inl ⟨by rfl, ?_⟩) hS ?_
        rotate_left
        · (intro wq hq; have q0 := hq _ _ _ hc1; have q1 := hq _ _ _ hc2; go_simp); first | done | with_reducible rfl
        try simp only [Act.put, List.setIfInBounds_toArray, List.set_cons_zero, List.set_cons_succ]
        replace hS := Till.list 7 hS
        refine ready_g (rs := [8]) (by kernel_rfl) (by simp) ?_
        refine AllReadyG.cons rfl (fun Kont hK => ?_) AllReadyG.nil
        go_simp
        refine cc.mono ?_
        rintro e w' ⟨rfl, hb'⟩
        refine hK.out _ _ (Or.inl (by kernel_rfl)) (fun hS0 => ?_)
        clear hK Kont
        try simp only [Act.put, List.setIfInBounds_toArray, List.set_cons_zero, List.set_cons_succ]
        clear hS
        have hS := hS0
        clear hS0
        refine take_w (i := 9) (v := ?_) (some 6) rfl (by kernel_rfl) rfl (fun _ _ _ h => h) (Or.inl ⟨by rfl, ?_⟩) hS ?_
        rotate_left
        · (intro wq hq; go_simp); first | done | with_reducible rfl
        try simp only [Act.put, List.setIfInBounds_toArray, List.set_cons_zero, List.set_cons_succ]
        replace hS := Till.list 9 hS
        refine done_g (by kernel_rfl) (NoPanic.normal ?_) _
        clear hS
        have hb2 := Below.then hbel.drew hb'
        clear hc1 hc2 cc hb' hbel
        by_cases hxy : y = z
        · have HT' : Hid (∀ i, i < j + 1 → l.getD i [] = k.getD i []) := Lib.hid (fun i hi => by
            by_cases hij : i < j
            · exact HT.out i hij
            · obtain rfl : i = j := by omega
              rw [HX.out, HY.out, hxy])
          rw [decide_eq_true hxy]
          clear hxy
          go_wp2_with fail
          go_roundw
          case rel => exact ⟨j + 1, by omega, by go_num, HT', hb2⟩
          case measure => simp [intOf]; omega
        · have HF : Hid (decide (l = k) = false) := Lib.hid (decide_eq_false (fun h => hxy (by rw [← HX.out, ← HY.out, h])))
          rw [decide_eq_false hxy]
          clear hxy
          go_wp2_with fail
          go_ret
          exact ⟨by rw [HF.out]; rfl, hb2⟩
      · obtain rfl : j = N := by omega
        have HF : Hid (decide (l = k) = true) := Lib.hid (decide_eq_true (rows_getD (by rw [hl.out, hl'.out]) (fun i hi => HT.out i (by rw [← hl.out]; exact hi))))
        go_wp2_with fail
        go_ret
        exact ⟨by rw [HF.out]; rfl, hbel⟩
  · have hne : ((N : Int) == (N' : Int)) = false := by rw [beq_eq_false_iff_ne]; omega
    have HF : Hid (decide (l = k) = false) := Lib.hid (decide_eq_false (fun h => h1 (by rw [← hl.out, ← hl'.out, h])))
    clear hv hv'
    go_enter Tryz.func23, Tryz.ntmps23
    go_wp2_with fail
    go_ret
    exact ⟨by rw [HF.out]; rfl, Below.refl _ _⟩
theorem OwnRows.lower {w : World} {base base' : Nat} {v : Value} {j : Nat} {vss : List RowV} (h : OwnRows w base v j vss) (hb : base' ≤ base) : OwnRows w base' v j vss := by
  obtain ⟨cs, h1, h2, h3⟩ := h
  exact ⟨cs, h1.lower hb, h2, h3⟩
end Go.Proofs.YtbfihajgjbpmaaaGreat
