/- Texts that belong together, one behind the other: Q9j, Q9k, Q9l. -/
import Derived.Test.YtiigcjncpjdkcaaOrdD
import Derived.Test.YtiigcjncpjdkcaaSchC
/- Contracts of the document's own One, Rows, Fits. -/
namespace Go.Proofs.Ytiigcjncpjdkcaa
open Go.ChangeShapes Go.WideShapes Go.ChangeAt Go.RowKit
set_option linter.unusedVariables false
set_option maxRecDepth 4000

set_option maxHeartbeats 2000000 in
theorem one_any (A : Option Addr) (N C : Nat) (l : List (Int × ByteArray)) (A' : Option Addr) (N' C' : Nat) (k : List (Int × ByteArray)) (w : World) (hv : WV w A N l) (hv' : WV w A' N' k) (hN : N ≤ maxLen) (hN' : N' ≤ maxLen) :
    Calls Try.prog 19 #[.slice A N C, .slice A' N' C'] w fun e w' => e = .returned (.bool (decide (l = k))) ∧ Below w.heap.size w w' := by
  unfold maxLen at hN hN'
  have hl := Lib.hid (WV.len hv)
  have hl' := Lib.hid (WV.len hv')
  by_cases h1 : N = N'
  · subst h1
    go_enter Try.func19, Try.ntmps19
    go_wp2_with fail
    go_loopw [5] (fun i wr => ∃ j : Nat, j ≤ N ∧ i = .int .i64 (j : Int) ∧ Hid (∀ i, i < j → l.getD i v0 = k.getD i v0) ∧ Below w.heap.size w wr) (fun i _ => N - (intOf i).toNat)
    case atStart => exact ⟨0, by omega, rfl, Lib.hid (fun i hi => by omega), Below.refl _ _⟩
    case round =>
      obtain ⟨j, hj, rfl, HT, hbel⟩ := hrel
      by_cases hlt : j < N
      · obtain ⟨b, off, rfl, hd1, hd2⟩ := WV.at hv j hlt
        obtain ⟨b', off', rfl, he1, he2⟩ := WV.at hv' j hlt
        replace hd1 := keepc hd1 hbel
        replace hd2 := keepc hd2 hbel
        replace he1 := keepc he1 hbel
        replace he2 := keepc he2 hbel
        have hji : (j : Int) < (N : Int) := by omega
        generalize hx1 : l.getD j v0 = y at hd1 hd2
        generalize hy1 : k.getD j v0 = z at he1 he2
        have HX := Lib.hid hx1
        have HY := Lib.hid hy1
        clear hx1 hy1 hv hv'
        go_wp2_with fail
        refine wp_region_noPanic ?_
        refine region_g 9 (Ext (World.drew _)) (by kernel_rfl) (Ext.refl _) (fun hS => ?_)
        refine take_w (i := 0) (v := ?_) (some 17) rfl (by kernel_rfl) rfl (fun _ _ _ h => h) (Or.inl ⟨by rfl, ?_⟩) hS ?_
        rotate_left
        · (intro wq hq; go_simp); first | done | with_reducible rfl
        try simp only [Act.put, List.setIfInBounds_toArray, List.set_cons_zero, List.set_cons_succ]
        replace hS := Till.list 0 hS
        refine take_w (i := 1) (v := ?_) (some 18) rfl (by kernel_rfl) rfl (fun _ _ _ h => h) (Or.inl ⟨by rfl, ?_⟩) hS ?_
        rotate_left
        · (intro wq hq; go_simp); first | done | with_reducible rfl
        try simp only [Act.put, List.setIfInBounds_toArray, List.set_cons_zero, List.set_cons_succ]
        replace hS := Till.list 1 hS
        refine take_w (i := 4) (v := ?_) (some 21) rfl (by kernel_rfl) rfl (fun _ _ _ h => h) (Or.inl ⟨by rfl, ?_⟩) hS ?_
        rotate_left
        · (intro wq hq; go_simp); first | done | with_reducible rfl
        try simp only [Act.put, List.setIfInBounds_toArray, List.set_cons_zero, List.set_cons_succ]
        replace hS := Till.list 4 hS
        refine take_w (i := 5) (v := ?_) (some 22) rfl (by kernel_rfl) rfl (fun _ _ _ h => h) (Or.inl ⟨by rfl, ?_⟩) hS ?_
        rotate_left
        · (intro wq hq; go_simp); first | done | with_reducible rfl
        try simp only [Act.put, List.setIfInBounds_toArray, List.set_cons_zero, List.set_cons_succ]
        replace hS := Till.list 5 hS
        refine take_w (i := 2) (v := ?_) (some 19) rfl (by kernel_rfl) rfl (fun _ _ _ h => h) (Or.inl ⟨by rfl, ?_⟩) hS ?_
        rotate_left
        · (intro wq hq; go_simp); first | done | with_reducible rfl
        try simp only [Act.put, List.setIfInBounds_toArray, List.set_cons_zero, List.set_cons_succ]
        replace hS := Till.list 2 hS
        refine take_w (i := 6) (v := ?_) (some 23) rfl (by kernel_rfl) rfl (fun _ _ _ h => h) (Or.inl ⟨by rfl, ?_⟩) hS ?_
        rotate_left
        · (intro wq hq; go_simp); first | done | with_reducible rfl
        try simp only [Act.put, List.setIfInBounds_toArray, List.set_cons_zero, List.set_cons_succ]
        replace hS := Till.list 6 hS
        refine take_n (i := 3) (v := ?_) (some 20) rfl (by kernel_rfl) rfl (fun _ _ _ h => h) (Or.inl ⟨by rfl, ?_⟩) hS ?_
        rotate_left
        · (intro wq hq; have q0 := hq _ _ _ hd1; have q1 := hq _ _ _ hd2; have q2 := hq _ _ _ he1; have q3 := hq _ _ _ he2; go_simp); first | done | with_reducible rfl
        try simp only [Act.put, List.setIfInBounds_toArray, List.set_cons_zero, List.set_cons_succ]
        replace hS := Till.list 3 hS
        refine take_n (i := 7) (v := ?_) (some 24) rfl (by kernel_rfl) rfl (fun _ _ _ h => h) (Or.inl ⟨by rfl, ?_⟩) hS ?_
        rotate_left
        · (intro wq hq; have q0 := hq _ _ _ hd1; have q1 := hq _ _ _ hd2; have q2 := hq _ _ _ he1; have q3 := hq _ _ _ he2; go_simp); first | done | with_reducible rfl
        try simp only [Act.put, List.setIfInBounds_toArray, List.set_cons_zero, List.set_cons_succ]
        replace hS := Till.list 7 hS
        refine take_n (i := 8) (v := .bool (!decide (y = z))) (some 25) rfl (by kernel_rfl) rfl (fun _ _ _ h => h) (Or.inl ⟨by rfl, ?_⟩) hS ?_
        · (intro wq hq; (go_simp; exact eqv_ne y z wq))
        try simp only [Act.put, List.setIfInBounds_toArray, List.set_cons_zero, List.set_cons_succ]
        replace hS := Till.list 8 hS
        refine done_g (by kernel_rfl) (NoPanic.normal ?_) _
        clear hS
        clear hd1 hd2 he1 he2
        by_cases hxy : y = z
        · have HT' : Hid (∀ i, i < j + 1 → l.getD i v0 = k.getD i v0) := Lib.hid (fun i hi => by
            by_cases hij : i < j
            · exact HT.out i hij
            · obtain rfl : i = j := by omega
              rw [HX.out, HY.out, hxy])
          rw [decide_eq_true hxy]
          clear hxy
          go_wp2_with fail
          go_roundw
          case rel => exact ⟨j + 1, by omega, by go_num, HT', hbel.drew⟩
          case measure => simp [intOf]; omega
        · have HF : Hid (decide (l = k) = false) := Lib.hid (decide_eq_false (fun h => hxy (by rw [← HX.out, ← HY.out, h])))
          rw [decide_eq_false hxy]
          clear hxy
          go_wp2_with fail
          go_ret
          exact ⟨by rw [HF.out]; rfl, hbel.drew⟩
      · obtain rfl : j = N := by omega
        have HF : Hid (decide (l = k) = true) := Lib.hid (decide_eq_true (listV_getD (by rw [hl.out, hl'.out]) (fun i hi => HT.out i (by rw [← hl.out]; exact hi))))
        go_wp2_with fail
        go_ret
        exact ⟨by rw [HF.out]; rfl, hbel⟩
  · have hne : ((N : Int) == (N' : Int)) = false := by rw [beq_eq_false_iff_ne]; omega
    have HF : Hid (decide (l = k) = false) := Lib.hid (decide_eq_false (fun h => h1 (by rw [← hl.out, ← hl'.out, h])))
    clear hv hv'
    go_enter Try.func19, Try.ntmps19
    go_wp2_with fail
    go_ret
    exact ⟨by rw [HF.out]; rfl, Below.refl _ _⟩
theorem rows_getD {a b : List RowV} (hl : a.length = b.length) (h : ∀ i, i < a.length → a.getD i [] = b.getD i []) : a = b := by
  refine List.ext_getElem hl (fun i h1 h2 => ?_)
  have := h i h1
  simpa [List.getD, h1, h2] using this
set_option maxHeartbeats 2000000 in
theorem rrows_any (A : Option Addr) (N C : Nat) (l : List RowV) (A' : Option Addr) (N' C' : Nat) (k : List RowV) (w : World) (hv : RVs w A N l) (hv' : RVs w A' N' k) (hN : N ≤ maxLen) (hN' : N' ≤ maxLen) :
    Calls Try.prog 12 #[.slice A N C, .slice A' N' C'] w fun e w' => e = .returned (.bool (decide (l = k))) ∧ Below w.heap.size w w' := by
  unfold maxLen at hN hN'
  have hl := Lib.hid hv.1
  have hl' := Lib.hid hv'.1
  by_cases h1 : N = N'
  · subst h1
    go_enter Try.func12, Try.ntmps12
    go_wp2_with fail
    go_loopw [5] (fun i wr => ∃ j : Nat, j ≤ N ∧ i = .int .i64 (j : Int) ∧ Hid (∀ i, i < j → l.getD i [] = k.getD i []) ∧ Below w.heap.size w wr) (fun i _ => N - (intOf i).toNat)
    case atStart => exact ⟨0, by omega, rfl, Lib.hid (fun i hi => by omega), Below.refl _ _⟩
    case round =>
      obtain ⟨j, hj, rfl, HT, hbel⟩ := hrel
      by_cases hlt : j < N
      · obtain ⟨b, off, A1, L1, C1, rfl, hc1, hL1, hw1⟩ := hv.at j hlt
        obtain ⟨b', off', A2, L2, C2, rfl, hc2, hL2, hw2⟩ := hv'.at j hlt
        replace hc1 := keepc hc1 hbel
        replace hc2 := keepc hc2 hbel
        have hji : (j : Int) < (N : Int) := by omega
        have cc := one_any A1 L1 C1 _ A2 L2 C2 _ wr.drew (hw1.below hbel.drew) (hw2.below hbel.drew) hL1 hL2
        generalize hx1 : l.getD j [] = y at cc
        generalize hy1 : k.getD j [] = z at cc
        have HX := Lib.hid hx1
        have HY := Lib.hid hy1
        clear hx1 hy1 hv hv' hw1 hw2
        go_wp2_with fail
        refine wp_region_noPanic ?_
        refine region_g 8 (Ext (World.drew _)) (by kernel_rfl) (Ext.refl _) (fun hS => ?_)
        refine take_w (i := 0) (v := ?_) (some 18) rfl (by kernel_rfl) rfl (fun _ _ _ h => h) (Or.inl ⟨by rfl, ?_⟩) hS ?_
        rotate_left
        · (intro wq hq; go_simp); first | done | with_reducible rfl
        try simp only [Act.put, List.setIfInBounds_toArray, List.set_cons_zero, List.set_cons_succ]
        replace hS := Till.list 0 hS
        refine take_w (i := 1) (v := ?_) (some 19) rfl (by kernel_rfl) rfl (fun _ _ _ h => h) (Or.inl ⟨by rfl, ?_⟩) hS ?_
        rotate_left
        · (intro wq hq; go_simp); first | done | with_reducible rfl
        try simp only [Act.put, List.setIfInBounds_toArray, List.set_cons_zero, List.set_cons_succ]
        replace hS := Till.list 1 hS
        refine take_w (i := 4) (v := ?_) (some 22) rfl (by kernel_rfl) rfl (fun _ _ _ h => h) (Or.inl ⟨by rfl, ?_⟩) hS ?_
        rotate_left
        · (intro wq hq; go_simp); first | done | with_reducible rfl
        try simp only [Act.put, List.setIfInBounds_toArray, List.set_cons_zero, List.set_cons_succ]
        replace hS := Till.list 4 hS
        refine take_w (i := 5) (v := ?_) (some 23) rfl (by kernel_rfl) rfl (fun _ _ _ h => h) (Or.inl ⟨by rfl, ?_⟩) hS ?_
        rotate_left
        · (intro wq hq; go_simp); first | done | with_reducible rfl
        try simp only [Act.put, List.setIfInBounds_toArray, List.set_cons_zero, List.set_cons_succ]
        replace hS := Till.list 5 hS
        refine take_w (i := 2) (v := ?_) (some 20) rfl (by kernel_rfl) rfl (fun _ _ _ h => h) (Or.inl ⟨by rfl, ?_⟩) hS ?_
        rotate_left
        · (intro wq hq; go_simp); first | done | with_reducible rfl
        try simp only [Act.put, List.setIfInBounds_toArray, List.set_cons_zero, List.set_cons_succ]
        replace hS := Till.list 2 hS
        refine take_w (i := 6) (v := ?_) (some 24) rfl (by kernel_rfl) rfl (fun _ _ _ h => h) (Or.inl ⟨by rfl, ?_⟩) hS ?_
        rotate_left
        · (intro wq hq; go_simp); first | done | with_reducible rfl
        try simp only [Act.put, List.setIfInBounds_toArray, List.set_cons_zero, List.set_cons_succ]
        replace hS := Till.list 6 hS
        refine take_g (i := 3) (v := ?_) [3] (some 21) rfl (by kernel_rfl) rfl (fun _ _ _ h => h) (Or.inl ⟨by rfl, ?_⟩) hS ?_
        rotate_left
        · (intro wq hq; have q0 := hq _ _ _ hc1; have q1 := hq _ _ _ hc2; go_simp); first | done | with_reducible rfl
        try simp only [Act.put, List.setIfInBounds_toArray, List.set_cons_zero, List.set_cons_succ]
        replace hS := Till.list 3 hS
        refine take_g (i := 7) (v := ?_) [7] (some 25) rfl (by kernel_rfl) rfl (fun _ _ _ h => h) (Or.inl ⟨by rfl, ?_⟩) hS ?_
        rotate_left
        · (intro wq hq; have q0 := hq _ _ _ hc1; have q1 := hq _ _ _ hc2; go_simp); first | done | with_reducible rfl
        try simp only [Act.put, List.setIfInBounds_toArray, List.set_cons_zero, List.set_cons_succ]
        replace hS := Till.list 7 hS
        refine ready_g (rs := [8]) (by kernel_rfl) (by simp) ?_
        refine AllReadyG.cons rfl (fun Kont hK => ?_) AllReadyG.nil
        go_simp
        refine cc.mono ?_
        rintro e w' ⟨rfl, hb'⟩
        refine hK.out _ _ (Or.inl (by kernel_rfl)) (fun hS0 => ?_)
        clear hK Kont
        try simp only [Act.put, List.setIfInBounds_toArray, List.set_cons_zero, List.set_cons_succ]
        clear hS
        have hS := hS0
        clear hS0
        refine take_w (i := 9) (v := ?_) (some 6) rfl (by kernel_rfl) rfl (fun _ _ _ h => h) (Or.inl ⟨by rfl, ?_⟩) hS ?_
        rotate_left
        · (intro wq hq; go_simp); first | done | with_reducible rfl
        try simp only [Act.put, List.setIfInBounds_toArray, List.set_cons_zero, List.set_cons_succ]
        replace hS := Till.list 9 hS
        refine done_g (by kernel_rfl) (NoPanic.normal ?_) _
        clear hS
        have hb2 := Below.then hbel.drew hb'
        clear hc1 hc2 cc hb' hbel
        by_cases hxy : y = z
        · have HT' : Hid (∀ i, i < j + 1 → l.getD i [] = k.getD i []) := Lib.hid (fun i hi => by
            by_cases hij : i < j
            · exact HT.out i hij
            · obtain rfl : i = j := by omega
              rw [HX.out, HY.out, hxy])
          rw [decide_eq_true hxy]
          clear hxy
          go_wp2_with fail
          go_roundw
          case rel => exact ⟨j + 1, by omega, by go_num, HT', hb2⟩
          case measure => simp [intOf]; omega
        · have HF : Hid (decide (l = k) = false) := Lib.hid (decide_eq_false (fun h => hxy (by rw [← HX.out, ← HY.out, h])))
          rw [decide_eq_false hxy]
          clear hxy
          go_wp2_with fail
          go_ret
          exact ⟨by rw [HF.out]; rfl, hb2⟩
      · obtain rfl : j = N := by omega
        have HF : Hid (decide (l = k) = true) := Lib.hid (decide_eq_true (rows_getD (by rw [hl.out, hl'.out]) (fun i hi => HT.out i (by rw [← hl.out]; exact hi))))
        go_wp2_with fail
        go_ret
        exact ⟨by rw [HF.out]; rfl, hbel⟩
  · have hne : ((N : Int) == (N' : Int)) = false := by rw [beq_eq_false_iff_ne]; omega
    have HF : Hid (decide (l = k) = false) := Lib.hid (decide_eq_false (fun h => h1 (by rw [← hl.out, ← hl'.out, h])))
    clear hv hv'
    go_enter Try.func12, Try.ntmps12
    go_wp2_with fail
    go_ret
    exact ⟨by rw [HF.out]; rfl, Below.refl _ _⟩
theorem OwnRows.lower {w : World} {base base' : Nat} {v : Value} {j : Nat} {vss : List RowV} (h : OwnRows w base v j vss) (hb : base' ≤ base) : OwnRows w base' v j vss := by
  obtain ⟨cs, h1, h2, h3⟩ := h
  exact ⟨cs, h1.lower hb, h2, h3⟩
/-- what Fits makes of rows -/
def fitsL (ts : List Int) (vss : List RowV) (most : Nat) : List RowV := (vss.take most).map (fitR ts)
theorem fitsL_snoc (ts : List Int) (vss : List RowV) (j : Nat) (h : j < vss.length) : fitsL ts vss (j + 1) = fitsL ts vss j ++ [fitR ts (vss.getD j [])] := by
  unfold fitsL
  rw [List.take_succ_eq_append_getElem h, List.map_append]
  simp [List.getD, h]
set_option maxHeartbeats 2000000 in
theorem fits_rows (A : Option Addr) (N C : Nat) (ts : List Int) (K : Nat) (m g : Int) (R : Option Addr) (n c : Nat) (vss : List RowV) (most : Nat) (w : World) (hv : IV w A N ts) (hN : N ≤ 1000) (hr : RVs w R n vss) (hn : n ≤ maxLen) (hmost : most ≤ 1000) :
    Calls Try.prog 9 #[SS A N C K m g, .slice R n c, .int .i64 (most : Int)] w fun e w' => ∃ (j : Nat) (v : Value), e = .returned v ∧ j ≤ most ∧ OwnRows w' w.heap.size v j (fitsL ts vss most) ∧ Below w.heap.size w w' := by
  unfold maxLen at hn
  have hl := Lib.hid hr.1
  have t0 := (Bk.new w #[.slice A N C, .int .i64 K, .int .i64 m, .int .i64 g] 29).alloc (.cells #[] 43)
  have or0 : OwnRows ((w.alloc (.cells #[.slice A N C, .int .i64 K, .int .i64 m, .int .i64 g] 29)).alloc (.cells #[] 43)) (w.heap.size + 1) (.slice (some ⟨w.heap.size + 1, 0, none⟩) 0 0) 0 [] := ⟨[], OS.lit (k := 1) (w.alloc (.cells #[.slice A N C, .int .i64 K, .int .i64 m, .int .i64 g] 29)) (w.heap.size + 1) (by simp) [] 0 43 rfl (by simp) (by simp) _ (by simp), rfl, fun i hi => by omega⟩
  have hb0 := Joins.below_alloc2 w (.cells #[.slice A N C, .int .i64 K, .int .i64 m, .int .i64 g] 29) (.cells #[] 43)
  go_enter Try.func9, Try.ntmps9
  go_wp2_with fail
  go_loopw [7, 8] (fun o i wr => ∃ (j : Nat), j ≤ n ∧ j ≤ most ∧ i = .int .i64 (j : Int) ∧ OwnRows wr (w.heap.size + 1) o j (fitsL ts vss j) ∧ Bk wr w.heap.size #[.slice A N C, .int .i64 K, .int .i64 m, .int .i64 g] 29 ∧ Below w.heap.size w wr) (fun _ i _ => most - (intOf i).toNat)
  case atStart => exact ⟨0, by omega, by omega, rfl, by simpa [fitsL] using or0, t0, hb0⟩
  case round =>
    clear or0 t0 hb0
    obtain ⟨j, hj, hj2, rfl, orr, t, hb⟩ := hrel
    by_cases hlt : j < n ∧ j < most
    · obtain ⟨hlt, hlm⟩ := hlt
      have hji : (j : Int) < (n : Int) := by omega
      have hjm : (j : Int) < (most : Int) := by omega
      obtain ⟨b, off, A1, L1, C1, rfl, hc, hL1, hw1⟩ := hr.at j hlt
      have hc := keepc hc hb
      have HS := Lib.hid (fitsL_snoc ts vss j (by rw [hl.out]; exact hlt))
      have cc := rfit_any A N C ts K m g A1 L1 C1 (vss.getD j []) wr.drew (hv.below hb.drew) hN (hw1.below hb.drew) hL1
      generalize vss.getD j [] = rj at cc HS
      obtain ⟨fs, hfs⟩ : ∃ fs, fitsL ts vss j = fs := ⟨_, rfl⟩
      rw [hfs] at orr HS
      clear hfs hw1
      obtain ⟨c0, c1, c2, c3⟩ := t.sx
      go_wp2_with fail
      refine wp_region_noPanic ?_
      refine region_g 6 (Ext (World.drew _)) (by kernel_rfl) (Ext.refl _) (fun hS => ?_)
      refine take_w (i := 0) (v := ?_) (some 21) rfl (by kernel_rfl) rfl (fun _ _ _ h => h) (Or.inl ⟨by rfl, ?_⟩) hS ?_
      rotate_left
      · (intro wq hq; go_simp); first | done | with_reducible rfl
      try simp only [Act.put, List.setIfInBounds_toArray, List.set_cons_zero, List.set_cons_succ]
      replace hS := Till.list 0 hS
      refine take_g (i := 1) (v := ?_) [1] (some 22) rfl (by kernel_rfl) rfl (fun _ _ _ h => h) (Or.inl ⟨by rfl, ?_⟩) hS ?_
      rotate_left
      · (intro wq hq; have q0 := hq _ _ _ c0; have q1 := hq _ _ _ c1; have q2 := hq _ _ _ c2; have q3 := hq _ _ _ c3; have q4 := hq _ _ _ hc; go_simp); first | done | with_reducible rfl
      try simp only [Act.put, List.setIfInBounds_toArray, List.set_cons_zero, List.set_cons_succ]
      replace hS := Till.list 1 hS
      refine take_w (i := 2) (v := ?_) (some 23) rfl (by kernel_rfl) rfl (fun _ _ _ h => h) (Or.inl ⟨by rfl, ?_⟩) hS ?_
      rotate_left
      · (intro wq hq; go_simp); first | done | with_reducible rfl
      try simp only [Act.put, List.setIfInBounds_toArray, List.set_cons_zero, List.set_cons_succ]
      replace hS := Till.list 2 hS
      refine take_w (i := 3) (v := ?_) (some 24) rfl (by kernel_rfl) rfl (fun _ _ _ h => h) (Or.inl ⟨by rfl, ?_⟩) hS ?_
      rotate_left
      · (intro wq hq; go_simp); first | done | with_reducible rfl
      try simp only [Act.put, List.setIfInBounds_toArray, List.set_cons_zero, List.set_cons_succ]
      replace hS := Till.list 3 hS
      refine take_w (i := 4) (v := ?_) (some 25) rfl (by kernel_rfl) rfl (fun _ _ _ h => h) (Or.inl ⟨by rfl, ?_⟩) hS ?_
      rotate_left
      · (intro wq hq; go_simp); first | done | with_reducible rfl
      try simp only [Act.put, List.setIfInBounds_toArray, List.set_cons_zero, List.set_cons_succ]
      replace hS := Till.list 4 hS
      refine take_g (i := 5) (v := ?_) [5] (some 26) rfl (by kernel_rfl) rfl (fun _ _ _ h => h) (Or.inl ⟨by rfl, ?_⟩) hS ?_
      rotate_left
      · (intro wq hq; have q0 := hq _ _ _ c0; have q1 := hq _ _ _ c1; have q2 := hq _ _ _ c2; have q3 := hq _ _ _ c3; have q4 := hq _ _ _ hc; go_simp); first | done | with_reducible rfl
      try simp only [Act.put, List.setIfInBounds_toArray, List.set_cons_zero, List.set_cons_succ]
      replace hS := Till.list 5 hS
      refine ready_g (rs := [6]) (by kernel_rfl) (by simp) ?_
      refine AllReadyG.cons rfl (fun Kont hK => ?_) AllReadyG.nil
      go_simp
      refine cc.mono ?_
      rintro e w5 ⟨a5, c5, rfl, o5, hb5⟩
      refine hK.out _ _ (Or.inl (by kernel_rfl)) (fun hS0 => ?_)
      clear hK Kont
      try simp only [Act.put, List.setIfInBounds_toArray, List.set_cons_zero, List.set_cons_succ]
      clear hS
      have hS := hS0
      clear hS0
      have ro5 : RO w5 u7.ownBlock (.slice a5 N c5) (fitR ts rj) := RO.own o5 (fun b hb => by have := orr.lt b hb; exact this)
      have t5 := Bk.below (w := wr.drew) t hb5
      have or5 := OwnRows.below (w := wr.drew) orr hb5
      have hb2 := Below.then hb.drew hb5
      clear c0 c1 c2 c3 cc hc orr t o5 hb hb5
      obtain ⟨cs, ocs, hlr, hro⟩ := or5
      have ho6 := ocs.alloc (.cells #[.slice a5 N c5] 43)
      have hcl : cs.length = j := by have := ocs.1; omega
      have hbs := t5.lt
      have hsv : SV 1 (w5.alloc (.cells #[.slice a5 N c5] 43)) (some ⟨w5.heap.size, 0, none⟩) 1 [.slice a5 N c5] := SV.lit' (k := 1) w5 [.slice a5 N c5] 1 43 rfl (by simp [Value.oneCell']) _ rfl
      have hbase : w.heap.size + 1 ≤ (w5.alloc (.cells #[.slice a5 N c5] 43)).heap.size := by rw [heap_alloc]; omega
      refine ready_g (rs := [7]) (by kernel_rfl) (by simp) ?_
      refine AllReadyG.cons rfl (fun Kont hK => ?_) AllReadyG.nil
      go_simp
      refine hK.out _ _ (Or.inl (by kernel_rfl)) (fun hS0 => ?_)
      clear hK Kont
      try simp only [Act.put, List.setIfInBounds_toArray, List.set_cons_zero, List.set_cons_succ]
      clear hS
      have hS := hS0
      clear hS0
      refine ready_g (rs := [8]) (by kernel_rfl) (by simp) ?_
      refine AllReadyG.cons rfl (fun Kont hK => ?_) AllReadyG.nil
      refine want (by kernel_rfl) ?_
      refine wp_append_os2 el_rows (some 29) rfl (.tmp 21) (.tmp 28) rfl (w.heap.size + 1) u7 j _ rfl ho6 _ 1 1 [.slice a5 N c5] rfl hsv (by omega) (by omega) hbase ?_
      intro v6 w6 ho7 hb6 hk6 hst6
      refine hK.out _ _ (Or.inl (by kernel_rfl)) (fun hS0 => ?_)
      clear hK Kont
      try simp only [Act.put, List.setIfInBounds_toArray, List.set_cons_zero, List.set_cons_succ]
      clear hS
      have hS := hS0
      clear hS0
      have hba := Joins.below_alloc1 w5 (.cells #[.slice a5 N c5] 43)
      have or6 := OwnRows.snoc (v := u7) ho7 hlr hcl (fun i hi => (hro i hi).below hba) (ro5.below hba) hk6 hst6
      have t6 := (t5.alloc (.cells #[.slice a5 N c5] 43)).low hb6 (by omega)
      have hb7 := (hb2.alloc hb2.size (.cells #[.slice a5 N c5] 43)).trans (hb6.mono (by omega))
      clear ho6 ho7 hb6 hk6 hst6 hba ro5 hro ocs hlr hcl cs t5 hb2 hsv hbase
      rw [← HS.out] at or6
      refine take_w (i := 9) (v := ?_) (some 7) rfl (by kernel_rfl) rfl (fun _ _ _ h => h) (Or.inl ⟨by rfl, ?_⟩) hS ?_
      rotate_left
      · (intro wq hq; go_simp); first | done | with_reducible rfl
      try simp only [Act.put, List.setIfInBounds_toArray, List.set_cons_zero, List.set_cons_succ]
      replace hS := Till.list 9 hS
      refine done_g (by kernel_rfl) (NoPanic.normal ?_) _
      clear hS
      go_wp2_with fail
      go_roundw
      case rel => exact ⟨j + 1, by omega, by omega, by go_num, or6, t6, hb7⟩
      case measure => simp [intOf]; omega
    · have HE : Hid (fitsL ts vss j = fitsL ts vss most) := by
        show fitsL ts vss j = _
        unfold fitsL
        by_cases h : j < n
        · rw [show j = most by omega]
        · rw [List.take_of_length_le (by rw [hl.out]; omega), List.take_of_length_le (by rw [hl.out]; omega)]
      rw [HE.out] at orr
      by_cases h1 : j < n
      · have hji : (j : Int) < (n : Int) := by omega
        have hjm : ¬ (j : Int) < (most : Int) := by omega
        go_wp2_with fail
        go_ret
        exact ⟨j, _, rfl, hj2, orr.lower (by omega), hb⟩
      · have hji : ¬ (j : Int) < (n : Int) := by omega
        go_wp2_with fail
        go_ret
        exact ⟨j, _, rfl, hj2, orr.lower (by omega), hb⟩
end Go.Proofs.Ytiigcjncpjdkcaa
/- Contracts of the document's own Below, Upto, Sorted. Rows that are shared: the cells that lead to them, and what they are. -/
namespace Go.Proofs.Ytiigcjncpjdkcaa
open Go.ChangeShapes Go.WideShapes Go.ChangeAt Go.RowKit
set_option linter.unusedVariables false
set_option maxRecDepth 4000

/-- a row's cell, and what it holds -/
abbrev P9 := Rw × RowV
abbrev p9 : P9 := ((none, 0, 0), [])
def pc (ps : List P9) : List Value := ps.map fun p => sV p.1
theorem pc_app (a b : List P9) : pc (a ++ b) = pc a ++ pc b := List.map_append
theorem pc_len (a : List P9) : (pc a).length = a.length := List.length_map _
theorem pc_one (a : List P9) : ∀ u ∈ pc a, u.oneCell' = true := by
  intro u hu
  obtain ⟨p, _, rfl⟩ := List.mem_map.1 hu
  rfl
theorem pc_at {a : List P9} {i : Nat} (h : i < a.length) : (pc a)[i]? = some (sV (a.getD i p9).1) := by
  simp [pc, List.getD, h]
/-- what these cells lead to -/
def PR (w : World) (ps : List P9) : Prop := ∀ p ∈ ps, RowAt w (sV p.1) p.2
theorem PR.below {w w' : World} {ps : List P9} (h : PR w ps) (hb : Below w.heap.size w w') : PR w' ps := fun p hp => (h p hp).below hb
theorem PR.at {w : World} {ps : List P9} (h : PR w ps) {i : Nat} (hi : i < ps.length) : RowAt w (sV (ps.getD i p9).1) (ps.getD i p9).2 := by
  have e : ps.getD i p9 = ps[i] := by simp [List.getD, hi]
  rw [e]; exact h _ (List.getElem_mem _)
theorem PR.app {w : World} {a b : List P9} (ha : PR w a) (hb : PR w b) : PR w (a ++ b) := fun p hp => (List.mem_append.1 hp).elim (ha p) (hb p)
theorem PR.take {w : World} {a : List P9} (ha : PR w a) (k : Nat) : PR w (a.take k) := fun p hp => ha p (List.mem_of_mem_take hp)
theorem PR.drop {w : World} {a : List P9} (ha : PR w a) (k : Nat) : PR w (a.drop k) := fun p hp => ha p (List.mem_of_mem_drop hp)
theorem RVs.pairs {w : World} {a : Option Addr} {n : Nat} {vss : List RowV} (h : RVs w a n vss) : ∃ qs : List P9, SV 1 w a n (pc qs) ∧ qs.map (·.2) = vss ∧ PR w qs := by
  obtain ⟨e, he⟩ := h.cells
  refine ⟨(List.range n).map fun i => (e i, vss.getD i []), ⟨by simp [pc], pc_one _, ?_⟩, ?_, ?_⟩
  · by_cases h0 : n = 0
    · exact .inl h0
    · obtain ⟨⟨b, off, rfl, -⟩, -⟩ := he 0 (by omega)
      refine .inr ⟨b, off, rfl, fun i u hi => ?_⟩
      have hin : i < n := by
        rcases Nat.lt_or_ge i n with h | h
        · exact h
        · rw [List.getElem?_eq_none (by simp [pc]; omega)] at hi; cases hi
      obtain ⟨⟨b', off', e1, hc⟩, -⟩ := he i hin
      cases e1
      simp [pc, hin] at hi
      rw [hc, ← hi]
  · rw [List.map_map]
    have := range_map vss []
    rw [h.1] at this
    exact this
  · intro p hp
    obtain ⟨i, hi, rfl⟩ := List.mem_map.1 hp
    exact (he i (List.mem_range.1 hi)).2
theorem RVs.of {w : World} {a : Option Addr} {n : Nat} {ps : List P9} (h : SV 1 w a n (pc ps)) (hp : PR w ps) : RVs w a n (ps.map (·.2)) := by
  have hl : ps.length = n := by have := h.1; rw [pc_len] at this; omega
  refine ⟨by rw [List.length_map, hl], ?_⟩
  rcases h.2.2 with h0 | ⟨b, off, rfl, hc⟩
  · exact .inl h0
  · refine .inr ⟨b, off, rfl, fun i hi => ⟨_, hc i _ (pc_at (by omega)), ?_⟩⟩
    have := hp.at (i := i) (by omega)
    have e : (ps.map (·.2)).getD i [] = (ps.getD i p9).2 := by simp [List.getD, show i < ps.length by omega]
    rw [e]; exact this
/-- the cell of one of them -/
theorem pc_cell {w : World} {a : Option Addr} {n : Nat} {ps : List P9} (h : SV 1 w a n (pc ps)) {i : Nat} (hi : i < n) : ∃ b off, a = some ⟨b, off, none⟩ ∧ w.cell? ⟨b, off + i, none⟩ = some (sV (ps.getD i p9).1) := by
  have hl : ps.length = n := by have := h.1; rw [pc_len] at this; omega
  rcases h.2.2 with h0 | ⟨b, off, rfl, hc⟩
  · omega
  · exact ⟨b, off, rfl, hc i _ (pc_at (by omega))⟩
theorem countA_snoc {α : Type} (p : α → Bool) (d : α) (l : List α) (j : Nat) (h : j < l.length) : countA p (l.take (j + 1)) = countA p (l.take j) + (if p (l.getD j d) = true then 1 else 0) := by
  have app : ∀ (a : List α) (x : α), countA p (a ++ [x]) = countA p a + (if p x = true then 1 else 0) := by
    intro a x
    induction a with
    | nil => simp [countA]
    | cons y a ih => rw [List.cons_append, countA, ih, countA]; omega
  rw [List.take_succ_eq_append_getElem h, app]
  simp [List.getD, h]
theorem RgV.of {ts : List Int} {a : RowV} (h : FR ts a) : RgV a := by
  intro v hv
  obtain ⟨i, hi, rfl⟩ := List.mem_iff_getElem.1 hv
  have := (okR_get h.ok i (by rw [← h.len]; exact hi)).2.2
  simpa [List.getD, hi] using this
/-- so far none is above the next one -/
def SrtD (c : RowV → RowV → Int) (l : List RowV) (j : Nat) : Prop := ∀ i, i + 1 < j → c (l.getD i []) (l.getD (i + 1) []) ≤ 0
set_option maxHeartbeats 1000000 in
theorem r9sorted_any (A : Option Addr) (N C : Nat) (ts : List Int) (K : Nat) (m gg : Int) (R : Option Addr) (n c : Nat) (vss : List RowV) (w : World) (hv : IV w A N ts) (hN : N ≤ maxLen) (hK : K ≤ maxLen) (ht : Ty ts) (hr : RVs w R n vss) (hn : n ≤ 1000000) (hF : ∀ v ∈ vss, FR ts v) :
    Calls Try.prog 22 #[SS A N C K m gg, .slice R n c] w fun en w' => en = .returned (.bool (srtB (cN ts K) [] vss)) ∧ Below w.heap.size w w' := by
  have hl := Lib.hid hr.1
  have HF := Lib.hid hF
  have hx := Sx.new w A N C K m gg 29
  clear hF
  go_enter Try.func22, Try.ntmps22
  go_wp2_with fail
  go_loopw [5] (fun vi wr => ∃ (j : Nat), vi = .int .i64 (j : Int) ∧ (1 ≤ j ∧ (j ≤ n ∨ j = 1)) ∧ Hid (SrtD (cN ts K) vss j) ∧ Below (w.alloc (.cells #[.slice A N C, .int .i64 K, .int .i64 m, .int .i64 gg] 29)).heap.size (w.alloc (.cells #[.slice A N C, .int .i64 K, .int .i64 m, .int .i64 gg] 29)) wr) (fun vi _ => n - (intOf vi).toNat)
  case atStart => exact ⟨1, rfl, by omega, (fun i hi => by omega), Below.refl _ _⟩
  case round =>
    obtain ⟨j, rfl, hj, HS, hbel⟩ := hrel
    have hbw := after1 hbel
    by_cases hlt : j < n
    · have hji : (j : Int) < (n : Int) := by omega
      obtain ⟨q, hq⟩ : ∃ q, j - 1 = q := ⟨_, rfl⟩
      have w1 : IntKind.i64.wrap ((j : Int) - 1) = (q : Int) := by rw [IntKind.wrap_i64]; omega
      have w2 : IntKind.i64.wrap ((j : Int) + 1) = ((j + 1 : Nat) : Int) := by rw [IntKind.wrap_i64]; omega
      have hqn : q < n := by omega
      have HQ : Hid (j = q + 1) := by show j = q + 1; omega
      clear hq
      obtain ⟨c0, k1, k2, k3⟩ := hx.below hbel
      obtain ⟨b, off, A1, L1, C1, rfl, hc1, hL1, hw1⟩ := hr.at q hqn
      obtain ⟨_, _, A2, L2, C2, e', hc2, hL2, hw2⟩ := hr.at j hlt
      cases e'
      have hc1 := keepc hc1 hbw
      have hc2 := keepc hc2 hbw
      have f1 := fr_at HF.out (i := q) (by rw [hl.out]; exact hqn)
      have f2 := fr_at HF.out (i := j) (by rw [hl.out]; exact hlt)
      have cc := r4compare_any A N C ts K m gg A1 L1 C1 _ A2 L2 C2 _ wr.drew (hv.below hbw.drew) hN (hw1.below hbw.drew) hL1 (hw2.below hbw.drew) hL2 hK (RgV.of f1) (RgV.of f2)
      rw [← cN_ok K f1 f2] at cc
      obtain ⟨r, hcr⟩ : ∃ r, cN ts K (vss.getD q []) (vss.getD j []) = r := ⟨_, rfl⟩
      rw [hcr] at cc
      have HR := Lib.hid hcr
      clear hcr f1 f2 hw1 hw2
      go_wp2_with fail
      refine wp_region_noPanic ?_
      refine region_g 10 (Ext (World.drew _)) (by kernel_rfl) (Ext.refl _) (fun hS => ?_)
      refine take_g (i := 0) (v := ?_) [0] (some 12) rfl (by kernel_rfl) rfl (fun _ _ _ h => h) (Or.inl ⟨by rfl, ?_⟩) hS ?_
      rotate_left
      · (intro wq hq; have q0 := hq _ _ _ c0; have q1 := hq _ _ _ k1; have q2 := hq _ _ _ k2; have q3 := hq _ _ _ k3; have q4 := hq _ _ _ hc1; have q5 := hq _ _ _ hc2; go_simp); first | done | with_reducible rfl
      try simp only [Act.put, List.setIfInBounds_toArray, List.set_cons_zero, List.set_cons_succ]
      replace hS := Till.list 0 hS
      refine take_w (i := 1) (v := ?_) (some 13) rfl (by kernel_rfl) rfl (fun _ _ _ h => h) (Or.inl ⟨by rfl, ?_⟩) hS ?_
      rotate_left
      · (intro wq hq; go_simp); first | done | with_reducible rfl
      try simp only [Act.put, List.setIfInBounds_toArray, List.set_cons_zero, List.set_cons_succ]
      replace hS := Till.list 1 hS
      refine take_w (i := 2) (v := ?_) (some 14) rfl (by kernel_rfl) rfl (fun _ _ _ h => h) (Or.inl ⟨by rfl, ?_⟩) hS ?_
      rotate_left
      · (intro wq hq; go_simp); first | done | with_reducible rfl
      try simp only [Act.put, List.setIfInBounds_toArray, List.set_cons_zero, List.set_cons_succ]
      replace hS := Till.list 2 hS
      refine take_w (i := 6) (v := ?_) (some 18) rfl (by kernel_rfl) rfl (fun _ _ _ h => h) (Or.inl ⟨by rfl, ?_⟩) hS ?_
      rotate_left
      · (intro wq hq; go_simp); first | done | with_reducible rfl
      try simp only [Act.put, List.setIfInBounds_toArray, List.set_cons_zero, List.set_cons_succ]
      replace hS := Till.list 6 hS
      refine take_w (i := 7) (v := ?_) (some 19) rfl (by kernel_rfl) rfl (fun _ _ _ h => h) (Or.inl ⟨by rfl, ?_⟩) hS ?_
      rotate_left
      · (intro wq hq; go_simp); first | done | with_reducible rfl
      try simp only [Act.put, List.setIfInBounds_toArray, List.set_cons_zero, List.set_cons_succ]
      replace hS := Till.list 7 hS
      refine take_w (i := 3) (v := ?_) (some 15) rfl (by kernel_rfl) rfl (fun _ _ _ h => h) (Or.inl ⟨by rfl, ?_⟩) hS ?_
      rotate_left
      · (intro wq hq; go_simp); first | done | with_reducible rfl
      try simp only [Act.put, List.setIfInBounds_toArray, List.set_cons_zero, List.set_cons_succ]
      replace hS := Till.list 3 hS
      refine take_w (i := 8) (v := ?_) (some 20) rfl (by kernel_rfl) rfl (fun _ _ _ h => h) (Or.inl ⟨by rfl, ?_⟩) hS ?_
      rotate_left
      · (intro wq hq; go_simp); first | done | with_reducible rfl
      try simp only [Act.put, List.setIfInBounds_toArray, List.set_cons_zero, List.set_cons_succ]
      replace hS := Till.list 8 hS
      refine take_w (i := 4) (v := ?_) (some 16) rfl (by kernel_rfl) rfl (fun _ _ _ h => h) (Or.inl ⟨by rfl, ?_⟩) hS ?_
      rotate_left
      · (intro wq hq; go_simp); first | done | with_reducible rfl
      try simp only [Act.put, List.setIfInBounds_toArray, List.set_cons_zero, List.set_cons_succ]
      replace hS := Till.list 4 hS
      refine take_g (i := 9) (v := ?_) [9] (some 21) rfl (by kernel_rfl) rfl (fun _ _ _ h => h) (Or.inl ⟨by rfl, ?_⟩) hS ?_
      rotate_left
      · (intro wq hq; have q0 := hq _ _ _ c0; have q1 := hq _ _ _ k1; have q2 := hq _ _ _ k2; have q3 := hq _ _ _ k3; have q4 := hq _ _ _ hc1; have q5 := hq _ _ _ hc2; go_simp); first | done | with_reducible rfl
      try simp only [Act.put, List.setIfInBounds_toArray, List.set_cons_zero, List.set_cons_succ]
      replace hS := Till.list 9 hS
      refine take_g (i := 5) (v := ?_) [5] (some 17) rfl (by kernel_rfl) rfl (fun _ _ _ h => h) (Or.inl ⟨by rfl, ?_⟩) hS ?_
      rotate_left
      · (intro wq hq; have q0 := hq _ _ _ c0; have q1 := hq _ _ _ k1; have q2 := hq _ _ _ k2; have q3 := hq _ _ _ k3; have q4 := hq _ _ _ hc1; have q5 := hq _ _ _ hc2; go_simp); first | done | with_reducible rfl
      try simp only [Act.put, List.setIfInBounds_toArray, List.set_cons_zero, List.set_cons_succ]
      replace hS := Till.list 5 hS
      refine ready_g (rs := [10]) (by kernel_rfl) (by simp) ?_
      refine AllReadyG.cons rfl (fun Kont hK => ?_) AllReadyG.nil
      go_simp
      refine cc.mono ?_
      rintro en w' ⟨rfl, hb'⟩
      refine hK.out _ _ (Or.inl (by kernel_rfl)) (fun hS0 => ?_)
      clear hK Kont
      try simp only [Act.put, List.setIfInBounds_toArray, List.set_cons_zero, List.set_cons_succ]
      clear hS
      have hS := hS0
      clear hS0
      refine take_w (i := 11) (v := ?_) (some 23) rfl (by kernel_rfl) rfl (fun _ _ _ h => h) (Or.inl ⟨by rfl, ?_⟩) hS ?_
      rotate_left
      · (intro wq hq; go_simp); first | done | with_reducible rfl
      try simp only [Act.put, List.setIfInBounds_toArray, List.set_cons_zero, List.set_cons_succ]
      replace hS := Till.list 11 hS
      refine done_g (by kernel_rfl) (NoPanic.normal ?_) _
      clear hS
      have hb2 := Below.then hbel.drew hb'
      clear hb' hbw cc hc1 hc2 hbel c0 k1 k2 k3
      cases hd : decide (0 < r)
      · have hr0 := of_decide_eq_false hd
        have HS2 : Hid (SrtD (cN ts K) vss (j + 1)) := fun i hi => by
          by_cases e : i + 1 < j
          · exact HS.out i e
          · obtain rfl : i = q := by have := HQ.out; omega
            have e1 := HR.out
            rw [HQ.out] at e1
            rw [e1]; omega
        have hd' : decide (r ≤ 0) = true := decide_eq_true (by omega)
        clear hr0 hd'
        go_wp2_with fail
        go_roundw
        case rel => exact ⟨j + 1, by go_num, by omega, HS2, hb2⟩
        case measure => simp [intOf]; omega
      · have hr0 := of_decide_eq_true hd
        have HT : Hid (srtB (cN ts K) [] vss = false) := SrtP.not (j := q) (by have e1 := HR.out; rw [HQ.out] at e1; rw [e1]; omega) (by have := HQ.out; rw [hl.out]; omega)
        clear hd
        go_wp2_with fail
        go_ret
        exact ⟨by rw [HT.out]; rfl, after1 hb2⟩
    · have hji : ¬ (j : Int) < (n : Int) := by omega
      have HT : Hid (srtB (cN ts K) [] vss = true) := decide_eq_true (fun i hi => HS.out i (by rw [hl.out] at hi; omega))
      go_wp2_with fail
      go_ret
      exact ⟨by rw [HT.out]; rfl, hbw⟩
end Go.Proofs.Ytiigcjncpjdkcaa
/- Contract of the document's own Sort. -/
namespace Go.Proofs.Ytiigcjncpjdkcaa
open Go.ChangeShapes Go.WideShapes Go.ChangeAt Go.RowKit
set_option linter.unusedVariables false
set_option maxRecDepth 4000

theorem insA_map {α β : Type} (c : β → β → Int) (f : α → β) (x : α) : ∀ l : List α, (insA (fun p q => c (f p) (f q)) x l).map f = insA c (f x) (l.map f)
  | [] => rfl
  | y :: l => by
    rw [insA, List.map_cons, insA]
    split
    · rfl
    · rw [List.map_cons, insA_map c f x l]
theorem sortA_map {α β : Type} (c : β → β → Int) (f : α → β) (l : List α) : (sortA (fun p q => c (f p) (f q)) l).map f = sortA c (l.map f) := by
  refine rev_ind (P := fun l => (sortA (fun p q => c (f p) (f q)) l).map f = sortA c (l.map f)) rfl (fun l x ih => ?_) l
  show (sortA _ (l ++ [x])).map f = sortA c ((l ++ [x]).map f)
  rw [sortA_snoc, insA_map, ih, List.map_append, List.map_cons, List.map_nil, sortA_snoc]
theorem sortA_mem {α : Type} {c : α → α → Int} {l : List α} {x : α} : x ∈ sortA c l ↔ x ∈ l := (sortA_perm l).mem_iff
/-- x on its way into l: so far k rows of l have been looked at -/
def InsP {α : Type} (c : α → α → Int) (x : α) (l nx : List α) (k : Nat) (put : Bool) : Prop :=
  (put = false ∧ nx = l.take k ∧ ∀ y ∈ l.take k, c y x ≤ 0) ∨ (put = true ∧ nx ++ l.drop k = insA c x l)
theorem InsP.start {α : Type} (c : α → α → Int) (x : α) (l : List α) : InsP c x l [] 0 false := .inl ⟨rfl, rfl, fun y hy => by simp at hy⟩
theorem InsP.go {α : Type} {c : α → α → Int} {x d : α} {l nx : List α} {k : Nat} (h : InsP c x l nx k true) (hk : k < l.length) : InsP c x l (nx ++ [l.getD k d]) (k + 1) true := by
  rcases h with ⟨h, -⟩ | ⟨-, h⟩
  · cases h
  · refine .inr ⟨rfl, ?_⟩
    rw [← h, List.append_assoc, List.drop_eq_getElem_cons hk]
    simp [List.getD, hk]
theorem InsP.put {α : Type} {c : α → α → Int} {x d : α} {l nx : List α} {k : Nat} (h : InsP c x l nx k false) (hk : k < l.length) (hc : 0 < c (l.getD k d) x) : InsP c x l (nx ++ [x]) k true := by
  rcases h with ⟨-, h1, h2⟩ | ⟨h, -⟩
  · refine .inr ⟨rfl, ?_⟩
    have := insA_at (c := c) (x := x) (l.take k) (l.drop k) h2 (fun y hy => by
      rw [List.drop_eq_getElem_cons hk, List.head?_cons] at hy
      obtain rfl := Option.some.inj hy
      simpa [List.getD, hk] using hc)
    rw [List.take_append_drop] at this
    rw [h1, this]; simp
  · cases h
theorem InsP.skip {α : Type} {c : α → α → Int} {x d : α} {l nx : List α} {k : Nat} (h : InsP c x l nx k false) (hk : k < l.length) (hc : c (l.getD k d) x ≤ 0) : InsP c x l (nx ++ [l.getD k d]) (k + 1) false := by
  rcases h with ⟨-, h1, h2⟩ | ⟨h, -⟩
  · have e : l.take (k + 1) = l.take k ++ [l.getD k d] := by rw [List.take_succ_eq_append_getElem hk]; simp [List.getD, hk]
    refine .inl ⟨rfl, by rw [h1, e], fun y hy => ?_⟩
    rw [e] at hy
    rcases List.mem_append.1 hy with hy | hy
    · exact h2 y hy
    · rw [List.mem_singleton.1 hy]; exact hc
  · cases h
theorem InsP.stop {α : Type} {c : α → α → Int} {x : α} {l nx : List α} (h : InsP c x l nx l.length false) : nx ++ [x] = insA c x l := by
  rcases h with ⟨-, h1, h2⟩ | ⟨h, -⟩
  · rw [List.take_length] at h1 h2
    rw [h1, insA_last h2]
  · cases h
theorem InsP.done {α : Type} {c : α → α → Int} {x : α} {l nx : List α} (h : InsP c x l nx l.length true) : nx = insA c x l := by
  rcases h with ⟨h, -⟩ | ⟨-, h⟩
  · cases h
  · rw [List.drop_length, List.append_nil] at h; exact h
theorem InsP.len {α : Type} {c : α → α → Int} {x : α} {l nx : List α} {k : Nat} {b : Bool} (h : InsP c x l nx k b) (hk : k ≤ l.length) : nx.length ≤ k + 1 := by
  rcases h with ⟨-, h1, -⟩ | ⟨-, h⟩
  · rw [h1, List.length_take]; omega
  · have := congrArg List.length h
    rw [List.length_append, List.length_drop, insA_len] at this
    omega
theorem InsP.mem {α : Type} {c : α → α → Int} {x : α} {l nx : List α} {k : Nat} {b : Bool} (h : InsP c x l nx k b) : ∀ y ∈ nx, y = x ∨ y ∈ l := by
  intro y hy
  rcases h with ⟨-, h1, -⟩ | ⟨-, h⟩
  · rw [h1] at hy; exact .inr (List.mem_of_mem_take hy)
  · exact insA_mem.1 (h ▸ List.mem_append_left _ hy)
/-- the order of rows that are shared -/
abbrev cP (ts : List Int) (K : Nat) : P9 → P9 → Int := fun p q => cN ts K p.2 q.2
/-- a slice of the call's own, of rows that are shared -/
abbrev OP (w : World) (base : Nat) (v : Value) (ps : List P9) : Prop := OS 1 w base v ps.length (pc ps)
theorem OP.push {w : World} {base : Nat} {v : Value} {ps : List P9} {x : P9} {m : Nat} (h : OS 1 w base v (ps.length + m) (pc ps ++ [sV x.1])) (hm : m = 1) : OP w base v (ps ++ [x]) := by
  subst hm
  unfold OP
  rw [List.length_append, pc_app]; exact h
set_option maxHeartbeats 4000000 in
theorem r9sort_any (A : Option Addr) (N C : Nat) (ts : List Int) (K : Nat) (m gg : Int) (R : Option Addr) (n c : Nat) (qs : List P9) (w : World) (hv : IV w A N ts) (hN : N ≤ maxLen) (hK : K ≤ maxLen) (hr : SV 1 w R n (pc qs)) (hp : PR w qs) (hn : n ≤ 100000) (hF : ∀ q ∈ qs, FR ts q.2) :
    Calls Try.prog 21 #[SS A N C K m gg, .slice R n c] w fun en w' => ∃ v, en = .returned v ∧ OP w' w.heap.size v (sortA (cP ts K) qs) ∧ Below w.heap.size w w' := by
  have hl : Hid (qs.length = n) := by have := hr.1; rw [pc_len] at this; show qs.length = n; omega
  have HF := Lib.hid hF
  have HP := Lib.hid hp
  have t0 := (Bk.new w #[.slice A N C, .int .i64 K, .int .i64 m, .int .i64 gg] 29).alloc (.cells #[] 43)
  have o0 : OP ((w.alloc (.cells #[.slice A N C, .int .i64 K, .int .i64 m, .int .i64 gg] 29)).alloc (.cells #[] 43)) (w.heap.size + 1) (.slice (some ⟨w.heap.size + 1, 0, none⟩) 0 0) [] := OS.lit (k := 1) (w.alloc (.cells #[.slice A N C, .int .i64 K, .int .i64 m, .int .i64 gg] 29)) (w.heap.size + 1) (by simp) [] 0 43 rfl (by simp) (by simp) _ (by simp)
  have hb0 := Joins.below_alloc2 w (.cells #[.slice A N C, .int .i64 K, .int .i64 m, .int .i64 gg] 29) (.cells #[] 43)
  clear hF hp
  go_enter Try.func21, Try.ntmps21
  go_wp2_with fail
  go_loopw [5, 6] (fun vo vi wr => ∃ (i : Nat) (ps : List P9), i ≤ n ∧ vi = .int .i64 (i : Int) ∧ OP wr (w.heap.size + 1) vo ps ∧ Hid (ps = sortA (cP ts K) (qs.take i)) ∧ Bk wr w.heap.size #[.slice A N C, .int .i64 K, .int .i64 m, .int .i64 gg] 29 ∧ Below w.heap.size w wr) (fun _ vi _ => n - (intOf vi).toNat)
  case atStart => exact ⟨0, [], by omega, rfl, o0, rfl, t0, hb0⟩
  case round =>
    clear o0 t0 hb0
    obtain ⟨i, ps, hi, rfl, ho, HS, t, hb⟩ := hrel
    have HL : Hid (ps.length = i) := by show _ = _; rw [HS.out, sortA_len, List.length_take, hl.out]; omega
    by_cases hlt : i < n
    · have hii : (i : Int) < (n : Int) := by omega
      obtain ⟨x, hx⟩ : ∃ x, qs.getD i p9 = x := ⟨_, rfl⟩
      obtain ⟨b, off, rfl, hcx⟩ := pc_cell hr hlt
      rw [hx] at hcx
      have hmx : x ∈ qs := by rw [← hx, List.getD_eq_getElem?_getD, List.getElem?_eq_getElem (by rw [hl.out]; exact hlt)]; exact List.getElem_mem _
      have HX : Hid (sortA (cP ts K) (qs.take (i + 1)) = insA (cP ts K) x ps) := by
        show _ = _
        rw [List.take_succ_eq_append_getElem (by rw [hl.out]; exact hlt), sortA_snoc, HS.out, ← hx]
        simp [List.getD, show i < qs.length by rw [hl.out]; exact hlt]
      have HM : Hid (x ∈ qs ∧ ∀ y ∈ ps, y ∈ qs) := ⟨hmx, fun y hy => List.mem_of_mem_take (sortA_mem.1 (HS.out ▸ hy))⟩
      clear hmx hx
      obtain ⟨oA, oC, hs1, ho1, ho2, hout, -⟩ := OS.sv ho
      subst hs1
      rw [HL.out] at hout ho1
      have HLE := HL.out
      rw [HLE]
      clear HLE
      have hrow := hr.below hb
      generalize hwm : wr = wm at *
      clear hwm
      have n0 : OP (wm.alloc (.cells #[] 43)) wm.heap.size (.slice (some ⟨wm.heap.size, 0, none⟩) 0 0) [] := OS.lit (k := 1) wm wm.heap.size (Nat.le_refl _) [] 0 43 rfl (by simp) (by simp) _ rfl
      have hbm := Joins.below_alloc1 wm (.cells #[] 43)
      have hin : i ≤ 100000 := by omega
      have hcx0 := keepc hcx hb
      have hvm := hv.below hb
      have w3 : IntKind.i64.wrap ((i : Int) + 1) = ((i + 1 : Nat) : Int) := by rw [IntKind.wrap_i64]; omega
      clear hcx hr hv
      go_wp2_with fail
      go_loopw [7, 8, 9] (fun vn vp vk wi => ∃ (k : Nat) (nx : List P9) (p : Bool), k ≤ i ∧ vk = .int .i64 (k : Int) ∧ vp = .bool p ∧ OP wi wm.heap.size vn nx ∧ Hid (InsP (cP ts K) x ps nx k p) ∧ nx.length ≤ k + 1 ∧ Below wm.heap.size wm wi) (fun _ _ vk _ => i - (intOf vk).toNat)
      case atStart => exact ⟨0, [], false, by omega, rfl, rfl, n0, InsP.start _ _ _, by simp, hbm⟩
      case round =>
        clear n0 hbm
        obtain ⟨k, nx, p, hk, rfl, rfl, hn9, HI, hnl, hbi⟩ := hrel
        have hsz := hbi.size
        by_cases hki : k < i
        · have hki' : (k : Int) < (i : Int) := by omega
          have w4 : IntKind.i64.wrap ((k : Int) + 1) = ((k + 1 : Nat) : Int) := by rw [IntKind.wrap_i64]; omega
          have hkl : Hid (k < ps.length) := by show _; rw [HL.out]; exact hki
          obtain ⟨b2, off2, rfl, hck0⟩ := pc_cell hout hki
          obtain ⟨y, hy⟩ : ∃ y, ps.getD k p9 = y := ⟨_, rfl⟩
          rw [hy] at hck0
          have HY := Lib.hid hy
          have hmy : y ∈ ps := by rw [← hy, List.getD_eq_getElem?_getD, List.getElem?_eq_getElem hkl.out]; exact List.getElem_mem _
          have hck := keepc hck0 hbi
          have hcx := keepc hcx0 hbi
          cases p
          · obtain ⟨c0, c1, c2, c3⟩ := (t.low hbi t.lt).sx
            obtain ⟨_, _, _, e1, a1, a2, a3, a4, -⟩ := (HP.out y (HM.out.2 y hmy)).below (hb.trans (hbi.mono hb.size)).drew
            cases e1
            obtain ⟨_, _, _, e2, b1, b2', b3, b4, -⟩ := (HP.out x HM.out.1).below (hb.trans (hbi.mono hb.size)).drew
            cases e2
            have fy := HF.out y (HM.out.2 y hmy)
            have fx := HF.out x HM.out.1
            have cc := r4compare_any A N C ts K m gg _ _ y.1.2.2 y.2 _ _ x.1.2.2 x.2 wr.drew (hvm.below hbi.drew) hN a4 (by omega) b4 (by omega) hK (RgV.of fy) (RgV.of fx)
            rw [← cN_ok K fy fx] at cc
            obtain ⟨r, hcr⟩ : ∃ r, cN ts K y.2 x.2 = r := ⟨_, rfl⟩
            rw [hcr] at cc
            have HR := Lib.hid hcr
            clear hcr hmy hy a1 a2 a3 a4 b1 b2' b3 b4 fx fy
            go_wp2_with fail
            refine wp_region_noPanic ?_
            refine region_g 12 (Ext (World.drew _)) (by kernel_rfl) (Ext.refl _) (fun hS => ?_)
            refine take_w (i := 0) (v := ?_) (some 24) rfl (by kernel_rfl) rfl (fun _ _ _ h => h) (Or.inl ⟨by rfl, ?_⟩) hS ?_
            rotate_left
            · (intro wq hq; go_simp); first | done | with_reducible rfl
            try simp only [Act.put, List.setIfInBounds_toArray, List.set_cons_zero, List.set_cons_succ]
            replace hS := Till.list 0 hS
            refine take_w (i := 1) (v := ?_) (some 25) rfl (by kernel_rfl) rfl (fun _ _ _ h => h) (Or.inl ⟨by rfl, ?_⟩) hS ?_
            rotate_left
            · (intro wq hq; go_simp); first | done | with_reducible rfl
            try simp only [Act.put, List.setIfInBounds_toArray, List.set_cons_zero, List.set_cons_succ]
            replace hS := Till.list 1 hS
            refine take_w (i := 2) (v := ?_) (some 26) rfl (by kernel_rfl) rfl (fun _ _ _ h => h) (Or.inl ⟨by rfl, ?_⟩) hS ?_
            rotate_left
            · (intro wq hq; go_simp); first | done | with_reducible rfl
            try simp only [Act.put, List.setIfInBounds_toArray, List.set_cons_zero, List.set_cons_succ]
            replace hS := Till.list 2 hS
            refine take_g (i := 3) (v := ?_) [3] (some 27) rfl (by kernel_rfl) rfl (fun _ _ _ h => h) (Or.inl ⟨by rfl, ?_⟩) hS ?_
            rotate_left
            · (intro wq hq; have q0 := hq _ _ _ c0; have q1 := hq _ _ _ c1; have q2 := hq _ _ _ c2; have q3 := hq _ _ _ c3; have q4 := hq _ _ _ hck; have q5 := hq _ _ _ hcx; go_simp); first | done | with_reducible rfl
            try simp only [Act.put, List.setIfInBounds_toArray, List.set_cons_zero, List.set_cons_succ]
            replace hS := Till.list 3 hS
            refine take_w (i := 4) (v := ?_) (some 28) rfl (by kernel_rfl) rfl (fun _ _ _ h => h) (Or.inl ⟨by rfl, ?_⟩) hS ?_
            rotate_left
            · (intro wq hq; go_simp); first | done | with_reducible rfl
            try simp only [Act.put, List.setIfInBounds_toArray, List.set_cons_zero, List.set_cons_succ]
            replace hS := Till.list 4 hS
            refine take_w (i := 5) (v := ?_) (some 29) rfl (by kernel_rfl) rfl (fun _ _ _ h => h) (Or.inl ⟨by rfl, ?_⟩) hS ?_
            rotate_left
            · (intro wq hq; go_simp); first | done | with_reducible rfl
            try simp only [Act.put, List.setIfInBounds_toArray, List.set_cons_zero, List.set_cons_succ]
            replace hS := Till.list 5 hS
            refine take_w (i := 8) (v := ?_) (some 32) rfl (by kernel_rfl) rfl (fun _ _ _ h => h) (Or.inl ⟨by rfl, ?_⟩) hS ?_
            rotate_left
            · (intro wq hq; go_simp); first | done | with_reducible rfl
            try simp only [Act.put, List.setIfInBounds_toArray, List.set_cons_zero, List.set_cons_succ]
            replace hS := Till.list 8 hS
            refine take_w (i := 9) (v := ?_) (some 33) rfl (by kernel_rfl) rfl (fun _ _ _ h => h) (Or.inl ⟨by rfl, ?_⟩) hS ?_
            rotate_left
            · (intro wq hq; go_simp); first | done | with_reducible rfl
            try simp only [Act.put, List.setIfInBounds_toArray, List.set_cons_zero, List.set_cons_succ]
            replace hS := Till.list 9 hS
            refine take_w (i := 6) (v := ?_) (some 30) rfl (by kernel_rfl) rfl (fun _ _ _ h => h) (Or.inl ⟨by rfl, ?_⟩) hS ?_
            rotate_left
            · (intro wq hq; go_simp); first | done | with_reducible rfl
            try simp only [Act.put, List.setIfInBounds_toArray, List.set_cons_zero, List.set_cons_succ]
            replace hS := Till.list 6 hS
            refine take_w (i := 10) (v := ?_) (some 34) rfl (by kernel_rfl) rfl (fun _ _ _ h => h) (Or.inl ⟨by rfl, ?_⟩) hS ?_
            rotate_left
            · (intro wq hq; go_simp); first | done | with_reducible rfl
            try simp only [Act.put, List.setIfInBounds_toArray, List.set_cons_zero, List.set_cons_succ]
            replace hS := Till.list 10 hS
            refine take_g (i := 7) (v := ?_) [7] (some 31) rfl (by kernel_rfl) rfl (fun _ _ _ h => h) (Or.inl ⟨by rfl, ?_⟩) hS ?_
            rotate_left
            · (intro wq hq; have q0 := hq _ _ _ c0; have q1 := hq _ _ _ c1; have q2 := hq _ _ _ c2; have q3 := hq _ _ _ c3; have q4 := hq _ _ _ hck; have q5 := hq _ _ _ hcx; go_simp); first | done | with_reducible rfl
            try simp only [Act.put, List.setIfInBounds_toArray, List.set_cons_zero, List.set_cons_succ]
            replace hS := Till.list 7 hS
            refine take_g (i := 11) (v := ?_) [11] (some 35) rfl (by kernel_rfl) rfl (fun _ _ _ h => h) (Or.inl ⟨by rfl, ?_⟩) hS ?_
            rotate_left
            · (intro wq hq; have q0 := hq _ _ _ c0; have q1 := hq _ _ _ c1; have q2 := hq _ _ _ c2; have q3 := hq _ _ _ c3; have q4 := hq _ _ _ hck; have q5 := hq _ _ _ hcx; go_simp); first | done | with_reducible rfl
            try simp only [Act.put, List.setIfInBounds_toArray, List.set_cons_zero, List.set_cons_succ]
            replace hS := Till.list 11 hS
            refine ready_g (rs := [12]) (by kernel_rfl) (by simp) ?_
            refine AllReadyG.cons rfl (fun Kont hK => ?_) AllReadyG.nil
            go_simp
            refine cc.mono ?_
            rintro en w' ⟨rfl, hb'⟩
            refine hK.out _ _ (Or.inl (by kernel_rfl)) (fun hS0 => ?_)
            clear hK Kont
            try simp only [Act.put, List.setIfInBounds_toArray, List.set_cons_zero, List.set_cons_succ]
            clear hS
            have hS := hS0
            clear hS0
            refine take_w (i := 13) (v := ?_) (some 37) rfl (by kernel_rfl) rfl (fun _ _ _ h => h) (Or.inl ⟨by rfl, ?_⟩) hS ?_
            rotate_left
            · (intro wq hq; go_simp); first | done | with_reducible rfl
            try simp only [Act.put, List.setIfInBounds_toArray, List.set_cons_zero, List.set_cons_succ]
            replace hS := Till.list 13 hS
            refine take_w (i := 14) (v := ?_) (some 38) rfl (by kernel_rfl) rfl (fun _ _ _ h => h) (Or.inl ⟨by rfl, ?_⟩) hS ?_
            rotate_left
            · (intro wq hq; go_simp); first | done | with_reducible rfl
            try simp only [Act.put, List.setIfInBounds_toArray, List.set_cons_zero, List.set_cons_succ]
            replace hS := Till.list 14 hS
            refine done_g (by kernel_rfl) (NoPanic.normal ?_) _
            clear hS
            replace hbi := hbi.drew.trans (hb'.mono hsz)
            replace hn9 := OS.below (w := wr.drew) hn9 hb'
            have hsz := hbi.size
            clear hb' cc c0 c1 c2 c3 hck hcx
            have hck := keepc hck0 hbi
            have hcx := keepc hcx0 hbi
            cases hd : decide (0 < r)
            · have hr0 := of_decide_eq_false hd
              have HI2 : Hid (InsP (cP ts K) x ps (nx ++ [y]) (k + 1) false) := by
                have := HI.out.skip (d := p9) hkl.out (by rw [HY.out]; show cN ts K y.2 x.2 ≤ 0; rw [HR.out]; omega)
                rwa [HY.out] at this
              clear hd hr0
              go_wp2_with (refine append_os2 el_rows rfl (.tmp 46) (.tmp 51) rfl wm.heap.size _ _ _ rfl (hn9.alloc _) _ 1 1 [sV y.1] rfl (SV.lit' (k := 1) _ [sV y.1] 1 43 rfl (by simp [Value.oneCell']) _ rfl) (by omega) (by omega) (by rw [heap_alloc]; omega) ?_; intro v6 w6 ho7 hb6 hk6 hst6)
              have hb7 := (hbi.alloc hsz (.cells #[sV y.1] 43)).trans hb6
              have ho8 := OP.push ho7 rfl
              clear ho7 hb6 hk6 hst6 hn9 hbi hck hcx
              go_wp2_with fail
              go_roundw
              case rel => exact ⟨k + 1, _, false, by omega, by go_num, rfl, ho8, HI2, by simp; omega, hb7⟩
              case measure => simp [intOf]; omega
            · have hr0 := of_decide_eq_true hd
              have HI2 : Hid (InsP (cP ts K) x ps (nx ++ [x] ++ [y]) (k + 1) true) := by
                have := (HI.out.put (d := p9) hkl.out (by rw [HY.out]; show 0 < cN ts K y.2 x.2; rw [HR.out]; omega)).go (d := p9) hkl.out
                rwa [HY.out] at this
              clear hd hr0
              go_upto_region 13 with (refine append_os2 el_rows rfl (.tmp 39) (.tmp 44) rfl wm.heap.size _ _ _ rfl (hn9.alloc _) _ 1 1 [sV x.1] rfl (SV.lit' (k := 1) _ [sV x.1] 1 43 rfl (by simp [Value.oneCell']) _ rfl) (by omega) (by omega) (by rw [heap_alloc]; omega) ?_; intro v5 w5 ho5 hb5 hk5 hst5)
              have hb6 := (hbi.alloc hsz (.cells #[sV x.1] 43)).trans hb5
              have ho6 : OP w5 wm.heap.size v5 (nx ++ [x]) := OP.push ho5 rfl
              have hnl6 : (nx ++ [x]).length ≤ k + 2 := by simp; omega
              clear ho5 hb5 hk5 hst5 hn9 hbi hck hcx
              have hck := keepc hck0 hb6
              have hsz6 := hb6.size
              clear hsz
              go_wp2_with (refine append_os2 el_rows rfl (.tmp 46) (.tmp 51) rfl wm.heap.size _ _ _ rfl (ho6.alloc _) _ 1 1 [sV y.1] rfl (SV.lit' (k := 1) _ [sV y.1] 1 43 rfl (by simp [Value.oneCell']) _ rfl) (by omega) (by omega) (by rw [heap_alloc]; omega) ?_; intro v7 w7 ho7 hb7 hk7 hst7)
              have hb8 := (hb6.alloc hsz6 (.cells #[sV y.1] 43)).trans hb7
              have ho8 := OP.push ho7 rfl
              clear ho7 hb7 hk7 hst7 ho6 hb6 hck
              go_wp2_with fail
              go_roundw
              case rel => exact ⟨k + 1, _, true, by omega, by go_num, rfl, ho8, HI2, HI2.out.len (by have := hkl.out; omega), hb8⟩
              case measure => simp [intOf]; omega
          · have HI2 : Hid (InsP (cP ts K) x ps (nx ++ [y]) (k + 1) true) := by
              have := HI.out.go (d := p9) hkl.out
              rwa [HY.out] at this
            have hn0 := hn9.drew
            clear hy hmy
            go_wp2_with fail
            refine wp_region_noPanic ?_
            refine region_g 15 (Ext (World.drew _)) (by kernel_rfl) (Ext.refl _) (fun hS => ?_)
            refine take_w (i := 0) (v := ?_) (some 24) rfl (by kernel_rfl) rfl (fun _ _ _ h => h) (Or.inl ⟨by rfl, ?_⟩) hS ?_
            rotate_left
            · (intro wq hq; go_simp); first | done | with_reducible rfl
            try simp only [Act.put, List.setIfInBounds_toArray, List.set_cons_zero, List.set_cons_succ]
            replace hS := Till.list 0 hS
            refine take_w (i := 1) (v := ?_) (some 25) rfl (by kernel_rfl) rfl (fun _ _ _ h => h) (Or.inl ⟨by rfl, ?_⟩) hS ?_
            rotate_left
            · (intro wq hq; go_simp); first | done | with_reducible rfl
            try simp only [Act.put, List.setIfInBounds_toArray, List.set_cons_zero, List.set_cons_succ]
            replace hS := Till.list 1 hS
            refine take_w (i := 2) (v := ?_) (some 26) rfl (by kernel_rfl) rfl (fun _ _ _ h => h) (Or.inl ⟨by rfl, ?_⟩) hS ?_
            rotate_left
            · (intro wq hq; go_simp); first | done | with_reducible rfl
            try simp only [Act.put, List.setIfInBounds_toArray, List.set_cons_zero, List.set_cons_succ]
            replace hS := Till.list 2 hS
            refine take_w (i := 3) (v := undef) (some 27) rfl (by kernel_rfl) rfl (fun _ _ _ h => h) (Or.inr ⟨by rfl, rfl⟩) hS ?_
            try simp only [Act.put, List.setIfInBounds_toArray, List.set_cons_zero, List.set_cons_succ]
            replace hS := Till.list 3 hS
            refine take_w (i := 4) (v := undef) (some 28) rfl (by kernel_rfl) rfl (fun _ _ _ h => h) (Or.inr ⟨by rfl, rfl⟩) hS ?_
            try simp only [Act.put, List.setIfInBounds_toArray, List.set_cons_zero, List.set_cons_succ]
            replace hS := Till.list 4 hS
            refine take_w (i := 5) (v := undef) (some 29) rfl (by kernel_rfl) rfl (fun _ _ _ h => h) (Or.inr ⟨by rfl, rfl⟩) hS ?_
            try simp only [Act.put, List.setIfInBounds_toArray, List.set_cons_zero, List.set_cons_succ]
            replace hS := Till.list 5 hS
            refine take_w (i := 8) (v := undef) (some 32) rfl (by kernel_rfl) rfl (fun _ _ _ h => h) (Or.inr ⟨by rfl, rfl⟩) hS ?_
            try simp only [Act.put, List.setIfInBounds_toArray, List.set_cons_zero, List.set_cons_succ]
            replace hS := Till.list 8 hS
            refine take_w (i := 9) (v := undef) (some 33) rfl (by kernel_rfl) rfl (fun _ _ _ h => h) (Or.inr ⟨by rfl, rfl⟩) hS ?_
            try simp only [Act.put, List.setIfInBounds_toArray, List.set_cons_zero, List.set_cons_succ]
            replace hS := Till.list 9 hS
            refine take_w (i := 6) (v := undef) (some 30) rfl (by kernel_rfl) rfl (fun _ _ _ h => h) (Or.inr ⟨by rfl, rfl⟩) hS ?_
            try simp only [Act.put, List.setIfInBounds_toArray, List.set_cons_zero, List.set_cons_succ]
            replace hS := Till.list 6 hS
            refine take_w (i := 10) (v := undef) (some 34) rfl (by kernel_rfl) rfl (fun _ _ _ h => h) (Or.inr ⟨by rfl, rfl⟩) hS ?_
            try simp only [Act.put, List.setIfInBounds_toArray, List.set_cons_zero, List.set_cons_succ]
            replace hS := Till.list 10 hS
            refine take_w (i := 7) (v := undef) (some 31) rfl (by kernel_rfl) rfl (fun _ _ _ h => h) (Or.inr ⟨by rfl, rfl⟩) hS ?_
            try simp only [Act.put, List.setIfInBounds_toArray, List.set_cons_zero, List.set_cons_succ]
            replace hS := Till.list 7 hS
            refine take_w (i := 11) (v := undef) (some 35) rfl (by kernel_rfl) rfl (fun _ _ _ h => h) (Or.inr ⟨by rfl, rfl⟩) hS ?_
            try simp only [Act.put, List.setIfInBounds_toArray, List.set_cons_zero, List.set_cons_succ]
            replace hS := Till.list 11 hS
            refine take_w (i := 12) (v := undef) (some 36) rfl (by kernel_rfl) rfl (fun _ _ _ h => h) (Or.inr ⟨by rfl, rfl⟩) hS ?_
            try simp only [Act.put, List.setIfInBounds_toArray, List.set_cons_zero, List.set_cons_succ]
            replace hS := Till.list 12 hS
            refine take_w (i := 13) (v := undef) (some 37) rfl (by kernel_rfl) rfl (fun _ _ _ h => h) (Or.inr ⟨by rfl, rfl⟩) hS ?_
            try simp only [Act.put, List.setIfInBounds_toArray, List.set_cons_zero, List.set_cons_succ]
            replace hS := Till.list 13 hS
            refine take_w (i := 14) (v := ?_) (some 38) rfl (by kernel_rfl) rfl (fun _ _ _ h => h) (Or.inl ⟨by rfl, ?_⟩) hS ?_
            rotate_left
            · (intro wq hq; go_simp); first | done | with_reducible rfl
            try simp only [Act.put, List.setIfInBounds_toArray, List.set_cons_zero, List.set_cons_succ]
            replace hS := Till.list 14 hS
            refine done_g (by kernel_rfl) (NoPanic.normal ?_) _
            clear hS
            replace hbi := hbi.drew
            replace hn9 := hn0
            clear hn0 hck hcx hsz
            generalize wr.drew = w9 at *
            have hsz := hbi.size
            have hck := keepc hck0 hbi
            have hcx := keepc hcx0 hbi
            go_wp2_with (refine append_os2 el_rows rfl (.tmp 46) (.tmp 51) rfl wm.heap.size _ _ _ rfl (hn9.alloc _) _ 1 1 [sV y.1] rfl (SV.lit' (k := 1) _ [sV y.1] 1 43 rfl (by simp [Value.oneCell']) _ rfl) (by omega) (by omega) (by rw [heap_alloc]; omega) ?_; intro v6 w6 ho7 hb6 hk6 hst6)
            have hb7 := (hbi.alloc hsz (.cells #[sV y.1] 43)).trans hb6
            have ho8 := OP.push ho7 rfl
            clear ho7 hb6 hk6 hst6 hn9 hbi hck hcx
            go_wp2_with fail
            go_roundw
            case rel => exact ⟨k + 1, _, true, by omega, by go_num, rfl, ho8, HI2, by simp; omega, hb7⟩
            case measure => simp [intOf]; omega
        · have hki' : ¬ (k : Int) < (i : Int) := by omega
          have hke : Hid (k = ps.length) := by have := HL.out; show k = ps.length; omega
          have hcx := keepc hcx0 hbi
          have hbW := hb.trans (hbi.mono hb.size)
          have t' := t.low hbi t.lt
          cases p
          · have HI2 : Hid (nx ++ [x] = sortA (cP ts K) (qs.take (i + 1))) := by
              have h := HI.out
              rw [hke.out] at h
              show _ = _
              rw [HX.out]; exact h.stop
            go_wp2_with (refine append_os2 el_rows rfl (.tmp 55) (.tmp 60) rfl wm.heap.size _ _ _ rfl (hn9.alloc _) _ 1 1 [sV x.1] rfl (SV.lit' (k := 1) _ [sV x.1] 1 43 rfl (by simp [Value.oneCell']) _ rfl) (by omega) (by omega) (by rw [heap_alloc]; omega) ?_; intro v6 w6 ho7 hb6 hk6 hst6)
            have hb7 := (hbW.alloc (Nat.le_trans hb.size hsz) (.cells #[sV x.1] 43)).trans (hb6.mono hb.size)
            have ho8 := OP.push ho7 rfl
            have t8 := (t'.alloc (.cells #[sV x.1] 43)).low hb6 t.lt
            clear ho7 hb6 hk6 hst6 hn9 hbi hcx hbW t'
            have hbs := hb.size
            have hts := t.lt
            go_wp2_with fail
            go_roundw
            case rel => exact ⟨i + 1, _, by omega, by go_num, ho8.lower (by omega), HI2, t8, hb7⟩
            case measure => simp [intOf]; omega
          · have HI2 : Hid (nx = sortA (cP ts K) (qs.take (i + 1))) := by
              have h := HI.out
              rw [hke.out] at h
              show _ = _
              rw [HX.out]; exact h.done
            have hbs := hb.size
            have hts := t.lt
            go_wp2_with fail
            go_roundw
            case rel => exact ⟨i + 1, _, by omega, by go_num, hn9.lower (by omega), HI2, t', hbW⟩
            case measure => simp [intOf]; omega
    · have hii : ¬ (i : Int) < (n : Int) := by omega
      have e : sortA (cP ts K) qs = ps := by rw [HS.out, List.take_of_length_le (by rw [hl.out]; omega)]
      have HE := Lib.hid e
      clear e
      go_wp2_with fail
      go_ret
      exact ⟨_, rfl, by rw [HE.out]; exact ho.lower (by omega), hb⟩
end Go.Proofs.Ytiigcjncpjdkcaa
