/- Contract of Same: whether two schemas are the same. -/
import Derived.Test.YtllgnafbemmcaaaS4i
namespace Go.Proofs.Ytllgnafbemmcaaa
open Go.ChangeShapes Go.WideShapes Go.ChangeAt Go.RowKit
set_option linter.unusedVariables false

def sameS (ts : List Int) (k m g : Int) (us : List Int) (k' m' g' : Int) : Bool := decide (ts = us ∧ k = k' ∧ m = m' ∧ g = g')
theorem list_getD {ts us : List Int} (hl : ts.length = us.length) (h : ∀ i, i < ts.length → ts.getD i 0 = us.getD i 0) : ts = us := by
  refine List.ext_getElem hl (fun i h1 h2 => ?_)
  have := h i h1
  simpa [List.getD, h1, h2] using this
set_option maxHeartbeats 2000000 in
theorem same_any (A : Option Addr) (N C : Nat) (ts : List Int) (k m g : Int) (A' : Option Addr) (N' C' : Nat) (us : List Int) (k' m' g' : Int) (w : World) (hv : IV w A N ts) (hv' : IV w A' N' us) (hN : N ≤ maxLen) (hN' : N' ≤ maxLen) :
    Calls Try.prog 16 #[SS A N C k m g, SS A' N' C' k' m' g'] w fun e w' => e = .returned (.bool (sameS ts k m g us k' m' g')) ∧ Below w.heap.size w w' := by
  unfold maxLen at hN hN'
  have hl := Lib.hid (IV.len hv)
  have hl' := Lib.hid (IV.len hv')
  by_cases h1 : N = N'
  · subst h1
    by_cases h2 : k = k'
    · subst h2
      by_cases h3 : m = m'
      · subst h3
        by_cases h4 : g = g'
        · subst h4
          have hx := (Sx.new w A N C k m g 24).alloc (.cells #[.slice A' N C', .int .i64 k, .int .i64 m, .int .i64 g] 24)
          have hy := Sx.new (w.alloc (.cells #[.slice A N C, .int .i64 k, .int .i64 m, .int .i64 g] 24)) A' N C' k m g 24
          rw [heap_alloc] at hy
          go_enter Try.func16, Try.ntmps16
          go_wp2_with fail
          have hb0 : Below w.heap.size w ((w.alloc (.cells #[.slice A N C, .int .i64 k, .int .i64 m, .int .i64 g] 24)).alloc (.cells #[.slice A' N C', .int .i64 k, .int .i64 m, .int .i64 g] 24)) := Joins.below_alloc2 _ _ _
          generalize (w.alloc (.cells #[.slice A N C, .int .i64 k, .int .i64 m, .int .i64 g] 24)).alloc (.cells #[.slice A' N C', .int .i64 k, .int .i64 m, .int .i64 g] 24) = w0 at *
          go_loopw [5] (fun i wr => ∃ j : Nat, j ≤ N ∧ i = .int .i64 (j : Int) ∧ Hid (∀ i, i < j → ts.getD i 0 = us.getD i 0) ∧ Below w0.heap.size w0 wr) (fun i _ => N - (intOf i).toNat)
          case atStart => exact ⟨0, by omega, rfl, Lib.hid (fun i hi => by omega), Below.refl _ _⟩
          case round =>
            obtain ⟨j, hj, rfl, HT, hbel⟩ := hrel
            replace hx := hx.below hbel
            replace hy := hy.below hbel
            replace hb0 := Below.then hb0 hbel
            obtain ⟨c0, -, -, -⟩ := id hx
            obtain ⟨d0, -, -, -⟩ := id hy
            by_cases hlt : j < N
            · obtain ⟨b, off, rfl, e1⟩ := IV.at hv j hlt
              obtain ⟨b', off', rfl, e2⟩ := IV.at hv' j hlt
              have e1 := keepc e1 hb0
              have e2 := keepc e2 hb0
              have hji : (j : Int) < (N : Int) := by omega
              generalize hx1 : ts.getD j 0 = x at e1
              generalize hy1 : us.getD j 0 = y at e2
              have HX := Lib.hid hx1
              have HY := Lib.hid hy1
              clear hx1 hy1
              by_cases hxy : x = y
              · subst hxy
                have HT' : Hid (∀ i, i < j + 1 → ts.getD i 0 = us.getD i 0) := Lib.hid (fun i hi => by
                  by_cases hij : i < j
                  · exact HT.out i hij
                  · obtain rfl : i = j := by omega
                    rw [HX.out, HY.out])
                go_wp2_with fail
                refine wp_region_noPanic ?_
                refine region_g 11 (Ext (World.drew _)) (by kernel_rfl) (Ext.refl _) (fun hS => ?_)
                refine take_w (i := 0) (v := ?_) (some 41) rfl (by kernel_rfl) rfl (fun _ _ _ h => h) (Or.inl ⟨by rfl, ?_⟩) hS ?_
                rotate_left
                · (intro wq hq; go_simp); first | done | with_reducible rfl
                try simp only [Act.put, List.setIfInBounds_toArray, List.set_cons_zero, List.set_cons_succ]
                replace hS := Till.list 0 hS
                refine take_w (i := 2) (v := ?_) (some 43) rfl (by kernel_rfl) rfl (fun _ _ _ h => h) (Or.inl ⟨by rfl, ?_⟩) hS ?_
                rotate_left
                · (intro wq hq; go_simp); first | done | with_reducible rfl
                try simp only [Act.put, List.setIfInBounds_toArray, List.set_cons_zero, List.set_cons_succ]
                replace hS := Till.list 2 hS
                refine take_w (i := 5) (v := ?_) (some 46) rfl (by kernel_rfl) rfl (fun _ _ _ h => h) (Or.inl ⟨by rfl, ?_⟩) hS ?_
                rotate_left
                · (intro wq hq; go_simp); first | done | with_reducible rfl
                try simp only [Act.put, List.setIfInBounds_toArray, List.set_cons_zero, List.set_cons_succ]
                replace hS := Till.list 5 hS
                refine take_w (i := 7) (v := ?_) (some 48) rfl (by kernel_rfl) rfl (fun _ _ _ h => h) (Or.inl ⟨by rfl, ?_⟩) hS ?_
                rotate_left
                · (intro wq hq; go_simp); first | done | with_reducible rfl
                try simp only [Act.put, List.setIfInBounds_toArray, List.set_cons_zero, List.set_cons_succ]
                replace hS := Till.list 7 hS
                refine take_n (i := 1) (v := ?_) (some 42) rfl (by kernel_rfl) rfl (fun _ _ _ h => h) (Or.inl ⟨by rfl, ?_⟩) hS ?_
                rotate_left
                · (intro wq hq; have q0 := hq _ _ _ c0; have q1 := hq _ _ _ d0; have q2 := hq _ _ _ e1; have q3 := hq _ _ _ e2; go_simp); first | done | with_reducible rfl
                try simp only [Act.put, List.setIfInBounds_toArray, List.set_cons_zero, List.set_cons_succ]
                replace hS := Till.list 1 hS
                refine take_n (i := 6) (v := ?_) (some 47) rfl (by kernel_rfl) rfl (fun _ _ _ h => h) (Or.inl ⟨by rfl, ?_⟩) hS ?_
                rotate_left
                · (intro wq hq; have q0 := hq _ _ _ c0; have q1 := hq _ _ _ d0; have q2 := hq _ _ _ e1; have q3 := hq _ _ _ e2; go_simp); first | done | with_reducible rfl
                try simp only [Act.put, List.setIfInBounds_toArray, List.set_cons_zero, List.set_cons_succ]
                replace hS := Till.list 6 hS
                refine take_w (i := 3) (v := ?_) (some 44) rfl (by kernel_rfl) rfl (fun _ _ _ h => h) (Or.inl ⟨by rfl, ?_⟩) hS ?_
                rotate_left
                · (intro wq hq; go_simp); first | done | with_reducible rfl
                try simp only [Act.put, List.setIfInBounds_toArray, List.set_cons_zero, List.set_cons_succ]
                replace hS := Till.list 3 hS
                refine take_w (i := 8) (v := ?_) (some 49) rfl (by kernel_rfl) rfl (fun _ _ _ h => h) (Or.inl ⟨by rfl, ?_⟩) hS ?_
                rotate_left
                · (intro wq hq; go_simp); first | done | with_reducible rfl
                try simp only [Act.put, List.setIfInBounds_toArray, List.set_cons_zero, List.set_cons_succ]
                replace hS := Till.list 8 hS
                refine take_n (i := 4) (v := ?_) (some 45) rfl (by kernel_rfl) rfl (fun _ _ _ h => h) (Or.inl ⟨by rfl, ?_⟩) hS ?_
                rotate_left
                · (intro wq hq; have q0 := hq _ _ _ c0; have q1 := hq _ _ _ d0; have q2 := hq _ _ _ e1; have q3 := hq _ _ _ e2; go_simp); first | done | with_reducible rfl
                try simp only [Act.put, List.setIfInBounds_toArray, List.set_cons_zero, List.set_cons_succ]
                replace hS := Till.list 4 hS
                refine take_n (i := 9) (v := ?_) (some 50) rfl (by kernel_rfl) rfl (fun _ _ _ h => h) (Or.inl ⟨by rfl, ?_⟩) hS ?_
                rotate_left
                · (intro wq hq; have q0 := hq _ _ _ c0; have q1 := hq _ _ _ d0; have q2 := hq _ _ _ e1; have q3 := hq _ _ _ e2; go_simp); first | done | with_reducible rfl
                try simp only [Act.put, List.setIfInBounds_toArray, List.set_cons_zero, List.set_cons_succ]
                replace hS := Till.list 9 hS
                refine take_w (i := 10) (v := ?_) (some 51) rfl (by kernel_rfl) rfl (fun _ _ _ h => h) (Or.inl ⟨by rfl, ?_⟩) hS ?_
                rotate_left
                · (intro wq hq; go_simp); first | done | with_reducible rfl
                try simp only [Act.put, List.setIfInBounds_toArray, List.set_cons_zero, List.set_cons_succ]
                replace hS := Till.list 10 hS
                refine done_g (by kernel_rfl) (NoPanic.normal ?_) _
                clear hS
                go_wp2_with fail
                go_roundw
                case rel => exact ⟨j + 1, by omega, by go_num, HT', hbel.drew⟩
                case measure => simp [intOf]; omega
              · have hne : (x == y) = false := by rw [beq_eq_false_iff_ne]; exact hxy
                have HF : Hid (sameS ts k m g us k m g = false) := Lib.hid (decide_eq_false (fun h => hxy (by rw [← HX.out, ← HY.out, h.1])))
                go_wp2_with fail
                refine wp_region_noPanic ?_
                refine region_g 11 (Ext (World.drew _)) (by kernel_rfl) (Ext.refl _) (fun hS => ?_)
                refine take_w (i := 0) (v := ?_) (some 41) rfl (by kernel_rfl) rfl (fun _ _ _ h => h) (Or.inl ⟨by rfl, ?_⟩) hS ?_
                rotate_left
                · (intro wq hq; go_simp); first | done | with_reducible rfl
                try simp only [Act.put, List.setIfInBounds_toArray, List.set_cons_zero, List.set_cons_succ]
                replace hS := Till.list 0 hS
                refine take_w (i := 2) (v := ?_) (some 43) rfl (by kernel_rfl) rfl (fun _ _ _ h => h) (Or.inl ⟨by rfl, ?_⟩) hS ?_
                rotate_left
                · (intro wq hq; go_simp); first | done | with_reducible rfl
                try simp only [Act.put, List.setIfInBounds_toArray, List.set_cons_zero, List.set_cons_succ]
                replace hS := Till.list 2 hS
                refine take_w (i := 5) (v := ?_) (some 46) rfl (by kernel_rfl) rfl (fun _ _ _ h => h) (Or.inl ⟨by rfl, ?_⟩) hS ?_
                rotate_left
                · (intro wq hq; go_simp); first | done | with_reducible rfl
                try simp only [Act.put, List.setIfInBounds_toArray, List.set_cons_zero, List.set_cons_succ]
                replace hS := Till.list 5 hS
                refine take_w (i := 7) (v := ?_) (some 48) rfl (by kernel_rfl) rfl (fun _ _ _ h => h) (Or.inl ⟨by rfl, ?_⟩) hS ?_
                rotate_left
                · (intro wq hq; go_simp); first | done | with_reducible rfl
                try simp only [Act.put, List.setIfInBounds_toArray, List.set_cons_zero, List.set_cons_succ]
                replace hS := Till.list 7 hS
                refine take_n (i := 1) (v := ?_) (some 42) rfl (by kernel_rfl) rfl (fun _ _ _ h => h) (Or.inl ⟨by rfl, ?_⟩) hS ?_
                rotate_left
                · (intro wq hq; have q0 := hq _ _ _ c0; have q1 := hq _ _ _ d0; have q2 := hq _ _ _ e1; have q3 := hq _ _ _ e2; go_simp); first | done | with_reducible rfl
                try simp only [Act.put, List.setIfInBounds_toArray, List.set_cons_zero, List.set_cons_succ]
                replace hS := Till.list 1 hS
                refine take_n (i := 6) (v := ?_) (some 47) rfl (by kernel_rfl) rfl (fun _ _ _ h => h) (Or.inl ⟨by rfl, ?_⟩) hS ?_
                rotate_left
                · (intro wq hq; have q0 := hq _ _ _ c0; have q1 := hq _ _ _ d0; have q2 := hq _ _ _ e1; have q3 := hq _ _ _ e2; go_simp); first | done | with_reducible rfl
                try simp only [Act.put, List.setIfInBounds_toArray, List.set_cons_zero, List.set_cons_succ]
                replace hS := Till.list 6 hS
                refine take_w (i := 3) (v := ?_) (some 44) rfl (by kernel_rfl) rfl (fun _ _ _ h => h) (Or.inl ⟨by rfl, ?_⟩) hS ?_
                rotate_left
                · (intro wq hq; go_simp); first | done | with_reducible rfl
                try simp only [Act.put, List.setIfInBounds_toArray, List.set_cons_zero, List.set_cons_succ]
                replace hS := Till.list 3 hS
                refine take_w (i := 8) (v := ?_) (some 49) rfl (by kernel_rfl) rfl (fun _ _ _ h => h) (Or.inl ⟨by rfl, ?_⟩) hS ?_
                rotate_left
                · (intro wq hq; go_simp); first | done | with_reducible rfl
                try simp only [Act.put, List.setIfInBounds_toArray, List.set_cons_zero, List.set_cons_succ]
                replace hS := Till.list 8 hS
                refine take_n (i := 4) (v := ?_) (some 45) rfl (by kernel_rfl) rfl (fun _ _ _ h => h) (Or.inl ⟨by rfl, ?_⟩) hS ?_
                rotate_left
                · (intro wq hq; have q0 := hq _ _ _ c0; have q1 := hq _ _ _ d0; have q2 := hq _ _ _ e1; have q3 := hq _ _ _ e2; go_simp); first | done | with_reducible rfl
                try simp only [Act.put, List.setIfInBounds_toArray, List.set_cons_zero, List.set_cons_succ]
                replace hS := Till.list 4 hS
                refine take_n (i := 9) (v := ?_) (some 50) rfl (by kernel_rfl) rfl (fun _ _ _ h => h) (Or.inl ⟨by rfl, ?_⟩) hS ?_
                rotate_left
                · (intro wq hq; have q0 := hq _ _ _ c0; have q1 := hq _ _ _ d0; have q2 := hq _ _ _ e1; have q3 := hq _ _ _ e2; go_simp); first | done | with_reducible rfl
                try simp only [Act.put, List.setIfInBounds_toArray, List.set_cons_zero, List.set_cons_succ]
                replace hS := Till.list 9 hS
                refine take_w (i := 10) (v := ?_) (some 51) rfl (by kernel_rfl) rfl (fun _ _ _ h => h) (Or.inl ⟨by rfl, ?_⟩) hS ?_
                rotate_left
                · (intro wq hq; go_simp); first | done | with_reducible rfl
                try simp only [Act.put, List.setIfInBounds_toArray, List.set_cons_zero, List.set_cons_succ]
                replace hS := Till.list 10 hS
                refine done_g (by kernel_rfl) (NoPanic.normal ?_) _
                clear hS
                go_wp2_with fail
                go_ret
                exact ⟨by rw [HF.out]; rfl, hb0.drew⟩
            · obtain rfl : j = N := by omega
              have HF : Hid (sameS ts k m g us k m g = true) := Lib.hid (decide_eq_true ⟨list_getD (by rw [hl.out, hl'.out]) (fun i hi => HT.out i (by rw [← hl.out]; exact hi)), rfl, rfl, rfl⟩)
              go_wp2_with fail
              go_ret
              exact ⟨by rw [HF.out]; rfl, hb0⟩
        · have hne : (g == g') = false := by rw [beq_eq_false_iff_ne]; exact h4
          have HF : Hid (sameS ts k m g us k m g' = false) := Lib.hid (decide_eq_false (fun h => h4 h.2.2.2))
          go_enter Try.func16, Try.ntmps16
          go_wp2_with fail
          go_ret
          exact ⟨by rw [HF.out]; rfl, Joins.below_alloc2 _ _ _⟩
      · have hne : (m == m') = false := by rw [beq_eq_false_iff_ne]; exact h3
        have HF : Hid (sameS ts k m g us k m' g' = false) := Lib.hid (decide_eq_false (fun h => h3 h.2.2.1))
        go_enter Try.func16, Try.ntmps16
        go_wp2_with fail
        go_ret
        exact ⟨by rw [HF.out]; rfl, Joins.below_alloc2 _ _ _⟩
    · have hne : (k == k') = false := by rw [beq_eq_false_iff_ne]; exact h2
      have HF : Hid (sameS ts k m g us k' m' g' = false) := Lib.hid (decide_eq_false (fun h => h2 h.2.1))
      go_enter Try.func16, Try.ntmps16
      go_wp2_with fail
      go_ret
      exact ⟨by rw [HF.out]; rfl, Joins.below_alloc2 _ _ _⟩
  · have hne : ((N : Int) == (N' : Int)) = false := by rw [beq_eq_false_iff_ne]; omega
    have HF : Hid (sameS ts k m g us k' m' g' = false) := Lib.hid (decide_eq_false (fun h => h1 (by rw [← hl.out, ← hl'.out, h.1])))
    go_enter Try.func16, Try.ntmps16
    go_wp2_with fail
    go_ret
    exact ⟨by rw [HF.out]; rfl, Joins.below_alloc2 _ _ _⟩
end Go.Proofs.Ytllgnafbemmcaaa
