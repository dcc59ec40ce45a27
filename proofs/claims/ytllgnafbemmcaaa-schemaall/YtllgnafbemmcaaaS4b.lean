/- Contracts of schema.Row and of the document's own Row. -/
import Derived.Test.YtllgnafbemmcaaaS4a
import Derived.Test.YtllgnafbemmcaaaV3n
namespace Go.Proofs.Ytllgnafbemmcaaa
open Go.ChangeShapes Go.WideShapes Go.ChangeAt Go.RowKit
set_option linter.unusedVariables false

/-- whether a row may be -/
def rowB : List Int → List (Int × ByteArray) → Bool
  | [], [] => true
  | t :: ts, v :: vs => fitsB t v.1 v.2 && rowB ts vs
  | _, _ => false
theorem rowB_len : ∀ (ts : List Int) (vs : List (Int × ByteArray)), rowB ts vs = true → vs.length = ts.length
  | [], [], _ => rfl
  | [], _ :: _, h => by cases h
  | _ :: _, [], h => by cases h
  | t :: ts, v :: vs, h => by
    rw [rowB, Bool.and_eq_true] at h
    rw [List.length_cons, List.length_cons, rowB_len ts vs h.2]
theorem rowB_odd {ts : List Int} {vs : List (Int × ByteArray)} (h : vs.length ≠ ts.length) : rowB ts vs = false := by
  cases hr : rowB ts vs
  · rfl
  · exact absurd (rowB_len _ _ hr) h
theorem rowB_at : ∀ (ts : List Int) (vs : List (Int × ByteArray)), rowB ts vs = true → ∀ i, i < ts.length → fitsB (ts.getD i 0) (vs.getD i v0).1 (vs.getD i v0).2 = true
  | [], _, _, i, hi => by simp at hi
  | _ :: _, [], h, _, _ => by cases h
  | t :: ts, v :: vs, h, 0, _ => by
    rw [rowB, Bool.and_eq_true] at h
    exact h.1
  | t :: ts, v :: vs, h, i + 1, hi => by
    rw [rowB, Bool.and_eq_true] at h
    exact rowB_at ts vs h.2 i (by simpa using hi)
theorem rowB_no {ts : List Int} {vs : List (Int × ByteArray)} {i : Nat} (hi : i < ts.length) (h : fitsB (ts.getD i 0) (vs.getD i v0).1 (vs.getD i v0).2 = false) : rowB ts vs = false := by
  cases hr : rowB ts vs
  · rfl
  · have := rowB_at _ _ hr i hi
    rw [h] at this; cases this
theorem rowB_yes : ∀ (ts : List Int) (vs : List (Int × ByteArray)), vs.length = ts.length → (∀ i, i < ts.length → fitsB (ts.getD i 0) (vs.getD i v0).1 (vs.getD i v0).2 = true) → rowB ts vs = true
  | [], [], _, _ => rfl
  | [], _ :: _, h, _ => by simp at h
  | _ :: _, [], h, _ => by simp at h
  | t :: ts, v :: vs, h, hf => by
    rw [rowB, Bool.and_eq_true]
    exact ⟨hf 0 (by simp), rowB_yes ts vs (by simpa using h) (fun i hi => hf (i + 1) (by simpa using hi))⟩
set_option maxHeartbeats 1000000 in
theorem row_any (A : Option Addr) (N C : Nat) (ts : List Int) (k m g : Int) (R : Option Addr) (n c : Nat) (vs : List (Int × ByteArray)) (w : World) (hv : IV w A N ts) (hN : N ≤ maxLen) (hr : WV w R n vs) (hn : n ≤ maxLen) :
    Calls Try.prog 12 #[SS A N C k m g, .slice R n c] w fun e w' => e = .returned (.bool (rowB ts vs)) ∧ Below w.heap.size w w' := by
  unfold maxLen at hN hn
  have hl := Lib.hid (IV.len hv)
  have hl2 := Lib.hid (WV.len hr)
  by_cases hq : n = N
  · subst hq
    go_enter Try.func12, Try.ntmps12
    go_wp2_with fail
    go_loopw [16] (fun i wr => ∃ j : Nat, j ≤ n ∧ i = .int .i64 (j : Int) ∧ Hid (∀ i, i < j → fitsB (ts.getD i 0) (vs.getD i v0).1 (vs.getD i v0).2 = true) ∧ Below w.heap.size w wr) (fun i _ => n - (intOf i).toNat)
    case atStart => exact ⟨0, by omega, rfl, Lib.hid (fun i hi => by omega), Joins.below_alloc1 _ _⟩
    case round =>
      obtain ⟨j, hj, rfl, HT, hbel⟩ := hrel
      by_cases hlt : j < n
      · obtain ⟨b, off, rfl, hc⟩ := IV.at hv j hlt
        obtain ⟨b2, off2, rfl, hd⟩ := WV.at hr j hlt
        have hc' := keepc hc hbel
        have hd1 := keepc hd.1 hbel
        have hd2 := keepc hd.2 hbel
        generalize hx : ts.getD j 0 = x at hc'
        generalize hy : vs.getD j v0 = y at hd1 hd2
        have HX := Lib.hid hx
        have HY := Lib.hid hy
        clear hx hy hc hd
        go_wp2_with fail
        refine (fits_any x y.1 y.2 _).mono ?_
        rintro e w1 ⟨rfl, hb1⟩
        have hb' := Below.then hbel hb1
        clear hb1 hc' hd1 hd2 hbel
        cases h5 : fitsB x y.1 y.2
        · have no := Lib.hid (rowB_no (ts := ts) (vs := vs) (i := j) (by rw [hl.out]; exact hlt) (by rw [HX.out, HY.out]; exact h5))
          go_wp2_with fail
          go_ret
          exact ⟨by rw [no.out]; rfl, hb'⟩
        · have HT' : Hid (∀ i, i < j + 1 → fitsB (ts.getD i 0) (vs.getD i v0).1 (vs.getD i v0).2 = true) := Lib.hid (fun i hi => by
            by_cases hij : i < j
            · exact HT.out i hij
            · obtain rfl : i = j := by omega
              rw [HX.out, HY.out]; exact h5)
          go_wp2_with fail
          go_roundw
          case rel => exact ⟨j + 1, by omega, by go_num, HT', hb'⟩
          case measure => simp [intOf]; omega
      · obtain rfl : j = n := by omega
        have ok := Lib.hid (rowB_yes ts vs (by rw [hl.out, hl2.out]) (fun i hi => HT.out i (by rw [← hl.out]; exact hi)))
        go_wp2_with fail
        go_ret
        exact ⟨by rw [ok.out]; rfl, hbel⟩
  · have no := Lib.hid (rowB_odd (ts := ts) (vs := vs) (by rw [hl.out, hl2.out]; exact hq))
    have hq' : ((n : Int) == (N : Int)) = false := by rw [beq_eq_false_iff_ne]; omega
    go_enter Try.func12, Try.ntmps12
    go_wp2_with fail
    go_ret
    exact ⟨by rw [no.out]; rfl, Joins.below_alloc1 _ _⟩
set_option maxHeartbeats 1000000 in
theorem rrow_any (A : Option Addr) (N C : Nat) (ts : List Int) (k m g : Int) (R : Option Addr) (n c : Nat) (vs : List (Int × ByteArray)) (w : World) (hv : IV w A N ts) (hN : N ≤ maxLen) (hr : WV w R n vs) (hn : n ≤ maxLen) :
    Calls Try.prog 13 #[SS A N C k m g, .slice R n c] w fun e w' => e = .returned (.bool (rowB ts vs)) ∧ Below w.heap.size w w' := by
  unfold maxLen at hN hn
  have hl := Lib.hid (IV.len hv)
  have hl2 := Lib.hid (WV.len hr)
  by_cases hq : n = N
  · subst hq
    go_enter Try.func13, Try.ntmps13
    go_wp2_with fail
    go_loopw [5] (fun i wr => ∃ j : Nat, j ≤ n ∧ i = .int .i64 (j : Int) ∧ Hid (∀ i, i < j → fitsB (ts.getD i 0) (vs.getD i v0).1 (vs.getD i v0).2 = true) ∧ Below (w.alloc (.cells #[.slice A n C, .int .i64 k, .int .i64 m, .int .i64 g] 24)).heap.size (w.alloc (.cells #[.slice A n C, .int .i64 k, .int .i64 m, .int .i64 g] 24)) wr) (fun i _ => n - (intOf i).toNat)
    case atStart => exact ⟨0, by omega, rfl, Lib.hid (fun i hi => by omega), Below.refl _ _⟩
    case round =>
      obtain ⟨j, hj, rfl, HT, hbel⟩ := hrel
      have hx0 := (Sx.new w A n C k m g 24).below hbel
      have hbw := after1 hbel
      by_cases hlt : j < n
      · obtain ⟨b, off, rfl, hc⟩ := IV.at hv j hlt
        obtain ⟨b2, off2, rfl, hd⟩ := WV.at hr j hlt
        have hc' := keepc hc hbw
        have hd1 := keepc hd.1 hbw
        have hd2 := keepc hd.2 hbw
        generalize hx : ts.getD j 0 = x at hc'
        generalize hy : vs.getD j v0 = y at hd1 hd2
        have HX := Lib.hid hx
        have HY := Lib.hid hy
        obtain ⟨c0, -, -, -⟩ := hx0
        clear hx hy hc hd
        go_wp2_with fail
        refine wp_region_noPanic ?_
        refine wp_region_held_drew (S := Ext (World.drew _)) (by kernel_rfl) (Ext.refl _) (fun hS => ?_)
        refine take_at (i := 0) (v := ?_) (some 19) rfl (by kernel_rfl) (by kernel_rfl) (by kernel_rfl) rfl (fun _ _ _ h => h) (Or.inl ⟨by rfl, ?_⟩) hS ?_
        rotate_left
        · (intro wq hq; go_simp); first | done | with_reducible rfl
        try simp only [Act.put, List.setIfInBounds_toArray, List.set_cons_zero, List.set_cons_succ]
        refine take_at (i := 1) (v := ?_) (some 20) rfl (by kernel_rfl) (by kernel_rfl) (by kernel_rfl) rfl (fun _ _ _ h => h) (Or.inl ⟨by rfl, ?_⟩) hS ?_
        rotate_left
        · (intro wq hq; have q := hq _ _ _ c0; go_simp); first | done | with_reducible rfl
        try simp only [Act.put, List.setIfInBounds_toArray, List.set_cons_zero, List.set_cons_succ]
        refine take_at (i := 2) (v := ?_) (some 21) rfl (by kernel_rfl) (by kernel_rfl) (by kernel_rfl) rfl (fun _ _ _ h => h) (Or.inl ⟨by rfl, ?_⟩) hS ?_
        rotate_left
        · (intro wq hq; go_simp); first | done | with_reducible rfl
        try simp only [Act.put, List.setIfInBounds_toArray, List.set_cons_zero, List.set_cons_succ]
        refine take_at (i := 3) (v := ?_) (some 22) rfl (by kernel_rfl) (by kernel_rfl) (by kernel_rfl) rfl (fun _ _ _ h => h) (Or.inl ⟨by rfl, ?_⟩) hS ?_
        rotate_left
        · (intro wq hq; go_simp); first | done | with_reducible rfl
        try simp only [Act.put, List.setIfInBounds_toArray, List.set_cons_zero, List.set_cons_succ]
        refine take_at (i := 4) (v := ?_) (some 23) rfl (by kernel_rfl) (by kernel_rfl) (by kernel_rfl) rfl (fun _ _ _ h => h) (Or.inl ⟨by rfl, ?_⟩) hS ?_
        rotate_left
        · (intro wq hq; have q := hq _ _ _ hc'; go_simp); first | done | with_reducible rfl
        try simp only [Act.put, List.setIfInBounds_toArray, List.set_cons_zero, List.set_cons_succ]
        refine take_at (i := 5) (v := ?_) (some 24) rfl (by kernel_rfl) (by kernel_rfl) (by kernel_rfl) rfl (fun _ _ _ h => h) (Or.inl ⟨by rfl, ?_⟩) hS ?_
        rotate_left
        · (intro wq hq; go_simp); first | done | with_reducible rfl
        try simp only [Act.put, List.setIfInBounds_toArray, List.set_cons_zero, List.set_cons_succ]
        refine take_at (i := 6) (v := ?_) (some 25) rfl (by kernel_rfl) (by kernel_rfl) (by kernel_rfl) rfl (fun _ _ _ h => h) (Or.inl ⟨by rfl, ?_⟩) hS ?_
        rotate_left
        · (intro wq hq; go_simp); first | done | with_reducible rfl
        try simp only [Act.put, List.setIfInBounds_toArray, List.set_cons_zero, List.set_cons_succ]
        refine take_at (i := 7) (v := ?_) (some 26) rfl (by kernel_rfl) (by kernel_rfl) (by kernel_rfl) rfl (fun _ _ _ h => h) (Or.inl ⟨by rfl, ?_⟩) hS ?_
        rotate_left
        · (intro wq hq; go_simp); first | done | with_reducible rfl
        try simp only [Act.put, List.setIfInBounds_toArray, List.set_cons_zero, List.set_cons_succ]
        refine take_at (i := 8) (v := ?_) (some 27) rfl (by kernel_rfl) (by kernel_rfl) (by kernel_rfl) rfl (fun _ _ _ h => h) (Or.inl ⟨by rfl, ?_⟩) hS ?_
        rotate_left
        · (intro wq hq; have q1 := hq _ _ _ hd1; have q2 := hq _ _ _ hd2; go_simp); first | done | with_reducible rfl
        try simp only [Act.put, List.setIfInBounds_toArray, List.set_cons_zero, List.set_cons_succ]
        refine wpAnyH_ready (rs := [9]) (by kernel_rfl) (by simp) ?_
        refine AllReadyH.cons rfl (fun K hK => ?_) AllReadyH.nil
        go_simp
        refine (rfits_any x y.1 y.2 _).mono ?_
        rintro e w1 ⟨rfl, hb1⟩
        refine hK.out _ _ (Ext.below hb1) (fun hS0 => ?_)
        clear hK K
        try simp only [Act.put, List.setIfInBounds_toArray, List.set_cons_zero, List.set_cons_succ]
        clear hS
        refine held_now hS0 (fun hS => ?_)
        clear hS0
        refine take_at (i := 10) (v := ?_) (some 6) rfl (by kernel_rfl) (by kernel_rfl) (by kernel_rfl) rfl (fun _ _ _ h => h) (Or.inl ⟨by rfl, ?_⟩) hS ?_
        rotate_left
        · (intro wq hq; go_simp); first | done | with_reducible rfl
        try simp only [Act.put, List.setIfInBounds_toArray, List.set_cons_zero, List.set_cons_succ]
        refine wpAnyH_done (by kernel_rfl) (NoPanic.normal ?_) _
        have hb' := Below.then hbel.drew hb1
        clear hb1 hc' hd1 hd2 hS hbel c0 hbw
        cases h5 : fitsB x y.1 y.2
        · have no := Lib.hid (rowB_no (ts := ts) (vs := vs) (i := j) (by rw [hl.out]; exact hlt) (by rw [HX.out, HY.out]; exact h5))
          go_wp2_with fail
          go_ret
          exact ⟨by rw [no.out]; rfl, after1 hb'⟩
        · have HT' : Hid (∀ i, i < j + 1 → fitsB (ts.getD i 0) (vs.getD i v0).1 (vs.getD i v0).2 = true) := Lib.hid (fun i hi => by
            by_cases hij : i < j
            · exact HT.out i hij
            · obtain rfl : i = j := by omega
              rw [HX.out, HY.out]; exact h5)
          go_wp2_with fail
          go_roundw
          case rel => exact ⟨j + 1, by omega, by go_num, HT', hb'⟩
          case measure => simp [intOf]; omega
      · obtain rfl : j = n := by omega
        have ok := Lib.hid (rowB_yes ts vs (by rw [hl.out, hl2.out]) (fun i hi => HT.out i (by rw [← hl.out]; exact hi)))
        go_wp2_with fail
        go_ret
        exact ⟨by rw [ok.out]; rfl, hbw⟩
  · have no := Lib.hid (rowB_odd (ts := ts) (vs := vs) (by rw [hl.out, hl2.out]; exact hq))
    have hq' : ((n : Int) == (N : Int)) = false := by rw [beq_eq_false_iff_ne]; omega
    go_enter Try.func13, Try.ntmps13
    go_wp2_with fail
    go_ret
    exact ⟨by rw [no.out]; rfl, Joins.below_alloc1 _ _⟩
end Go.Proofs.Ytllgnafbemmcaaa
