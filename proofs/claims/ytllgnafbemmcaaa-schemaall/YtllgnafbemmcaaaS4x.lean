/- Contracts of the document's own Check and Batch. -/
import Derived.Test.YtllgnafbemmcaaaS4l
namespace Go.Proofs.Ytllgnafbemmcaaa
open Go.ChangeShapes Go.WideShapes Go.ChangeAt Go.RowKit
set_option linter.unusedVariables false

theorem chk_bad {ts : List Int} {k m g : Int} (h : ¬ (1 ≤ ts.length ∧ ts.length ≤ 64 ∧ 1 ≤ k ∧ k ≤ (ts.length : Int) ∧ 1 ≤ m ∧ m ≤ 3 ∧ 1 ≤ g ∧ g ≤ 64)) : chkE ts k m g = 20 := by
  have : checkB ts k m g = false := decide_eq_false (fun hh => h ⟨hh.1, hh.2.1, hh.2.2.1, hh.2.2.2.1, hh.2.2.2.2.1, hh.2.2.2.2.2.1, hh.2.2.2.2.2.2.1, hh.2.2.2.2.2.2.2.1⟩)
  rw [chkE, this]; rfl
theorem chk_good {ts : List Int} {k m g : Int} (h : 1 ≤ ts.length ∧ ts.length ≤ 64 ∧ 1 ≤ k ∧ k ≤ (ts.length : Int) ∧ 1 ≤ m ∧ m ≤ 3 ∧ 1 ≤ g ∧ g ≤ 64) (ht : ∀ i, i < ts.length → 1 ≤ ts.getD i 0 ∧ ts.getD i 0 ≤ 3) : chkE ts k m g = 0 := by
  have : checkB ts k m g = true := by
    refine decide_eq_true ⟨h.1, h.2.1, h.2.2.1, h.2.2.2.1, h.2.2.2.2.1, h.2.2.2.2.2.1, h.2.2.2.2.2.2.1, h.2.2.2.2.2.2.2, fun x hx => ?_⟩
    obtain ⟨i, hi, rfl⟩ := List.mem_iff_getElem.1 hx
    simpa [List.getD, hi] using ht i hi
  rw [chkE, this]; rfl
theorem chk_bad_at {ts : List Int} {k m g : Int} {i : Nat} (hi : i < ts.length) (h : ¬ (1 ≤ ts.getD i 0 ∧ ts.getD i 0 ≤ 3)) : chkE ts k m g = 20 :=
  chk_type hi (decide_eq_false h)
set_option maxHeartbeats 4000000 in
theorem rcheck_any (A : Option Addr) (N C : Nat) (ts : List Int) (k m g : Int) (w : World) (hv : IV w A N ts) (hN : N ≤ maxLen) :
    Calls Try.prog 18 #[SS A N C k m g] w fun e w' => e = .returned (.int .i64 (chkE ts k m g)) ∧ Below w.heap.size w w' := by
  unfold maxLen at hN
  have hl := Lib.hid (IV.len hv)
  by_cases a1 : (1 : Int) ≤ (N : Int)
  · by_cases a2 : (N : Int) ≤ 64
    · by_cases a3 : 1 ≤ k
      · by_cases a4 : k ≤ (N : Int)
        · by_cases a5 : 1 ≤ m
          · by_cases a6 : m ≤ 3
            · by_cases a7 : 1 ≤ g
              · by_cases a8 : g ≤ 64
                · have HG := Lib.hid (show 1 ≤ ts.length ∧ ts.length ≤ 64 ∧ 1 ≤ k ∧ k ≤ (ts.length : Int) ∧ 1 ≤ m ∧ m ≤ 3 ∧ 1 ≤ g ∧ g ≤ 64 by rw [hl.out]; omega)
                  have hx := Sx.new w A N C k m g 24
                  have hbw := Joins.below_alloc1 w (.cells #[.slice A N C, .int .i64 k, .int .i64 m, .int .i64 g] 24)
                  go_enter Try.func18, Try.ntmps18
                  go_wp2_with fail
                  clear a3 a4 a5 a6 a7 a8
                  generalize w.alloc (.cells #[.slice A N C, .int .i64 k, .int .i64 m, .int .i64 g] 24) = w0 at *
                  obtain ⟨c0, -, -, -⟩ := hx
                  replace hv := hv.below hbw
                  go_loop [4] (fun i => ∃ j : Nat, j ≤ N ∧ i = .int .i64 (j : Int) ∧ Hid (∀ i, i < j → 1 ≤ ts.getD i 0 ∧ ts.getD i 0 ≤ 3)) (fun i => N - (intOf i).toNat)
                  case atStart => exact ⟨0, by omega, rfl, Lib.hid (fun i hi => by omega)⟩
                  case round =>
                    obtain ⟨j, hj, rfl, HT⟩ := hrel
                    by_cases hlt : j < N
                    · obtain ⟨b, off, rfl, e1⟩ := IV.at hv j hlt
                      generalize hx1 : ts.getD j 0 = x at e1
                      have HX := Lib.hid hx1
                      clear hx1
                      have hji : (j : Int) < (N : Int) := by omega
                      by_cases b1 : 1 ≤ x
                      · by_cases b2 : x ≤ 3
                        · have HT' : Hid (∀ i, i < j + 1 → 1 ≤ ts.getD i 0 ∧ ts.getD i 0 ≤ 3) := Lib.hid (fun i hi => by
                            by_cases hij : i < j
                            · exact HT.out i hij
                            · obtain rfl : i = j := by omega
                              rw [HX.out]; exact ⟨b1, b2⟩)
                          go_wp2_with fail
                          go_round
                          case rel => exact ⟨j + 1, by omega, by go_num, HT'⟩
                          case measure => simp [intOf]; omega
                        · have no := Lib.hid (chk_bad_at (k := k) (m := m) (g := g) (ts := ts) (i := j) (by rw [hl.out]; exact hlt) (by rw [HX.out]; omega))
                          go_wp2_with fail
                          go_ret
                          exact ⟨ret_int no.out.symm, hbw⟩
                      · have no := Lib.hid (chk_bad_at (k := k) (m := m) (g := g) (ts := ts) (i := j) (by rw [hl.out]; exact hlt) (by rw [HX.out]; omega))
                        go_wp2_with fail
                        go_ret
                        exact ⟨ret_int no.out.symm, hbw⟩
                    · obtain rfl : j = N := by omega
                      have ok := Lib.hid (chk_good HG.out (fun i hi => HT.out i (by rw [← hl.out]; exact hi)))
                      go_wp2_with fail
                      go_ret
                      exact ⟨ret_int ok.out.symm, hbw⟩
                · skip
                  have HB := Lib.hid (chk_bad (ts := ts) (k := k) (m := m) (g := g) (by rw [hl.out]; omega))
                  go_enter Try.func18, Try.ntmps18
                  go_wp2_with fail
                  go_ret
                  exact ⟨ret_int HB.out.symm, Joins.below_alloc1 _ _⟩
              · skip
                have HB := Lib.hid (chk_bad (ts := ts) (k := k) (m := m) (g := g) (by rw [hl.out]; omega))
                go_enter Try.func18, Try.ntmps18
                go_wp2_with fail
                go_ret
                exact ⟨ret_int HB.out.symm, Joins.below_alloc1 _ _⟩
            · skip
              have HB := Lib.hid (chk_bad (ts := ts) (k := k) (m := m) (g := g) (by rw [hl.out]; omega))
              go_enter Try.func18, Try.ntmps18
              go_wp2_with fail
              go_ret
              exact ⟨ret_int HB.out.symm, Joins.below_alloc1 _ _⟩
          · skip
            have HB := Lib.hid (chk_bad (ts := ts) (k := k) (m := m) (g := g) (by rw [hl.out]; omega))
            go_enter Try.func18, Try.ntmps18
            go_wp2_with fail
            go_ret
            exact ⟨ret_int HB.out.symm, Joins.below_alloc1 _ _⟩
        · skip
          have HB := Lib.hid (chk_bad (ts := ts) (k := k) (m := m) (g := g) (by rw [hl.out]; omega))
          go_enter Try.func18, Try.ntmps18
          go_wp2_with fail
          go_ret
          exact ⟨ret_int HB.out.symm, Joins.below_alloc1 _ _⟩
      · skip
        have HB := Lib.hid (chk_bad (ts := ts) (k := k) (m := m) (g := g) (by rw [hl.out]; omega))
        go_enter Try.func18, Try.ntmps18
        go_wp2_with fail
        go_ret
        exact ⟨ret_int HB.out.symm, Joins.below_alloc1 _ _⟩
    · skip
      have HB := Lib.hid (chk_bad (ts := ts) (k := k) (m := m) (g := g) (by rw [hl.out]; omega))
      go_enter Try.func18, Try.ntmps18
      go_wp2_with fail
      go_ret
      exact ⟨ret_int HB.out.symm, Joins.below_alloc1 _ _⟩
  · skip
    have HB := Lib.hid (chk_bad (ts := ts) (k := k) (m := m) (g := g) (by rw [hl.out]; omega))
    go_enter Try.func18, Try.ntmps18
    go_wp2_with fail
    go_ret
    exact ⟨ret_int HB.out.symm, Joins.below_alloc1 _ _⟩
end Go.Proofs.Ytllgnafbemmcaaa
