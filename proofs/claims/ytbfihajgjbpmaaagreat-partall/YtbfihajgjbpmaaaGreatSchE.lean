/- Texts that belong together, one behind the other: S4x, S4y. -/
import Derived.Test.YtbfihajgjbpmaaaGreatSchC
import Derived.Test.YtbfihajgjbpmaaaGreatSchD
import Derived.Test.YtbfihajgjbpmaaaGreatOwn
/- Contracts of the document's own Check and Batch. -/
namespace Go.Proofs.YtbfihajgjbpmaaaGreat
open Go.ChangeShapes Go.WideShapes Go.ChangeAt Go.RowKit
set_option linter.unusedVariables false
set_option maxRecDepth 4000

theorem chk_bad {ts : List Int} {k m g : Int} (h : ¬ (1 ≤ ts.length ∧ ts.length ≤ 64 ∧ 1 ≤ k ∧ k ≤ (ts.length : Int) ∧ 1 ≤ m ∧ m ≤ 3 ∧ 1 ≤ g ∧ g ≤ 64)) : chkE ts k m g = 20 := by
  have : checkB ts k m g = false := decide_eq_false (fun hh => h ⟨hh.1, hh.2.1, hh.2.2.1, hh.2.2.2.1, hh.2.2.2.2.1, hh.2.2.2.2.2.1, hh.2.2.2.2.2.2.1, hh.2.2.2.2.2.2.2.1⟩)
  rw [chkE, this]; rfl
theorem chk_good {ts : List Int} {k m g : Int} (h : 1 ≤ ts.length ∧ ts.length ≤ 64 ∧ 1 ≤ k ∧ k ≤ (ts.length : Int) ∧ 1 ≤ m ∧ m ≤ 3 ∧ 1 ≤ g ∧ g ≤ 64) (ht : ∀ i, i < ts.length → 1 ≤ ts.getD i 0 ∧ ts.getD i 0 ≤ 3) : chkE ts k m g = 0 := by
  have : checkB ts k m g = true := by
    refine decide_eq_true ⟨h.1, h.2.1, h.2.2.1, h.2.2.2.1, h.2.2.2.2.1, h.2.2.2.2.2.1, h.2.2.2.2.2.2.1, h.2.2.2.2.2.2.2, fun x hx => ?_⟩
    obtain ⟨i, hi, rfl⟩ := List.mem_iff_getElem.1 hx
    simpa [List.getD, hi] using ht i hi
  rw [chkE, this]; rfl
theorem chk_bad_at {ts : List Int} {k m g : Int} {i : Nat} (hi : i < ts.length) (h : ¬ (1 ≤ ts.getD i 0 ∧ ts.getD i 0 ≤ 3)) : chkE ts k m g = 20 :=
  chk_type hi (decide_eq_false h)
set_option maxHeartbeats 4000000 in
theorem rcheck_any (A : Option Addr) (N C : Nat) (ts : List Int) (k m g : Int) (w : World) (hv : IV w A N ts) (hN : N ≤ maxLen) :
    Calls Tryz.prog 30 #[SS A N C k m g] w fun e w' => e = .returned (.int .i64 (chkE ts k m g)) ∧ Below w.heap.size w w' := by
  unfold maxLen at hN
  have hl := Lib.hid (IV.len hv)
  by_cases a1 : (1 : Int) ≤ (N : Int)
  · by_cases a2 : (N : Int) ≤ 64
    · by_cases a3 : 1 ≤ k
      · by_cases a4 : k ≤ (N : Int)
        · by_cases a5 : 1 ≤ m
          · by_cases a6 : m ≤ 3
            · by_cases a7 : 1 ≤ g
              · by_cases a8 : g ≤ 64
                · have HG := Lib.hid (show 1 ≤ ts.length ∧ ts.length ≤ 64 ∧ 1 ≤ k ∧ k ≤ (ts.length : Int) ∧ 1 ≤ m ∧ m ≤ 3 ∧ 1 ≤ g ∧ g ≤ 64 by rw [hl.out]; omega)
                  have hx := Sx.new w A N C k m g 24
                  have hbw := Joins.below_alloc1 w (.cells #[.slice A N C, .int .i64 k, .int .i64 m, .int .i64 g] 24)
                  go_enter Tryz.func30, Tryz.ntmps30
                  go_wp2_with fail
                  clear a3 a4 a5 a6 a7 a8
                  generalize w.alloc (.cells #[.slice A N C, .int .i64 k, .int .i64 m, .int .i64 g] 24) = w0 at *
                  obtain ⟨c0, -, -, -⟩ := hx
                  replace hv := hv.below hbw
                  go_loop [4] (fun i => ∃ j : Nat, j ≤ N ∧ i = .int .i64 (j : Int) ∧ Hid (∀ i, i < j → 1 ≤ ts.getD i 0 ∧ ts.getD i 0 ≤ 3)) (fun i => N - (intOf i).toNat)
                  case atStart => exact ⟨0, by omega, rfl, Lib.hid (fun i hi => by omega)⟩
                  case round =>
                    obtain ⟨j, hj, rfl, HT⟩ := hrel
                    by_cases hlt : j < N
                    · obtain ⟨b, off, rfl, e1⟩ := IV.at hv j hlt
                      generalize hx1 : ts.getD j 0 = x at e1
                      have HX := Lib.hid hx1
                      clear hx1
                      have hji : (j : Int) < (N : Int) := by omega
                      by_cases b1 : 1 ≤ x
                      · by_cases b2 : x ≤ 3
                        · have HT' : Hid (∀ i, i < j + 1 → 1 ≤ ts.getD i 0 ∧ ts.getD i 0 ≤ 3) := Lib.hid (fun i hi => by
                            by_cases hij : i < j
                            · exact HT.out i hij
                            · obtain rfl : i = j := by omega
                              rw [HX.out]; exact ⟨b1, b2⟩)
                          go_wp2_with fail
                          go_round
                          case rel => exact ⟨j + 1, by omega, by go_num, HT'⟩
                          case measure => simp [intOf]; omega
                        · have no := Lib.hid (chk_bad_at (k := k) (m := m) (g := g) (ts := ts) (i := j) (by rw [hl.out]; exact hlt) (by rw [HX.out]; omega))
                          go_wp2_with fail
                          go_ret
                          exact ⟨ret_int no.out.symm, hbw⟩
                      · have no := Lib.hid (chk_bad_at (k := k) (m := m) (g := g) (ts := ts) (i := j) (by rw [hl.out]; exact hlt) (by rw [HX.out]; omega))
                        go_wp2_with fail
                        go_ret
                        exact ⟨ret_int no.out.symm, hbw⟩
                    · obtain rfl : j = N := by omega
                      have ok := Lib.hid (chk_good HG.out (fun i hi => HT.out i (by rw [← hl.out]; exact hi)))
                      go_wp2_with fail
                      go_ret
                      exact ⟨ret_int ok.out.symm, hbw⟩
                · skip
                  have HB := Lib.hid (chk_bad (ts := ts) (k := k) (m := m) (g := g) (by rw [hl.out]; omega))
                  go_enter Tryz.func30, Tryz.ntmps30
                  go_wp2_with fail
                  go_ret
                  exact ⟨ret_int HB.out.symm, Joins.below_alloc1 _ _⟩
              · skip
                have HB := Lib.hid (chk_bad (ts := ts) (k := k) (m := m) (g := g) (by rw [hl.out]; omega))
                go_enter Tryz.func30, Tryz.ntmps30
                go_wp2_with fail
                go_ret
                exact ⟨ret_int HB.out.symm, Joins.below_alloc1 _ _⟩
            · skip
              have HB := Lib.hid (chk_bad (ts := ts) (k := k) (m := m) (g := g) (by rw [hl.out]; omega))
              go_enter Tryz.func30, Tryz.ntmps30
              go_wp2_with fail
              go_ret
              exact ⟨ret_int HB.out.symm, Joins.below_alloc1 _ _⟩
          · skip
            have HB := Lib.hid (chk_bad (ts := ts) (k := k) (m := m) (g := g) (by rw [hl.out]; omega))
            go_enter Tryz.func30, Tryz.ntmps30
            go_wp2_with fail
            go_ret
            exact ⟨ret_int HB.out.symm, Joins.below_alloc1 _ _⟩
        · skip
          have HB := Lib.hid (chk_bad (ts := ts) (k := k) (m := m) (g := g) (by rw [hl.out]; omega))
          go_enter Tryz.func30, Tryz.ntmps30
          go_wp2_with fail
          go_ret
          exact ⟨ret_int HB.out.symm, Joins.below_alloc1 _ _⟩
      · skip
        have HB := Lib.hid (chk_bad (ts := ts) (k := k) (m := m) (g := g) (by rw [hl.out]; omega))
        go_enter Tryz.func30, Tryz.ntmps30
        go_wp2_with fail
        go_ret
        exact ⟨ret_int HB.out.symm, Joins.below_alloc1 _ _⟩
    · skip
      have HB := Lib.hid (chk_bad (ts := ts) (k := k) (m := m) (g := g) (by rw [hl.out]; omega))
      go_enter Tryz.func30, Tryz.ntmps30
      go_wp2_with fail
      go_ret
      exact ⟨ret_int HB.out.symm, Joins.below_alloc1 _ _⟩
  · skip
    have HB := Lib.hid (chk_bad (ts := ts) (k := k) (m := m) (g := g) (by rw [hl.out]; omega))
    go_enter Tryz.func30, Tryz.ntmps30
    go_wp2_with fail
    go_ret
    exact ⟨ret_int HB.out.symm, Joins.below_alloc1 _ _⟩
end Go.Proofs.YtbfihajgjbpmaaaGreat
/- Contracts of the document's own Batch and Put, and of the statements' own few. -/
namespace Go.Proofs.YtbfihajgjbpmaaaGreat
open Go.ChangeShapes Go.WideShapes Go.ChangeAt Go.RowKit
set_option linter.unusedVariables false
set_option maxRecDepth 4000

set_option maxHeartbeats 2000000 in
theorem rput_any (A : Option Addr) (N C : Nat) (ts : List Int) (k m g : Int) (w : World) (hv : IV w A N ts) (hk : checkB ts k m g = true) :
    Calls Tryz.prog 33 #[SS A N C k m g] w fun e w' => ∃ v, e = .returned v ∧ OW w' w.heap.size v (putS ts k m g) ∧ Below w.heap.size w w' := by
  have hl := Lib.hid (IV.len hv)
  obtain ⟨q1, q2, q3, q4, q5, q6, q7, q8, -⟩ := check_is hk
  rw [hl.out] at q1 q2 q4
  have HK := Lib.hid hk
  clear hk
  have hx := Sx.new w A N C k m g 24
  go_enter Tryz.func33, Tryz.ntmps33
  have hwN : IntKind.u64.wrap (N : Int) = (N : Int) := u64_same (by omega) (by omega)
  go_wp2_with fail
  refine (rputvar_any N _ (by omega) (by omega)).mono ?_
  rintro e w1 ⟨v1, rfl, ho, hb1⟩
  replace hx := hx.below hb1
  have hbel := after1 hb1
  replace ho := ho.ow.mono (base' := w.heap.size + 1) (by simp)
  have hlp := pv_len10 (x := (N : Int)) (by omega)
  clear hb1
  go_wp2_with fail
  go_loopw [3, 4] (fun o i wr => ∃ (j : Nat) (bs : List Int), j ≤ N ∧ i = .int .i64 (j : Int) ∧ Hid (bs = joinN ((N : Int) :: ts.take j)) ∧ bs.length ≤ 10 * (j + 1) ∧ OW wr (w.heap.size + 1) o bs ∧ Sx wr w.heap.size A N C k m g ∧ Below w.heap.size w wr) (fun _ i _ => N - (intOf i).toNat)
  case atStart => exact ⟨0, _, by omega, rfl, Lib.hid (by simp [joinN]), by simpa using hlp, ho, hx, hbel⟩
  case round =>
    clear ho hx hbel hlp
    obtain ⟨j, bs, hj, rfl, HB, hbl, ho, hx, hbel⟩ := hrel
    obtain ⟨c0, c1, c2, c3⟩ := id hx
    by_cases hlt : j < N
    · obtain ⟨b, off, rfl, hcl⟩ := IV.at hv j hlt
      have hcl' := keepc hcl hbel
      have hr := type_at HK.out (j := j) (by rw [hl.out]; exact hlt)
      have HS := Lib.hid (take_snocI ts j (by rw [hl.out]; exact hlt))
      generalize ts.getD j 0 = x at hcl' hr HS
      clear hcl
      have hlp := pv_len10 (x := x) (by omega)
      have hwx : IntKind.u64.wrap x = x := u64_same (by omega) (by omega)
      have hji : (j : Int) < (N : Int) := by omega
      go_wp2_with fail
      clear c0 c1 c2 c3
      refine (rputvar_any x _ (by omega) (by omega)).mono ?_
      rintro e w2 ⟨v2, rfl, ho2, hb2⟩
      obtain ⟨a2, e2, rfl, -, -, bv2, -⟩ := ho2.ow.bvn (pv_bytes (by omega)) (pv x).length rfl
      replace ho := ho.below hb2
      replace hx := hx.below hb2
      replace hbel := Below.then hbel hb2
      have hs2 : w.heap.size + 1 ≤ w2.heap.size := hx.lt
      clear ho2 hb2
      go_wp2_with (refine append_ow rfl (.tmp 17) (.tmp 24) rfl (w.heap.size + 1) _ _ rfl ho _ _ _ (pv x) rfl bv2 (by first | omega | (simp only [List.length_append]; omega)) hs2 ?_; intro v3 w3 ho3 hb3; replace ho := ho3; replace hx := hx.low hb3 (by omega); replace hbel := hbel.trans (hb3.mono (by omega)); clear ho3 hb3 bv2 hs2; obtain ⟨c0, c1, c2, c3⟩ := id hx)
      go_roundw
      case rel => exact ⟨j + 1, _, by omega, by go_num, Lib.hid (by rw [HS.out, HB.out, ← List.cons_append, joinN_snoc]), by rw [List.length_append]; omega, ho, hx, hbel⟩
      case measure => simp [intOf]; omega
    · obtain rfl : j = N := by omega
      have HB' : Hid (bs = joinN ((j : Int) :: ts)) := Lib.hid (by rw [HB.out, ← hl.out, List.take_length])
      have hwk : IntKind.u64.wrap k = k := u64_same (by omega) (by omega)
      have hwm : IntKind.u64.wrap m = m := u64_same (by omega) (by omega)
      have hwg : IntKind.u64.wrap g = g := u64_same (by omega) (by omega)
      have l1 := pv_len10 (x := k) (by omega)
      have l2 := pv_len10 (x := m) (by omega)
      have l3 := pv_len10 (x := g) (by omega)
      go_wp2_with fail
      clear c0 c1 c2 c3
      refine (rputvar_any k _ (by omega) (by omega)).mono ?_
      rintro e w2 ⟨v2, rfl, ho2, hb2⟩
      obtain ⟨a2, e2, rfl, -, -, bv2, -⟩ := ho2.ow.bvn (pv_bytes (by omega)) (pv k).length rfl
      replace ho := ho.below hb2
      replace hx := hx.below hb2
      replace hbel := Below.then hbel hb2
      have hs2 : w.heap.size + 1 ≤ w2.heap.size := hx.lt
      clear ho2 hb2
      go_wp2_with (refine append_ow rfl (.tmp 26) (.tmp 30) rfl (w.heap.size + 1) _ _ rfl ho _ _ _ (pv k) rfl bv2 (by first | omega | (simp only [List.length_append]; omega)) hs2 ?_; intro v3 w3 ho3 hb3; replace ho := ho3; replace hx := hx.low hb3 (by omega); replace hbel := hbel.trans (hb3.mono (by omega)); clear ho3 hb3 bv2 hs2; obtain ⟨c0, c1, c2, c3⟩ := id hx)
      clear c0 c1 c2 c3
      refine (rputvar_any m _ (by omega) (by omega)).mono ?_
      rintro e w2 ⟨v2, rfl, ho2, hb2⟩
      obtain ⟨a2, e2, rfl, -, -, bv2, -⟩ := ho2.ow.bvn (pv_bytes (by omega)) (pv m).length rfl
      replace ho := ho.below hb2
      replace hx := hx.below hb2
      replace hbel := Below.then hbel hb2
      have hs2 : w.heap.size + 1 ≤ w2.heap.size := hx.lt
      clear ho2 hb2
      go_wp2_with (refine append_ow rfl (.tmp 32) (.tmp 36) rfl (w.heap.size + 1) _ _ rfl ho _ _ _ (pv m) rfl bv2 (by first | omega | (simp only [List.length_append]; omega)) hs2 ?_; intro v3 w3 ho3 hb3; replace ho := ho3; replace hx := hx.low hb3 (by omega); replace hbel := hbel.trans (hb3.mono (by omega)); clear ho3 hb3 bv2 hs2; obtain ⟨c0, c1, c2, c3⟩ := id hx)
      clear c0 c1 c2 c3
      refine (rputvar_any g _ (by omega) (by omega)).mono ?_
      rintro e w2 ⟨v2, rfl, ho2, hb2⟩
      obtain ⟨a2, e2, rfl, -, -, bv2, -⟩ := ho2.ow.bvn (pv_bytes (by omega)) (pv g).length rfl
      replace ho := ho.below hb2
      replace hx := hx.below hb2
      replace hbel := Below.then hbel hb2
      have hs2 : w.heap.size + 1 ≤ w2.heap.size := hx.lt
      clear ho2 hb2
      go_wp2_with (refine append_ow rfl (.tmp 38) (.tmp 42) rfl (w.heap.size + 1) _ _ rfl ho _ _ _ (pv g) rfl bv2 (by first | omega | (simp only [List.length_append]; omega)) hs2 ?_; intro v3 w3 ho3 hb3; replace ho := ho3; replace hx := hx.low hb3 (by omega); replace hbel := hbel.trans (hb3.mono (by omega)); clear ho3 hb3 bv2 hs2; obtain ⟨c0, c1, c2, c3⟩ := id hx)
      go_ret
      refine ⟨_, rfl, ?_, hbel⟩
      have e : bs ++ pv k ++ pv m ++ pv g = putS ts k m g := by
        rw [HB'.out, putS, schemaN, hl.out, ← List.cons_append, joinN_app]
        simp [joinN]
      rw [e] at ho
      exact ho.mono (by omega)
end Go.Proofs.YtbfihajgjbpmaaaGreat
