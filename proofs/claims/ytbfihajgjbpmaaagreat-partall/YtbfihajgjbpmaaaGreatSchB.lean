/- Texts that belong together, one behind the other: S4a, V3n, S4b, S4c, S4d, S4e, S4f, S4g. -/
import Derived.Test.YtbfihajgjbpmaaaGreatSchA
import Derived.Test.YtbfihajgjbpmaaaGreatBase
import Derived.Test.YtbfihajgjbpmaaaGreatVals
/- Schemas and rows in memory; contracts of upTo, isMode, isType, Check, Row. -/
namespace Go.Proofs.YtbfihajgjbpmaaaGreat
open Go.ChangeShapes Go.WideShapes Go.ChangeAt Go.RowKit
set_option linter.unusedVariables false
set_option maxRecDepth 4000

/-- a schema -/
abbrev SS (A : Option Addr) (N C : Nat) (k m g : Int) : Value := .agg #[.slice A N C, .int .i64 k, .int .i64 m, .int .i64 g]
def upB (top n : Int) : Bool := decide (1 ≤ n ∧ n ≤ top)
theorem upB_yes {top n : Int} (h : upB top n = true) : 1 ≤ n ∧ n ≤ top := of_decide_eq_true h
theorem upB_no {top n : Int} (h : upB top n = false) : ¬ (1 ≤ n ∧ n ≤ top) := of_decide_eq_false h
set_option maxHeartbeats 400000 in
theorem upto_any (top n : Int) (w : World) : Calls Tryz.prog 80 #[.int .i64 top, .int .i64 n] w fun e w' => e = .returned (.bool (upB top n)) ∧ w' = w := by
  by_cases h1 : 1 ≤ n
  · go_enter Tryz.func80, Tryz.ntmps80
    go_wp2
    go_ret
    exact ⟨by simp [upB, h1], rfl⟩
  · go_enter Tryz.func80, Tryz.ntmps80
    go_wp2
    go_ret
    have : upB top n = false := decide_eq_false (by omega)
    exact ⟨by rw [this]; rfl, rfl⟩
set_option maxHeartbeats 400000 in
theorem ismode_any (n : Int) (w : World) : Calls Tryz.prog 81 #[.int .i64 n] w fun e w' => e = .returned (.bool (upB 3 n)) ∧ w' = w := by
  by_cases h1 : n = 1
  · subst h1
    go_enter Tryz.func81, Tryz.ntmps81
    go_wp2
    go_ret
    exact ⟨rfl, rfl⟩
  · by_cases h2 : n = 2
    · subst h2
      go_enter Tryz.func81, Tryz.ntmps81
      go_wp2
      go_ret
      exact ⟨rfl, rfl⟩
    · by_cases h3 : n = 3
      · subst h3
        go_enter Tryz.func81, Tryz.ntmps81
        go_wp2
        go_ret
        exact ⟨rfl, rfl⟩
      · go_enter Tryz.func81, Tryz.ntmps81
        go_wp2
        go_ret
        have : upB 3 n = false := decide_eq_false (by omega)
        exact ⟨by rw [this]; rfl, rfl⟩
theorem fits_zero (t : Int) : fitsB t 0 ⟨#[]⟩ = upB 3 t := by
  by_cases h : t = 1 ∨ t = 2
  · rw [fits_num h]; exact (decide_eq_true (by omega)).symm
  · by_cases h3 : t = 3
    · subst h3; simp [fitsB, upB]; decide
    · have : upB 3 t = false := decide_eq_false (by omega)
      rw [this, fitsB, if_neg h, if_neg h3]
set_option maxHeartbeats 400000 in
theorem istype_any (t : Int) (w : World) : Calls Tryz.prog 82 #[.int .i64 t] w fun e w' => e = .returned (.bool (upB 3 t)) ∧ Below w.heap.size w w' := by
  go_enter Tryz.func82, Tryz.ntmps82
  go_wp2_with (go_at_call 83; refine (fits_any t 0 _ _).mono ?_; rw [fits_zero]; rintro e w' ⟨rfl, hb⟩)
  go_ret
  exact ⟨rfl, hb⟩
/-- a schema in a block -/
def Sx (w : World) (b : Nat) (A : Option Addr) (N C : Nat) (k m g : Int) : Prop :=
  w.cell? ⟨b, 0, none⟩ = some (.slice A N C) ∧ w.cell? ⟨b, 1, none⟩ = some (.int .i64 k) ∧ w.cell? ⟨b, 2, none⟩ = some (.int .i64 m) ∧ w.cell? ⟨b, 3, none⟩ = some (.int .i64 g)
theorem Sx.new (w : World) (A : Option Addr) (N C : Nat) (k m g : Int) (t : TypeId) : Sx (w.alloc (.cells #[.slice A N C, .int .i64 k, .int .i64 m, .int .i64 g] t)) w.heap.size A N C k m g := ⟨by go_simp, by go_simp, by go_simp, by go_simp⟩
theorem Sx.lt {w : World} {b : Nat} {A : Option Addr} {N C : Nat} {k m g : Int} (h : Sx w b A N C k m g) : b < w.heap.size := cell_lt h.1
theorem Sx.below {w w' : World} {b : Nat} {A : Option Addr} {N C : Nat} {k m g : Int} (h : Sx w b A N C k m g) (hb : Below w.heap.size w w') : Sx w' b A N C k m g :=
  ⟨keepc h.1 hb, keepc h.2.1 hb, keepc h.2.2.1 hb, keepc h.2.2.2 hb⟩
theorem Sx.alloc {w : World} {b : Nat} {A : Option Addr} {N C : Nat} {k m g : Int} (h : Sx w b A N C k m g) (o : Obj) : Sx (w.alloc o) b A N C k m g :=
  ⟨cell_alloc w o h.1, cell_alloc w o h.2.1, cell_alloc w o h.2.2.1, cell_alloc w o h.2.2.2⟩
/-- what Check tells -/
def chkE (ts : List Int) (k m g : Int) : Int := if checkB ts k m g = true then 0 else 20
/-- the numbers of a schema may be, but for its types -/
def headB (N : Nat) (k m g : Int) : Bool := upB 64 N && upB N k && upB 3 m && upB 64 g
theorem chk_head {ts : List Int} {k m g : Int} (h : headB ts.length k m g = false) : chkE ts k m g = 20 := by
  have : checkB ts k m g = false := by
    refine decide_eq_false fun hh => ?_
    have : headB ts.length k m g = true := by
      simp only [headB, upB, Bool.and_eq_true, decide_eq_true_eq]
      omega
    rw [h] at this; cases this
  rw [chkE, this]; rfl
theorem chk_type {ts : List Int} {k m g : Int} {i : Nat} (hi : i < ts.length) (h : upB 3 (ts.getD i 0) = false) : chkE ts k m g = 20 := by
  have : checkB ts k m g = false := by
    refine decide_eq_false fun hh => upB_no h ?_
    apply hh.2.2.2.2.2.2.2.2
    simp [List.getD, hi]
  rw [chkE, this]; rfl
theorem chk_ok {ts : List Int} {k m g : Int} (h : headB ts.length k m g = true) (ht : ∀ i, i < ts.length → upB 3 (ts.getD i 0) = true) : chkE ts k m g = 0 := by
  have : checkB ts k m g = true := by
    simp only [headB, upB, Bool.and_eq_true, decide_eq_true_eq] at h
    refine decide_eq_true ⟨by omega, by omega, by omega, by omega, by omega, by omega, by omega, by omega, fun x hx => ?_⟩
    obtain ⟨i, hi, rfl⟩ := List.mem_iff_getElem.1 hx
    have := upB_yes (ht i hi)
    simpa [List.getD, hi] using this
  rw [chkE, this]; rfl
set_option maxHeartbeats 1000000 in
theorem check_any (A : Option Addr) (N C : Nat) (ts : List Int) (k m g : Int) (w : World) (hv : IV w A N ts) (hN : N ≤ maxLen) :
    Calls Tryz.prog 52 #[SS A N C k m g] w fun e w' => e = .returned (.int .i64 (chkE ts k m g)) ∧ Below w.heap.size w w' := by
  unfold maxLen at hN
  have hl := Lib.hid (IV.len hv)
  go_enter Tryz.func52, Tryz.ntmps52
  go_wp2_with fail
  refine (upto_any 64 N _).mono ?_
  rintro e w' ⟨rfl, rfl⟩
  have HH : Hid (headB N k m g = (upB 64 N && upB N k && upB 3 m && upB 64 g)) := Lib.hid rfl
  have no : headB N k m g = false → Below w.heap.size w (w.alloc (.cells #[.slice A N C, .int .i64 k, .int .i64 m, .int .i64 g] 24)) ∧ chkE ts k m g = 20 := fun h => ⟨Joins.below_alloc1 _ _, chk_head (by rw [hl.out]; exact h)⟩
  cases h1 : upB 64 (N : Int)
  · have no := Lib.hid (no (by rw [HH.out, h1]; rfl))
    go_wp2_with fail
    go_ret
    exact ⟨ret_int no.out.2.symm, no.out.1⟩
  · go_wp2_with fail
    refine (upto_any N k _).mono ?_
    rintro e w' ⟨rfl, rfl⟩
    cases h2 : upB (N : Int) k
    · have no := Lib.hid (no (by rw [HH.out, h2]; simp))
      go_wp2_with fail
      go_ret
      exact ⟨ret_int no.out.2.symm, no.out.1⟩
    · go_wp2_with fail
      refine (ismode_any m _).mono ?_
      rintro e w' ⟨rfl, rfl⟩
      cases h3 : upB 3 m
      · have no := Lib.hid (no (by rw [HH.out, h3]; simp))
        go_wp2_with fail
        go_ret
        exact ⟨ret_int no.out.2.symm, no.out.1⟩
      · go_wp2_with fail
        refine (upto_any 64 g _).mono ?_
        rintro e w' ⟨rfl, rfl⟩
        cases h4 : upB 64 g
        · have no := Lib.hid (no (by rw [HH.out, h4]; simp))
          go_wp2_with fail
          go_ret
          exact ⟨ret_int no.out.2.symm, no.out.1⟩
        · have yes : Hid (headB ts.length k m g = true) := Lib.hid (by rw [hl.out, HH.out, h1, h2, h3, h4]; rfl)
          clear no HH h1 h2 h3 h4
          go_wp2_with fail
          go_loopw [34] (fun i wr => ∃ j : Nat, j ≤ N ∧ i = .int .i64 (j : Int) ∧ Hid (∀ i, i < j → upB 3 (ts.getD i 0) = true) ∧ Below w.heap.size w wr) (fun i _ => N - (intOf i).toNat)
          case atStart => exact ⟨0, by omega, rfl, Lib.hid (fun i hi => by omega), Joins.below_alloc1 _ _⟩
          case round =>
            obtain ⟨j, hj, rfl, HT, hbel⟩ := hrel
            by_cases hlt : j < N
            · obtain ⟨b, off, rfl, hc⟩ := IV.at hv j hlt
              have hc' := keepc hc hbel
              generalize hx : ts.getD j 0 = x at hc'
              have HX := Lib.hid hx
              clear hx hc
              go_wp2_with fail
              refine (istype_any x _).mono ?_
              rintro e w1 ⟨rfl, hb1⟩
              have hb' := Below.then hbel hb1
              clear hb1 hc' hbel
              cases h5 : upB 3 x
              · have no := Lib.hid (chk_type (k := k) (m := m) (g := g) (ts := ts) (i := j) (by rw [hl.out]; exact hlt) (by rw [HX.out]; exact h5))
                go_wp2_with fail
                go_ret
                exact ⟨ret_int no.out.symm, hb'⟩
              · have HT' : Hid (∀ i, i < j + 1 → upB 3 (ts.getD i 0) = true) := Lib.hid (fun i hi => by
                  by_cases hij : i < j
                  · exact HT.out i hij
                  · obtain rfl : i = j := by omega
                    rw [HX.out]; exact h5)
                go_wp2_with fail
                go_roundw
                case rel => exact ⟨j + 1, by omega, by go_num, HT', hb'⟩
                case measure => simp [intOf]; omega
            · obtain rfl : j = N := by omega
              have ok := Lib.hid (chk_ok (ts := ts) yes.out (fun i hi => HT.out i (by rw [← hl.out]; exact hi)))
              go_wp2_with fail
              go_ret
              exact ⟨ret_int ok.out.symm, hbel⟩
end Go.Proofs.YtbfihajgjbpmaaaGreat
/- The document's own answers for layer 3: Fits, both, texts, Compare, Add. -/
namespace Go.Proofs.YtbfihajgjbpmaaaGreat
open Go.ChangeShapes Go.WideShapes Go.ChangeAt Go.RowKit
set_option linter.unusedVariables false
set_option maxRecDepth 4000

set_option maxHeartbeats 400000 in
theorem rboth_any (t n m : Int) (s r : ByteArray) (w : World) :
    Calls Tryz.prog 78 #[.int .i64 t, VV n s, VV m r] w fun e w' => e = .returned (.bool (fitsB t n s && fitsB t m r)) ∧ Below w.heap.size w w' := by
  go_enter Tryz.func78, Tryz.ntmps78
  go_wp2_with fail
  refine (rfits_any t n s _).mono ?_
  rintro e w' ⟨rfl, hb⟩
  have h2 := (Bx.new (w.alloc (.cells #[.int .i64 n, .string s] 62)) m r 62).below hb
  rw [show (w.alloc (.cells #[.int .i64 n, .string s] 62)).heap.size = w.heap.size + 1 by simp] at h2
  obtain ⟨c0, c1⟩ := h2
  go_wp2_with fail
  refine (rfits_any t m r _).mono ?_
  rintro e w2 ⟨rfl, hb2⟩
  cases hf : fitsB t n s
  · go_wp2_with fail
    go_ret
    exact ⟨by rw [hf]; rfl, Below.then (after2 hb) hb2⟩
  · go_wp2_with fail
    go_ret
    exact ⟨by rw [hf, Bool.true_and]; rfl, Below.then (after2 hb) hb2⟩
theorem drop_at (s : ByteArray) (k : Nat) (h : k < s.size) : (nums s).drop k = (nums s).getD k 0 :: (nums s).drop (k + 1) := by
  have hk : k < (nums s).length := by rw [nums_len]; exact h
  rw [List.drop_eq_getElem_cons hk, List.getD_eq_getElem?_getD, List.getElem?_eq_getElem hk]; rfl
theorem drop_out (s : ByteArray) : (nums s).drop s.size = [] := List.drop_eq_nil_of_le (by rw [nums_len]; exact Nat.le_refl _)
set_option maxHeartbeats 4000000 in
theorem rtexts_any (a b : ByteArray) (w : World) (ha : a.size ≤ 200) (hb : b.size ≤ 200) :
    Calls Tryz.prog 79 #[.string a, .string b] w fun e w' => e = .returned (.int .i64 (cmpL (nums a) (nums b))) ∧ Below w.heap.size w w' := by
  go_enter Tryz.func79, Tryz.ntmps79
  go_wp2
  go_loopw [5] (fun i wr => ∃ (k : Nat), k ≤ a.size ∧ k ≤ b.size ∧ i = .int .i64 (k : Int) ∧ Hid (cmpL (nums a) (nums b) = cmpL ((nums a).drop k) ((nums b).drop k)) ∧ Below w.heap.size w wr) (fun i _ => a.size - (intOf i).toNat)
  case atStart => exact ⟨0, by omega, by omega, rfl, Lib.hid (by simp), Below.refl _ _⟩
  case round =>
    obtain ⟨k, h1, h2, rfl, HC, hbel⟩ := hrel
    by_cases k1 : k < a.size
    · by_cases k2 : k < b.size
      · have i1 := index_str a k k1
        have i2 := index_str b k k2
        rw [drop_at a k k1, drop_at b k k2, cmpL] at HC
        generalize (nums a).getD k 0 = x at *
        generalize (nums b).getD k 0 = y at *
        have k1' : (k : Int) < (a.size : Int) := by omega
        have k2' : (k : Int) < (b.size : Int) := by omega
        rcases (by omega : x < y ∨ y < x ∨ x = y) with l | l | rfl
        · rw [if_pos l] at HC
          have l' : decide (x < y) = true := by simp [l]
          go_wp2_with fail
          refine wp_region_noPanic ?_
          refine wp_region_held_drew (S := Below w.heap.size w) (by kernel_rfl) (hbel.drew) (fun hS => ?_)
          refine take_at (i := 0) (v := ?_) (some 18) rfl (by kernel_rfl) (by kernel_rfl) (by kernel_rfl) rfl (fun _ _ _ h => h) (Or.inl ⟨by rfl, ?_⟩) hS ?_
          rotate_left
          · (intro wq hq; go_simp); first | done | with_reducible rfl
          try simp only [Act.put, List.setIfInBounds_toArray, List.set_cons_zero, List.set_cons_succ]
          refine take_at (i := 1) (v := ?_) (some 19) rfl (by kernel_rfl) (by kernel_rfl) (by kernel_rfl) rfl (fun _ _ _ h => h) (Or.inl ⟨by rfl, ?_⟩) hS ?_
          rotate_left
          · (intro wq hq; go_simp); first | done | with_reducible rfl
          try simp only [Act.put, List.setIfInBounds_toArray, List.set_cons_zero, List.set_cons_succ]
          refine take_at (i := 2) (v := ?_) (some 20) rfl (by kernel_rfl) (by kernel_rfl) (by kernel_rfl) rfl (fun _ _ _ h => h) (Or.inl ⟨by rfl, ?_⟩) hS ?_
          rotate_left
          · (intro wq hq; go_simp); first | done | with_reducible rfl
          try simp only [Act.put, List.setIfInBounds_toArray, List.set_cons_zero, List.set_cons_succ]
          refine take_at (i := 3) (v := ?_) (some 21) rfl (by kernel_rfl) (by kernel_rfl) (by kernel_rfl) rfl (fun _ _ _ h => h) (Or.inl ⟨by rfl, ?_⟩) hS ?_
          rotate_left
          · (intro wq hq; go_simp); first | done | with_reducible rfl
          try simp only [Act.put, List.setIfInBounds_toArray, List.set_cons_zero, List.set_cons_succ]
          refine take_at (i := 4) (v := ?_) (some 22) rfl (by kernel_rfl) (by kernel_rfl) (by kernel_rfl) rfl (fun _ _ _ h => h) (Or.inl ⟨by rfl, ?_⟩) hS ?_
          rotate_left
          · (intro wq hq; go_simp); first | done | with_reducible rfl
          try simp only [Act.put, List.setIfInBounds_toArray, List.set_cons_zero, List.set_cons_succ]
          refine take_at (i := 5) (v := ?_) (some 23) rfl (by kernel_rfl) (by kernel_rfl) (by kernel_rfl) rfl (fun _ _ _ h => h) (Or.inl ⟨by rfl, ?_⟩) hS ?_
          rotate_left
          · (intro wq hq; go_simp); first | done | with_reducible rfl
          try simp only [Act.put, List.setIfInBounds_toArray, List.set_cons_zero, List.set_cons_succ]
          refine take_at (i := 6) (v := ?_) (some 24) rfl (by kernel_rfl) (by kernel_rfl) (by kernel_rfl) rfl (fun _ _ _ h => h) (Or.inl ⟨by rfl, ?_⟩) hS ?_
          rotate_left
          · (intro wq hq; go_simp); first | done | with_reducible rfl
          try simp only [Act.put, List.setIfInBounds_toArray, List.set_cons_zero, List.set_cons_succ]
          refine wpAnyH_done (by kernel_rfl) (NoPanic.normal ?_) _
          go_wp2_with fail
          go_ret
          exact ⟨ret_int HC.out.symm, hbel.drew⟩
        · have l0 : ¬ x < y := by omega
          rw [if_neg l0, if_pos l] at HC
          have l' : decide (x < y) = false := by simp; omega
          have l2 : decide (y < x) = true := by simp [l]
          go_wp2_with fail
          refine wp_region_noPanic ?_
          refine wp_region_held_drew (S := Below w.heap.size w) (by kernel_rfl) (hbel.drew) (fun hS => ?_)
          refine take_at (i := 0) (v := ?_) (some 18) rfl (by kernel_rfl) (by kernel_rfl) (by kernel_rfl) rfl (fun _ _ _ h => h) (Or.inl ⟨by rfl, ?_⟩) hS ?_
          rotate_left
          · (intro wq hq; go_simp); first | done | with_reducible rfl
          try simp only [Act.put, List.setIfInBounds_toArray, List.set_cons_zero, List.set_cons_succ]
          refine take_at (i := 1) (v := ?_) (some 19) rfl (by kernel_rfl) (by kernel_rfl) (by kernel_rfl) rfl (fun _ _ _ h => h) (Or.inl ⟨by rfl, ?_⟩) hS ?_
          rotate_left
          · (intro wq hq; go_simp); first | done | with_reducible rfl
          try simp only [Act.put, List.setIfInBounds_toArray, List.set_cons_zero, List.set_cons_succ]
          refine take_at (i := 2) (v := ?_) (some 20) rfl (by kernel_rfl) (by kernel_rfl) (by kernel_rfl) rfl (fun _ _ _ h => h) (Or.inl ⟨by rfl, ?_⟩) hS ?_
          rotate_left
          · (intro wq hq; go_simp); first | done | with_reducible rfl
          try simp only [Act.put, List.setIfInBounds_toArray, List.set_cons_zero, List.set_cons_succ]
          refine take_at (i := 3) (v := ?_) (some 21) rfl (by kernel_rfl) (by kernel_rfl) (by kernel_rfl) rfl (fun _ _ _ h => h) (Or.inl ⟨by rfl, ?_⟩) hS ?_
          rotate_left
          · (intro wq hq; go_simp); first | done | with_reducible rfl
          try simp only [Act.put, List.setIfInBounds_toArray, List.set_cons_zero, List.set_cons_succ]
          refine take_at (i := 4) (v := ?_) (some 22) rfl (by kernel_rfl) (by kernel_rfl) (by kernel_rfl) rfl (fun _ _ _ h => h) (Or.inl ⟨by rfl, ?_⟩) hS ?_
          rotate_left
          · (intro wq hq; go_simp); first | done | with_reducible rfl
          try simp only [Act.put, List.setIfInBounds_toArray, List.set_cons_zero, List.set_cons_succ]
          refine take_at (i := 5) (v := ?_) (some 23) rfl (by kernel_rfl) (by kernel_rfl) (by kernel_rfl) rfl (fun _ _ _ h => h) (Or.inl ⟨by rfl, ?_⟩) hS ?_
          rotate_left
          · (intro wq hq; go_simp); first | done | with_reducible rfl
          try simp only [Act.put, List.setIfInBounds_toArray, List.set_cons_zero, List.set_cons_succ]
          refine take_at (i := 6) (v := ?_) (some 24) rfl (by kernel_rfl) (by kernel_rfl) (by kernel_rfl) rfl (fun _ _ _ h => h) (Or.inl ⟨by rfl, ?_⟩) hS ?_
          rotate_left
          · (intro wq hq; go_simp); first | done | with_reducible rfl
          try simp only [Act.put, List.setIfInBounds_toArray, List.set_cons_zero, List.set_cons_succ]
          refine wpAnyH_done (by kernel_rfl) (NoPanic.normal ?_) _
          go_wp2_with fail
          refine wp_region_noPanic ?_
          refine wp_region_held_drew (S := Below w.heap.size w) (by kernel_rfl) (hbel.drew.drew) (fun hS => ?_)
          refine take_at (i := 0) (v := ?_) (some 25) rfl (by kernel_rfl) (by kernel_rfl) (by kernel_rfl) rfl (fun _ _ _ h => h) (Or.inl ⟨by rfl, ?_⟩) hS ?_
          rotate_left
          · (intro wq hq; go_simp); first | done | with_reducible rfl
          try simp only [Act.put, List.setIfInBounds_toArray, List.set_cons_zero, List.set_cons_succ]
          refine take_at (i := 1) (v := ?_) (some 26) rfl (by kernel_rfl) (by kernel_rfl) (by kernel_rfl) rfl (fun _ _ _ h => h) (Or.inl ⟨by rfl, ?_⟩) hS ?_
          rotate_left
          · (intro wq hq; go_simp); first | done | with_reducible rfl
          try simp only [Act.put, List.setIfInBounds_toArray, List.set_cons_zero, List.set_cons_succ]
          refine take_at (i := 2) (v := ?_) (some 27) rfl (by kernel_rfl) (by kernel_rfl) (by kernel_rfl) rfl (fun _ _ _ h => h) (Or.inl ⟨by rfl, ?_⟩) hS ?_
          rotate_left
          · (intro wq hq; go_simp); first | done | with_reducible rfl
          try simp only [Act.put, List.setIfInBounds_toArray, List.set_cons_zero, List.set_cons_succ]
          refine take_at (i := 3) (v := ?_) (some 28) rfl (by kernel_rfl) (by kernel_rfl) (by kernel_rfl) rfl (fun _ _ _ h => h) (Or.inl ⟨by rfl, ?_⟩) hS ?_
          rotate_left
          · (intro wq hq; go_simp); first | done | with_reducible rfl
          try simp only [Act.put, List.setIfInBounds_toArray, List.set_cons_zero, List.set_cons_succ]
          refine take_at (i := 4) (v := ?_) (some 29) rfl (by kernel_rfl) (by kernel_rfl) (by kernel_rfl) rfl (fun _ _ _ h => h) (Or.inl ⟨by rfl, ?_⟩) hS ?_
          rotate_left
          · (intro wq hq; go_simp); first | done | with_reducible rfl
          try simp only [Act.put, List.setIfInBounds_toArray, List.set_cons_zero, List.set_cons_succ]
          refine take_at (i := 5) (v := ?_) (some 30) rfl (by kernel_rfl) (by kernel_rfl) (by kernel_rfl) rfl (fun _ _ _ h => h) (Or.inl ⟨by rfl, ?_⟩) hS ?_
          rotate_left
          · (intro wq hq; go_simp); first | done | with_reducible rfl
          try simp only [Act.put, List.setIfInBounds_toArray, List.set_cons_zero, List.set_cons_succ]
          refine take_at (i := 6) (v := ?_) (some 31) rfl (by kernel_rfl) (by kernel_rfl) (by kernel_rfl) rfl (fun _ _ _ h => h) (Or.inl ⟨by rfl, ?_⟩) hS ?_
          rotate_left
          · (intro wq hq; go_simp); first | done | with_reducible rfl
          try simp only [Act.put, List.setIfInBounds_toArray, List.set_cons_zero, List.set_cons_succ]
          refine wpAnyH_done (by kernel_rfl) (NoPanic.normal ?_) _
          go_wp2_with fail
          go_ret
          exact ⟨ret_int HC.out.symm, hbel.drew.drew⟩
        · have l0 : ¬ x < x := by omega
          rw [if_neg l0, if_neg l0] at HC
          have l' : decide (x < x) = false := by simp
          go_wp2_with fail
          refine wp_region_noPanic ?_
          refine wp_region_held_drew (S := Below w.heap.size w) (by kernel_rfl) (hbel.drew) (fun hS => ?_)
          refine take_at (i := 0) (v := ?_) (some 18) rfl (by kernel_rfl) (by kernel_rfl) (by kernel_rfl) rfl (fun _ _ _ h => h) (Or.inl ⟨by rfl, ?_⟩) hS ?_
          rotate_left
          · (intro wq hq; go_simp); first | done | with_reducible rfl
          try simp only [Act.put, List.setIfInBounds_toArray, List.set_cons_zero, List.set_cons_succ]
          refine take_at (i := 1) (v := ?_) (some 19) rfl (by kernel_rfl) (by kernel_rfl) (by kernel_rfl) rfl (fun _ _ _ h => h) (Or.inl ⟨by rfl, ?_⟩) hS ?_
          rotate_left
          · (intro wq hq; go_simp); first | done | with_reducible rfl
          try simp only [Act.put, List.setIfInBounds_toArray, List.set_cons_zero, List.set_cons_succ]
          refine take_at (i := 2) (v := ?_) (some 20) rfl (by kernel_rfl) (by kernel_rfl) (by kernel_rfl) rfl (fun _ _ _ h => h) (Or.inl ⟨by rfl, ?_⟩) hS ?_
          rotate_left
          · (intro wq hq; go_simp); first | done | with_reducible rfl
          try simp only [Act.put, List.setIfInBounds_toArray, List.set_cons_zero, List.set_cons_succ]
          refine take_at (i := 3) (v := ?_) (some 21) rfl (by kernel_rfl) (by kernel_rfl) (by kernel_rfl) rfl (fun _ _ _ h => h) (Or.inl ⟨by rfl, ?_⟩) hS ?_
          rotate_left
          · (intro wq hq; go_simp); first | done | with_reducible rfl
          try simp only [Act.put, List.setIfInBounds_toArray, List.set_cons_zero, List.set_cons_succ]
          refine take_at (i := 4) (v := ?_) (some 22) rfl (by kernel_rfl) (by kernel_rfl) (by kernel_rfl) rfl (fun _ _ _ h => h) (Or.inl ⟨by rfl, ?_⟩) hS ?_
          rotate_left
          · (intro wq hq; go_simp); first | done | with_reducible rfl
          try simp only [Act.put, List.setIfInBounds_toArray, List.set_cons_zero, List.set_cons_succ]
          refine take_at (i := 5) (v := ?_) (some 23) rfl (by kernel_rfl) (by kernel_rfl) (by kernel_rfl) rfl (fun _ _ _ h => h) (Or.inl ⟨by rfl, ?_⟩) hS ?_
          rotate_left
          · (intro wq hq; go_simp); first | done | with_reducible rfl
          try simp only [Act.put, List.setIfInBounds_toArray, List.set_cons_zero, List.set_cons_succ]
          refine take_at (i := 6) (v := ?_) (some 24) rfl (by kernel_rfl) (by kernel_rfl) (by kernel_rfl) rfl (fun _ _ _ h => h) (Or.inl ⟨by rfl, ?_⟩) hS ?_
          rotate_left
          · (intro wq hq; go_simp); first | done | with_reducible rfl
          try simp only [Act.put, List.setIfInBounds_toArray, List.set_cons_zero, List.set_cons_succ]
          refine wpAnyH_done (by kernel_rfl) (NoPanic.normal ?_) _
          go_wp2_with fail
          refine wp_region_noPanic ?_
          refine wp_region_held_drew (S := Below w.heap.size w) (by kernel_rfl) (hbel.drew.drew) (fun hS => ?_)
          refine take_at (i := 0) (v := ?_) (some 25) rfl (by kernel_rfl) (by kernel_rfl) (by kernel_rfl) rfl (fun _ _ _ h => h) (Or.inl ⟨by rfl, ?_⟩) hS ?_
          rotate_left
          · (intro wq hq; go_simp); first | done | with_reducible rfl
          try simp only [Act.put, List.setIfInBounds_toArray, List.set_cons_zero, List.set_cons_succ]
          refine take_at (i := 1) (v := ?_) (some 26) rfl (by kernel_rfl) (by kernel_rfl) (by kernel_rfl) rfl (fun _ _ _ h => h) (Or.inl ⟨by rfl, ?_⟩) hS ?_
          rotate_left
          · (intro wq hq; go_simp); first | done | with_reducible rfl
          try simp only [Act.put, List.setIfInBounds_toArray, List.set_cons_zero, List.set_cons_succ]
          refine take_at (i := 2) (v := ?_) (some 27) rfl (by kernel_rfl) (by kernel_rfl) (by kernel_rfl) rfl (fun _ _ _ h => h) (Or.inl ⟨by rfl, ?_⟩) hS ?_
          rotate_left
          · (intro wq hq; go_simp); first | done | with_reducible rfl
          try simp only [Act.put, List.setIfInBounds_toArray, List.set_cons_zero, List.set_cons_succ]
          refine take_at (i := 3) (v := ?_) (some 28) rfl (by kernel_rfl) (by kernel_rfl) (by kernel_rfl) rfl (fun _ _ _ h => h) (Or.inl ⟨by rfl, ?_⟩) hS ?_
          rotate_left
          · (intro wq hq; go_simp); first | done | with_reducible rfl
          try simp only [Act.put, List.setIfInBounds_toArray, List.set_cons_zero, List.set_cons_succ]
          refine take_at (i := 4) (v := ?_) (some 29) rfl (by kernel_rfl) (by kernel_rfl) (by kernel_rfl) rfl (fun _ _ _ h => h) (Or.inl ⟨by rfl, ?_⟩) hS ?_
          rotate_left
          · (intro wq hq; go_simp); first | done | with_reducible rfl
          try simp only [Act.put, List.setIfInBounds_toArray, List.set_cons_zero, List.set_cons_succ]
          refine take_at (i := 5) (v := ?_) (some 30) rfl (by kernel_rfl) (by kernel_rfl) (by kernel_rfl) rfl (fun _ _ _ h => h) (Or.inl ⟨by rfl, ?_⟩) hS ?_
          rotate_left
          · (intro wq hq; go_simp); first | done | with_reducible rfl
          try simp only [Act.put, List.setIfInBounds_toArray, List.set_cons_zero, List.set_cons_succ]
          refine take_at (i := 6) (v := ?_) (some 31) rfl (by kernel_rfl) (by kernel_rfl) (by kernel_rfl) rfl (fun _ _ _ h => h) (Or.inl ⟨by rfl, ?_⟩) hS ?_
          rotate_left
          · (intro wq hq; go_simp); first | done | with_reducible rfl
          try simp only [Act.put, List.setIfInBounds_toArray, List.set_cons_zero, List.set_cons_succ]
          refine wpAnyH_done (by kernel_rfl) (NoPanic.normal ?_) _
          go_wp2_with fail
          go_roundw
          case rel => exact ⟨k + 1, by omega, by omega, by go_num, HC, hbel.drew.drew⟩
          case measure => (simp [intOf]; omega)
      · obtain rfl : k = b.size := by omega
        rw [drop_at a _ k1, drop_out b, cmpL] at HC
        have k1' : (b.size : Int) < (a.size : Int) := by omega
        have k2' : ¬ ((b.size : Int) < (b.size : Int)) := by omega
        have k3' : ¬ ((a.size : Int) < (b.size : Int)) := by omega
        go_wp2_with fail
        go_ret
        exact ⟨ret_int HC.out.symm, hbel⟩
    · obtain rfl : k = a.size := by omega
      have k1' : ¬ ((a.size : Int) < (a.size : Int)) := by omega
      by_cases k2 : a.size < b.size
      · rw [drop_at b _ k2, drop_out a, cmpL] at HC
        have k2' : ((a.size : Int) < (b.size : Int)) := by omega
        go_wp2_with fail
        go_ret
        exact ⟨ret_int HC.out.symm, hbel⟩
      · have hab : a.size = b.size := by omega
        have HAB := Lib.hid hab
        rw [drop_out a, hab, drop_out b, cmpL] at HC
        clear hab
        have k2' : ¬ ((a.size : Int) < (b.size : Int)) := by omega
        have k3' : ¬ ((b.size : Int) < (a.size : Int)) := by have := HAB.out; omega
        go_wp2_with fail
        go_ret
        exact ⟨ret_int HC.out.symm, hbel⟩
set_option maxHeartbeats 1000000 in
theorem rcompare_any (t n m : Int) (s r : ByteArray) (w : World) (q1 : -9223372036854775808 ≤ n ∧ n ≤ 9223372036854775807) (q2 : -9223372036854775808 ≤ m ∧ m ≤ 9223372036854775807) :
    Calls Tryz.prog 50 #[.int .i64 t, VV n s, VV m r] w fun e w' => e = .returned (.int .i64 (cmpV t n s m r)) ∧ Below w.heap.size w w' := by
  go_enter Tryz.func50, Tryz.ntmps50
  go_wp2_with fail
  refine (rboth_any t n m s r _).mono ?_
  rintro e w' ⟨rfl, hb⟩
  have h2 := (Bx.new (w.alloc (.cells #[.int .i64 n, .string s] 62)) m r 62).below hb
  have h1 := ((Bx.new w n s 62).alloc (.cells #[.int .i64 m, .string r] 62)).below hb
  rw [show (w.alloc (.cells #[.int .i64 n, .string s] 62)).heap.size = w.heap.size + 1 by simp] at h2
  obtain ⟨c0, c1⟩ := h1
  obtain ⟨d0, d1⟩ := h2
  have hb' := after2 hb
  clear hb
  cases hf : (fitsB t n s && fitsB t m r)
  · have hn := Lib.hid (cmpV_not hf)
    clear hf
    go_wp2_with fail
    go_ret
    exact ⟨ret_int hn.out.symm, hb'⟩
  · have hn := Lib.hid (cmpV_is hf)
    have HF := Lib.hid hf
    clear hf
    by_cases h2 : t = 2
    · subst h2
      have h21 : ¬ ((2 : Int) = 1) := by decide
      rw [if_neg h21, if_pos rfl] at hn
      by_cases a0 : n < 0 <;> by_cases a1 : m < 0
      · have e0 : decide (n < 0) = true := decide_eq_true a0
        have e1 : decide (m < 0) = true := decide_eq_true a1
        rcases (by omega : n < m ∨ m < n ∨ n = m) with l | l | rfl <;>
          ((try have l2 : ¬ n < m := by omega); (try have l3 : ¬ m < n := by omega); go_wp2_with fail; go_ret; exact ⟨ret_int (by rw [hn.out]; simp only [cmpI, IntKind.wrap_u64]; (repeat' split) <;> omega), hb'⟩)
      · have e0 : decide (n < 0) = true := decide_eq_true a0
        have e1 : decide (m < 0) = false := decide_eq_false a1
        go_wp2_with fail; go_ret; exact ⟨ret_int (by rw [hn.out]; simp only [cmpI, IntKind.wrap_u64]; (repeat' split) <;> omega), hb'⟩
      · have e0 : decide (n < 0) = false := decide_eq_false a0
        have e1 : decide (m < 0) = true := decide_eq_true a1
        go_wp2_with fail; go_ret; exact ⟨ret_int (by rw [hn.out]; simp only [cmpI, IntKind.wrap_u64]; (repeat' split) <;> omega), hb'⟩
      · have e0 : decide (n < 0) = false := decide_eq_false a0
        have e1 : decide (m < 0) = false := decide_eq_false a1
        rcases (by omega : n < m ∨ m < n ∨ n = m) with l | l | rfl <;>
          ((try have l2 : ¬ n < m := by omega); (try have l3 : ¬ m < n := by omega); go_wp2_with fail; go_ret; exact ⟨ret_int (by rw [hn.out]; simp only [cmpI, IntKind.wrap_u64]; (repeat' split) <;> omega), hb'⟩)
    · by_cases h3 : t = 3
      · subst h3
        rw [if_neg (by decide), if_neg (by decide), cmp_nums] at hn
        have hs : s.size ≤ 200 ∧ r.size ≤ 200 := by
          have h := HF.out
          rw [Bool.and_eq_true] at h
          have e1 := fits_size h.1
          have e2 := fits_size h.2
          omega
        have hsr := Lib.hid hs
        clear hs
        go_wp2_with (go_at_call 79; refine (rtexts_any s r _ hsr.out.1 hsr.out.2).mono ?_; rintro e w3 ⟨rfl, hb3⟩)
        go_ret
        exact ⟨ret_int hn.out.symm, Below.then hb' hb3⟩
      · have h1 : t = 1 := by
          have h := HF.out
          rw [Bool.and_eq_true] at h
          have h := h.1
          unfold fitsB at h
          by_cases h12 : t = 1 ∨ t = 2
          · omega
          · rw [if_neg h12, if_neg h3] at h; cases h
        subst h1
        rw [if_pos rfl] at hn
        rcases (by omega : n < m ∨ m < n ∨ n = m) with l | l | rfl
        · go_wp2_with fail
          go_ret
          exact ⟨ret_int (by rw [hn.out, cmpI, if_pos l]), hb'⟩
        · have l2 : ¬ n < m := by omega
          go_wp2_with fail
          go_ret
          exact ⟨ret_int (by rw [hn.out, cmpI, if_neg (by omega), if_pos l]), hb'⟩
        · have l2 : ¬ n < n := by omega
          go_wp2_with fail
          go_ret
          exact ⟨ret_int (by rw [hn.out, cmpI, if_neg (by omega), if_neg (by omega)]), hb'⟩
end Go.Proofs.YtbfihajgjbpmaaaGreat
/- Contracts of schema.Row and of the document's own Row. -/
namespace Go.Proofs.YtbfihajgjbpmaaaGreat
open Go.ChangeShapes Go.WideShapes Go.ChangeAt Go.RowKit
set_option linter.unusedVariables false
set_option maxRecDepth 4000

/-- whether a row may be -/
def rowB : List Int → List (Int × ByteArray) → Bool
  | [], [] => true
  | t :: ts, v :: vs => fitsB t v.1 v.2 && rowB ts vs
  | _, _ => false
theorem rowB_len : ∀ (ts : List Int) (vs : List (Int × ByteArray)), rowB ts vs = true → vs.length = ts.length
  | [], [], _ => rfl
  | [], _ :: _, h => by cases h
  | _ :: _, [], h => by cases h
  | t :: ts, v :: vs, h => by
    rw [rowB, Bool.and_eq_true] at h
    rw [List.length_cons, List.length_cons, rowB_len ts vs h.2]
theorem rowB_odd {ts : List Int} {vs : List (Int × ByteArray)} (h : vs.length ≠ ts.length) : rowB ts vs = false := by
  cases hr : rowB ts vs
  · rfl
  · exact absurd (rowB_len _ _ hr) h
theorem rowB_at : ∀ (ts : List Int) (vs : List (Int × ByteArray)), rowB ts vs = true → ∀ i, i < ts.length → fitsB (ts.getD i 0) (vs.getD i v0).1 (vs.getD i v0).2 = true
  | [], _, _, i, hi => by simp at hi
  | _ :: _, [], h, _, _ => by cases h
  | t :: ts, v :: vs, h, 0, _ => by
    rw [rowB, Bool.and_eq_true] at h
    exact h.1
  | t :: ts, v :: vs, h, i + 1, hi => by
    rw [rowB, Bool.and_eq_true] at h
    exact rowB_at ts vs h.2 i (by simpa using hi)
theorem rowB_no {ts : List Int} {vs : List (Int × ByteArray)} {i : Nat} (hi : i < ts.length) (h : fitsB (ts.getD i 0) (vs.getD i v0).1 (vs.getD i v0).2 = false) : rowB ts vs = false := by
  cases hr : rowB ts vs
  · rfl
  · have := rowB_at _ _ hr i hi
    rw [h] at this; cases this
theorem rowB_yes : ∀ (ts : List Int) (vs : List (Int × ByteArray)), vs.length = ts.length → (∀ i, i < ts.length → fitsB (ts.getD i 0) (vs.getD i v0).1 (vs.getD i v0).2 = true) → rowB ts vs = true
  | [], [], _, _ => rfl
  | [], _ :: _, h, _ => by simp at h
  | _ :: _, [], h, _ => by simp at h
  | t :: ts, v :: vs, h, hf => by
    rw [rowB, Bool.and_eq_true]
    exact ⟨hf 0 (by simp), rowB_yes ts vs (by simpa using h) (fun i hi => hf (i + 1) (by simpa using hi))⟩
set_option maxHeartbeats 1000000 in
theorem row_any (A : Option Addr) (N C : Nat) (ts : List Int) (k m g : Int) (R : Option Addr) (n c : Nat) (vs : List (Int × ByteArray)) (w : World) (hv : IV w A N ts) (hN : N ≤ maxLen) (hr : WV w R n vs) (hn : n ≤ maxLen) :
    Calls Tryz.prog 53 #[SS A N C k m g, .slice R n c] w fun e w' => e = .returned (.bool (rowB ts vs)) ∧ Below w.heap.size w w' := by
  unfold maxLen at hN hn
  have hl := Lib.hid (IV.len hv)
  have hl2 := Lib.hid (WV.len hr)
  by_cases hq : n = N
  · subst hq
    go_enter Tryz.func53, Tryz.ntmps53
    go_wp2_with fail
    go_loopw [16] (fun i wr => ∃ j : Nat, j ≤ n ∧ i = .int .i64 (j : Int) ∧ Hid (∀ i, i < j → fitsB (ts.getD i 0) (vs.getD i v0).1 (vs.getD i v0).2 = true) ∧ Below w.heap.size w wr) (fun i _ => n - (intOf i).toNat)
    case atStart => exact ⟨0, by omega, rfl, Lib.hid (fun i hi => by omega), Joins.below_alloc1 _ _⟩
    case round =>
      obtain ⟨j, hj, rfl, HT, hbel⟩ := hrel
      by_cases hlt : j < n
      · obtain ⟨b, off, rfl, hc⟩ := IV.at hv j hlt
        obtain ⟨b2, off2, rfl, hd⟩ := WV.at hr j hlt
        have hc' := keepc hc hbel
        have hd1 := keepc hd.1 hbel
        have hd2 := keepc hd.2 hbel
        generalize hx : ts.getD j 0 = x at hc'
        generalize hy : vs.getD j v0 = y at hd1 hd2
        have HX := Lib.hid hx
        have HY := Lib.hid hy
        clear hx hy hc hd
        go_wp2_with fail
        refine (fits_any x y.1 y.2 _).mono ?_
        rintro e w1 ⟨rfl, hb1⟩
        have hb' := Below.then hbel hb1
        clear hb1 hc' hd1 hd2 hbel
        cases h5 : fitsB x y.1 y.2
        · have no := Lib.hid (rowB_no (ts := ts) (vs := vs) (i := j) (by rw [hl.out]; exact hlt) (by rw [HX.out, HY.out]; exact h5))
          go_wp2_with fail
          go_ret
          exact ⟨by rw [no.out]; rfl, hb'⟩
        · have HT' : Hid (∀ i, i < j + 1 → fitsB (ts.getD i 0) (vs.getD i v0).1 (vs.getD i v0).2 = true) := Lib.hid (fun i hi => by
            by_cases hij : i < j
            · exact HT.out i hij
            · obtain rfl : i = j := by omega
              rw [HX.out, HY.out]; exact h5)
          go_wp2_with fail
          go_roundw
          case rel => exact ⟨j + 1, by omega, by go_num, HT', hb'⟩
          case measure => simp [intOf]; omega
      · obtain rfl : j = n := by omega
        have ok := Lib.hid (rowB_yes ts vs (by rw [hl.out, hl2.out]) (fun i hi => HT.out i (by rw [← hl.out]; exact hi)))
        go_wp2_with fail
        go_ret
        exact ⟨by rw [ok.out]; rfl, hbel⟩
  · have no := Lib.hid (rowB_odd (ts := ts) (vs := vs) (by rw [hl.out, hl2.out]; exact hq))
    have hq' : ((n : Int) == (N : Int)) = false := by rw [beq_eq_false_iff_ne]; omega
    go_enter Tryz.func53, Tryz.ntmps53
    go_wp2_with fail
    go_ret
    exact ⟨by rw [no.out]; rfl, Joins.below_alloc1 _ _⟩
set_option maxHeartbeats 1000000 in
theorem rrow_any (A : Option Addr) (N C : Nat) (ts : List Int) (k m g : Int) (R : Option Addr) (n c : Nat) (vs : List (Int × ByteArray)) (w : World) (hv : IV w A N ts) (hN : N ≤ maxLen) (hr : WV w R n vs) (hn : n ≤ maxLen) :
    Calls Tryz.prog 31 #[SS A N C k m g, .slice R n c] w fun e w' => e = .returned (.bool (rowB ts vs)) ∧ Below w.heap.size w w' := by
  unfold maxLen at hN hn
  have hl := Lib.hid (IV.len hv)
  have hl2 := Lib.hid (WV.len hr)
  by_cases hq : n = N
  · subst hq
    go_enter Tryz.func31, Tryz.ntmps31
    go_wp2_with fail
    go_loopw [5] (fun i wr => ∃ j : Nat, j ≤ n ∧ i = .int .i64 (j : Int) ∧ Hid (∀ i, i < j → fitsB (ts.getD i 0) (vs.getD i v0).1 (vs.getD i v0).2 = true) ∧ Below (w.alloc (.cells #[.slice A n C, .int .i64 k, .int .i64 m, .int .i64 g] 24)).heap.size (w.alloc (.cells #[.slice A n C, .int .i64 k, .int .i64 m, .int .i64 g] 24)) wr) (fun i _ => n - (intOf i).toNat)
    case atStart => exact ⟨0, by omega, rfl, Lib.hid (fun i hi => by omega), Below.refl _ _⟩
    case round =>
      obtain ⟨j, hj, rfl, HT, hbel⟩ := hrel
      have hx0 := (Sx.new w A n C k m g 24).below hbel
      have hbw := after1 hbel
      by_cases hlt : j < n
      · obtain ⟨b, off, rfl, hc⟩ := IV.at hv j hlt
        obtain ⟨b2, off2, rfl, hd⟩ := WV.at hr j hlt
        have hc' := keepc hc hbw
        have hd1 := keepc hd.1 hbw
        have hd2 := keepc hd.2 hbw
        generalize hx : ts.getD j 0 = x at hc'
        generalize hy : vs.getD j v0 = y at hd1 hd2
        have HX := Lib.hid hx
        have HY := Lib.hid hy
        obtain ⟨c0, -, -, -⟩ := hx0
        clear hx hy hc hd
        go_wp2_with fail
        refine wp_region_noPanic ?_
        refine wp_region_held_drew (S := Ext (World.drew _)) (by kernel_rfl) (Ext.refl _) (fun hS => ?_)
        refine take_at (i := 0) (v := ?_) (some 19) rfl (by kernel_rfl) (by kernel_rfl) (by kernel_rfl) rfl (fun _ _ _ h => h) (Or.inl ⟨by rfl, ?_⟩) hS ?_
        rotate_left
        · (intro wq hq; go_simp); first | done | with_reducible rfl
        try simp only [Act.put, List.setIfInBounds_toArray, List.set_cons_zero, List.set_cons_succ]
        refine take_at (i := 1) (v := ?_) (some 20) rfl (by kernel_rfl) (by kernel_rfl) (by kernel_rfl) rfl (fun _ _ _ h => h) (Or.inl ⟨by rfl, ?_⟩) hS ?_
        rotate_left
        · (intro wq hq; have q := hq _ _ _ c0; go_simp); first | done | with_reducible rfl
        try simp only [Act.put, List.setIfInBounds_toArray, List.set_cons_zero, List.set_cons_succ]
        refine take_at (i := 2) (v := ?_) (some 21) rfl (by kernel_rfl) (by kernel_rfl) (by kernel_rfl) rfl (fun _ _ _ h => h) (Or.inl ⟨by rfl, ?_⟩) hS ?_
        rotate_left
        · (intro wq hq; go_simp); first | done | with_reducible rfl
        try simp only [Act.put, List.setIfInBounds_toArray, List.set_cons_zero, List.set_cons_succ]
        refine take_at (i := 3) (v := ?_) (some 22) rfl (by kernel_rfl) (by kernel_rfl) (by kernel_rfl) rfl (fun _ _ _ h => h) (Or.inl ⟨by rfl, ?_⟩) hS ?_
        rotate_left
        · (intro wq hq; go_simp); first | done | with_reducible rfl
        try simp only [Act.put, List.setIfInBounds_toArray, List.set_cons_zero, List.set_cons_succ]
        refine take_at (i := 4) (v := ?_) (some 23) rfl (by kernel_rfl) (by kernel_rfl) (by kernel_rfl) rfl (fun _ _ _ h => h) (Or.inl ⟨by rfl, ?_⟩) hS ?_
        rotate_left
        · (intro wq hq; have q := hq _ _ _ hc'; go_simp); first | done | with_reducible rfl
        try simp only [Act.put, List.setIfInBounds_toArray, List.set_cons_zero, List.set_cons_succ]
        refine take_at (i := 5) (v := ?_) (some 24) rfl (by kernel_rfl) (by kernel_rfl) (by kernel_rfl) rfl (fun _ _ _ h => h) (Or.inl ⟨by rfl, ?_⟩) hS ?_
        rotate_left
        · (intro wq hq; go_simp); first | done | with_reducible rfl
        try simp only [Act.put, List.setIfInBounds_toArray, List.set_cons_zero, List.set_cons_succ]
        refine take_at (i := 6) (v := ?_) (some 25) rfl (by kernel_rfl) (by kernel_rfl) (by kernel_rfl) rfl (fun _ _ _ h => h) (Or.inl ⟨by rfl, ?_⟩) hS ?_
        rotate_left
        · (intro wq hq; go_simp); first | done | with_reducible rfl
        try simp only [Act.put, List.setIfInBounds_toArray, List.set_cons_zero, List.set_cons_succ]
        refine take_at (i := 7) (v := ?_) (some 26) rfl (by kernel_rfl) (by kernel_rfl) (by kernel_rfl) rfl (fun _ _ _ h => h) (Or.inl ⟨by rfl, ?_⟩) hS ?_
        rotate_left
        · (intro wq hq; go_simp); first | done | with_reducible rfl
        try simp only [Act.put, List.setIfInBounds_toArray, List.set_cons_zero, List.set_cons_succ]
        refine take_at (i := 8) (v := ?_) (some 27) rfl (by kernel_rfl) (by kernel_rfl) (by kernel_rfl) rfl (fun _ _ _ h => h) (Or.inl ⟨by rfl, ?_⟩) hS ?_
        rotate_left
        · (intro wq hq; have q1 := hq _ _ _ hd1; have q2 := hq _ _ _ hd2; go_simp); first | done | with_reducible rfl
        try simp only [Act.put, List.setIfInBounds_toArray, List.set_cons_zero, List.set_cons_succ]
        refine wpAnyH_ready (rs := [9]) (by kernel_rfl) (by simp) ?_
        refine AllReadyH.cons rfl (fun K hK => ?_) AllReadyH.nil
        go_simp
        refine (rfits_any x y.1 y.2 _).mono ?_
        rintro e w1 ⟨rfl, hb1⟩
        refine hK.out _ _ (Ext.below hb1) (fun hS0 => ?_)
        clear hK K
        try simp only [Act.put, List.setIfInBounds_toArray, List.set_cons_zero, List.set_cons_succ]
        clear hS
        refine held_now hS0 (fun hS => ?_)
        clear hS0
        refine take_at (i := 10) (v := ?_) (some 6) rfl (by kernel_rfl) (by kernel_rfl) (by kernel_rfl) rfl (fun _ _ _ h => h) (Or.inl ⟨by rfl, ?_⟩) hS ?_
        rotate_left
        · (intro wq hq; go_simp); first | done | with_reducible rfl
        try simp only [Act.put, List.setIfInBounds_toArray, List.set_cons_zero, List.set_cons_succ]
        refine wpAnyH_done (by kernel_rfl) (NoPanic.normal ?_) _
        have hb' := Below.then hbel.drew hb1
        clear hb1 hc' hd1 hd2 hS hbel c0 hbw
        cases h5 : fitsB x y.1 y.2
        · have no := Lib.hid (rowB_no (ts := ts) (vs := vs) (i := j) (by rw [hl.out]; exact hlt) (by rw [HX.out, HY.out]; exact h5))
          go_wp2_with fail
          go_ret
          exact ⟨by rw [no.out]; rfl, after1 hb'⟩
        · have HT' : Hid (∀ i, i < j + 1 → fitsB (ts.getD i 0) (vs.getD i v0).1 (vs.getD i v0).2 = true) := Lib.hid (fun i hi => by
            by_cases hij : i < j
            · exact HT.out i hij
            · obtain rfl : i = j := by omega
              rw [HX.out, HY.out]; exact h5)
          go_wp2_with fail
          go_roundw
          case rel => exact ⟨j + 1, by omega, by go_num, HT', hb'⟩
          case measure => simp [intOf]; omega
      · obtain rfl : j = n := by omega
        have ok := Lib.hid (rowB_yes ts vs (by rw [hl.out, hl2.out]) (fun i hi => HT.out i (by rw [← hl.out]; exact hi)))
        go_wp2_with fail
        go_ret
        exact ⟨by rw [ok.out]; rfl, hbw⟩
  · have no := Lib.hid (rowB_odd (ts := ts) (vs := vs) (by rw [hl.out, hl2.out]; exact hq))
    have hq' : ((n : Int) == (N : Int)) = false := by rw [beq_eq_false_iff_ne]; omega
    go_enter Tryz.func31, Tryz.ntmps31
    go_wp2_with fail
    go_ret
    exact ⟨by rw [no.out]; rfl, Joins.below_alloc1 _ _⟩
end Go.Proofs.YtbfihajgjbpmaaaGreat
/- Contracts of schema.Compare and of the document's own Compare. -/
namespace Go.Proofs.YtbfihajgjbpmaaaGreat
open Go.ChangeShapes Go.WideShapes Go.ChangeAt Go.RowKit
set_option linter.unusedVariables false
set_option maxRecDepth 4000

theorem drop_getD {α : Type} (l : List α) (d : α) (j : Nat) (h : j < l.length) : l.drop j = l.getD j d :: l.drop (j + 1) := by
  rw [List.drop_eq_getElem_cons h]; simp [List.getD, h]
theorem cR_step {ts : List Int} {a b : List (Int × ByteArray)} {j : Nat} (h1 : j < ts.length) (h2 : j < a.length) (h3 : j < b.length) :
    cR (ts.drop j) (a.drop j) (b.drop j) = if cV (ts.getD j 0) (a.getD j v0) (b.getD j v0) = 0 then cR (ts.drop (j + 1)) (a.drop (j + 1)) (b.drop (j + 1)) else cV (ts.getD j 0) (a.getD j v0) (b.getD j v0) := by
  rw [drop_getD ts 0 j h1, drop_getD a v0 j h2, drop_getD b v0 j h3, cR, cmpRow]; rfl
theorem cR_end {ts : List Int} {a b : List (Int × ByteArray)} {j : Nat} (h : ts.length ≤ j ∨ a.length ≤ j ∨ b.length ≤ j) : cR (ts.drop j) (a.drop j) (b.drop j) = 0 := by
  rcases h with h | h | h
  · rw [List.drop_eq_nil_of_le h]; rfl
  · rw [List.drop_eq_nil_of_le h]; cases ts.drop j <;> rfl
  · rw [List.drop_eq_nil_of_le h]; cases ts.drop j <;> cases a.drop j <;> rfl
theorem take_getD (ts : List Int) (K j : Nat) (h : j < K) : (ts.take K).getD j 0 = ts.getD j 0 := by
  simp [List.getD, h]
theorem min4 (a b c d : Nat) : ∃ M : Nat, (M ≤ a ∧ M ≤ b ∧ M ≤ c ∧ M ≤ d ∧ (M = a ∨ M = b ∨ M = c ∨ M = d)) ∧
    ∀ w, (Builtin.min_ #[3, 3, 3, 3] 3 #[.int .i64 (a : Int), .int .i64 (b : Int), .int .i64 (c : Int), .int .i64 (d : Int)]).run Tryz.prog w = .ok (.int .i64 (M : Int)) w := by
  refine ⟨min (min (min a b) c) d, by omega, fun w => ?_⟩
  have e : (((min (min (min a b) c) d : Nat)) : Int) = if (d : Int) < (if (c : Int) < (if (b : Int) < a then (b : Int) else a) then (c : Int) else (if (b : Int) < a then (b : Int) else a)) then (d : Int) else (if (c : Int) < (if (b : Int) < a then (b : Int) else a) then (c : Int) else (if (b : Int) < a then (b : Int) else a)) := by
    (repeat' split) <;> omega
  rw [e]
  simp [Builtin.min_, Builtin.min2]
set_option maxHeartbeats 1000000 in
theorem scompare_any (A : Option Addr) (N C : Nat) (ts : List Int) (K : Nat) (m g : Int) (Ra : Option Addr) (na ca : Nat) (va : List (Int × ByteArray)) (Rb : Option Addr) (nb cb : Nat) (vb : List (Int × ByteArray)) (w : World)
    (hv : IV w A N ts) (hN : N ≤ maxLen) (ha : WV w Ra na va) (hna : na ≤ maxLen) (hb : WV w Rb nb vb) (hnb : nb ≤ maxLen) (hK : K ≤ maxLen) :
    Calls Tryz.prog 102 #[SS A N C K m g, .slice Ra na ca, .slice Rb nb cb] w fun e w' => e = .returned (.int .i64 (cR (ts.take K) va vb)) ∧ Below w.heap.size w w' := by
  unfold maxLen at hN hna hnb hK
  have hl := Lib.hid (IV.len hv)
  have hla := Lib.hid (WV.len ha)
  have hlb := Lib.hid (WV.len hb)
  obtain ⟨M, hM, hmin⟩ := min4 K N na nb
  have HM := Lib.hid hM
  have hM63 : M ≤ 2 ^ 63 - 1 := by omega
  clear hM
  go_enter Tryz.func102, Tryz.ntmps102
  go_wp2_with fail
  clear hmin
  go_loopw [19] (fun i wr => ∃ j : Nat, j ≤ M ∧ i = .int .i64 (j : Int) ∧ Hid (cR (ts.take K) va vb = cR ((ts.take K).drop j) (va.drop j) (vb.drop j)) ∧ Below (w.alloc (.cells #[.slice A N C, .int .i64 K, .int .i64 m, .int .i64 g] 24)).heap.size (w.alloc (.cells #[.slice A N C, .int .i64 K, .int .i64 m, .int .i64 g] 24)) wr) (fun i _ => M - (intOf i).toNat)
  case atStart => exact ⟨0, by omega, rfl, Lib.hid (by simp), Below.refl _ _⟩
  case round =>
    obtain ⟨j, hj, rfl, HC, hbel⟩ := hrel
    have hbw := after1 hbel
    by_cases hlt : j < M
    · have hx0 := (Sx.new w A N C K m g 24).below hbel
      have hM := HM.out
      have j1 : j < N := by omega
      have j2 : j < na := by omega
      have j3 : j < nb := by omega
      have jK : j < K := by omega
      clear hM
      have HS := Lib.hid (cR_step (ts := ts.take K) (a := va) (b := vb) (j := j) (by rw [List.length_take, hl.out]; omega) (by rw [hla.out]; exact j2) (by rw [hlb.out]; exact j3))
      rw [take_getD _ _ _ jK, ← HC.out] at HS
      obtain ⟨b1, off1, rfl, hc⟩ := IV.at hv j j1
      obtain ⟨b2, off2, rfl, hd⟩ := WV.at ha j j2
      obtain ⟨b3, off3, rfl, he⟩ := WV.at hb j j3
      have hc' := keepc hc hbw
      have hd1 := keepc hd.1 hbw
      have hd2 := keepc hd.2 hbw
      have he1 := keepc he.1 hbw
      have he2 := keepc he.2 hbw
      generalize ts.getD j 0 = x at hc' HS
      generalize va.getD j v0 = y at hd1 hd2 HS
      generalize vb.getD j v0 = z at he1 he2 HS
      obtain ⟨c0, -, -, -⟩ := hx0
      clear hc hd he HC hv ha hb
      go_wp2_with fail
      refine wp_region_noPanic ?_
      refine wp_region_held_drew (S := Ext (World.drew _)) (by kernel_rfl) (Ext.refl _) (fun hS => ?_)
      refine take_at (i := 0) (v := ?_) (some 22) rfl (by kernel_rfl) (by kernel_rfl) (by kernel_rfl) rfl (fun _ _ _ h => h) (Or.inl ⟨by rfl, ?_⟩) hS ?_
      rotate_left
      · (intro wq hq; go_simp); first | done | with_reducible rfl
      try simp only [Act.put, List.setIfInBounds_toArray, List.set_cons_zero, List.set_cons_succ]
      refine take_at (i := 1) (v := ?_) (some 23) rfl (by kernel_rfl) (by kernel_rfl) (by kernel_rfl) rfl (fun _ _ _ h => h) (Or.inl ⟨by rfl, ?_⟩) hS ?_
      rotate_left
      · (intro wq hq; have q := hq _ _ _ c0; go_simp); first | done | with_reducible rfl
      try simp only [Act.put, List.setIfInBounds_toArray, List.set_cons_zero, List.set_cons_succ]
      refine take_at (i := 2) (v := ?_) (some 24) rfl (by kernel_rfl) (by kernel_rfl) (by kernel_rfl) rfl (fun _ _ _ h => h) (Or.inl ⟨by rfl, ?_⟩) hS ?_
      rotate_left
      · (intro wq hq; go_simp); first | done | with_reducible rfl
      try simp only [Act.put, List.setIfInBounds_toArray, List.set_cons_zero, List.set_cons_succ]
      refine take_at (i := 3) (v := ?_) (some 25) rfl (by kernel_rfl) (by kernel_rfl) (by kernel_rfl) rfl (fun _ _ _ h => h) (Or.inl ⟨by rfl, ?_⟩) hS ?_
      rotate_left
      · (intro wq hq; go_simp); first | done | with_reducible rfl
      try simp only [Act.put, List.setIfInBounds_toArray, List.set_cons_zero, List.set_cons_succ]
      refine take_at (i := 4) (v := ?_) (some 26) rfl (by kernel_rfl) (by kernel_rfl) (by kernel_rfl) rfl (fun _ _ _ h => h) (Or.inl ⟨by rfl, ?_⟩) hS ?_
      rotate_left
      · (intro wq hq; have q := hq _ _ _ hc'; go_simp); first | done | with_reducible rfl
      try simp only [Act.put, List.setIfInBounds_toArray, List.set_cons_zero, List.set_cons_succ]
      refine take_at (i := 5) (v := ?_) (some 27) rfl (by kernel_rfl) (by kernel_rfl) (by kernel_rfl) rfl (fun _ _ _ h => h) (Or.inl ⟨by rfl, ?_⟩) hS ?_
      rotate_left
      · (intro wq hq; go_simp); first | done | with_reducible rfl
      try simp only [Act.put, List.setIfInBounds_toArray, List.set_cons_zero, List.set_cons_succ]
      refine take_at (i := 6) (v := ?_) (some 28) rfl (by kernel_rfl) (by kernel_rfl) (by kernel_rfl) rfl (fun _ _ _ h => h) (Or.inl ⟨by rfl, ?_⟩) hS ?_
      rotate_left
      · (intro wq hq; go_simp); first | done | with_reducible rfl
      try simp only [Act.put, List.setIfInBounds_toArray, List.set_cons_zero, List.set_cons_succ]
      refine take_at (i := 7) (v := ?_) (some 29) rfl (by kernel_rfl) (by kernel_rfl) (by kernel_rfl) rfl (fun _ _ _ h => h) (Or.inl ⟨by rfl, ?_⟩) hS ?_
      rotate_left
      · (intro wq hq; go_simp); first | done | with_reducible rfl
      try simp only [Act.put, List.setIfInBounds_toArray, List.set_cons_zero, List.set_cons_succ]
      refine take_at (i := 8) (v := ?_) (some 30) rfl (by kernel_rfl) (by kernel_rfl) (by kernel_rfl) rfl (fun _ _ _ h => h) (Or.inl ⟨by rfl, ?_⟩) hS ?_
      rotate_left
      · (intro wq hq; have q1 := hq _ _ _ hd1; have q2 := hq _ _ _ hd2; go_simp); first | done | with_reducible rfl
      try simp only [Act.put, List.setIfInBounds_toArray, List.set_cons_zero, List.set_cons_succ]
      refine take_at (i := 9) (v := ?_) (some 31) rfl (by kernel_rfl) (by kernel_rfl) (by kernel_rfl) rfl (fun _ _ _ h => h) (Or.inl ⟨by rfl, ?_⟩) hS ?_
      rotate_left
      · (intro wq hq; go_simp); first | done | with_reducible rfl
      try simp only [Act.put, List.setIfInBounds_toArray, List.set_cons_zero, List.set_cons_succ]
      refine take_at (i := 10) (v := ?_) (some 32) rfl (by kernel_rfl) (by kernel_rfl) (by kernel_rfl) rfl (fun _ _ _ h => h) (Or.inl ⟨by rfl, ?_⟩) hS ?_
      rotate_left
      · (intro wq hq; go_simp); first | done | with_reducible rfl
      try simp only [Act.put, List.setIfInBounds_toArray, List.set_cons_zero, List.set_cons_succ]
      refine take_at (i := 11) (v := ?_) (some 33) rfl (by kernel_rfl) (by kernel_rfl) (by kernel_rfl) rfl (fun _ _ _ h => h) (Or.inl ⟨by rfl, ?_⟩) hS ?_
      rotate_left
      · (intro wq hq; go_simp); first | done | with_reducible rfl
      try simp only [Act.put, List.setIfInBounds_toArray, List.set_cons_zero, List.set_cons_succ]
      refine take_at (i := 12) (v := ?_) (some 34) rfl (by kernel_rfl) (by kernel_rfl) (by kernel_rfl) rfl (fun _ _ _ h => h) (Or.inl ⟨by rfl, ?_⟩) hS ?_
      rotate_left
      · (intro wq hq; have q1 := hq _ _ _ he1; have q2 := hq _ _ _ he2; go_simp); first | done | with_reducible rfl
      try simp only [Act.put, List.setIfInBounds_toArray, List.set_cons_zero, List.set_cons_succ]
      refine wpAnyH_ready (rs := [13]) (by kernel_rfl) (by simp) ?_
      refine AllReadyH.cons rfl (fun K hK => ?_) AllReadyH.nil
      go_simp
      refine (compare_any x y.1 z.1 y.2 z.2 _).mono ?_
      rintro e w1 ⟨rfl, hb1⟩
      refine hK.out _ _ (Ext.below hb1) (fun hS0 => ?_)
      clear hK K
      try simp only [Act.put, List.setIfInBounds_toArray, List.set_cons_zero, List.set_cons_succ]
      clear hS
      refine held_now hS0 (fun hS => ?_)
      clear hS0
      refine take_at (i := 14) (v := ?_) (some 8) rfl (by kernel_rfl) (by kernel_rfl) (by kernel_rfl) rfl (fun _ _ _ h => h) (Or.inl ⟨by rfl, ?_⟩) hS ?_
      rotate_left
      · (intro wq hq; go_simp); first | done | with_reducible rfl
      try simp only [Act.put, List.setIfInBounds_toArray, List.set_cons_zero, List.set_cons_succ]
      refine wpAnyH_done (by kernel_rfl) (NoPanic.normal ?_) _
      have hb' := Below.then hbel.drew hb1
      clear hb1 hc' hd1 hd2 he1 he2 hS hbel c0 hbw
      have HS' : Hid (cR (ts.take K) va vb = if cmpV x y.1 y.2 z.1 z.2 = 0 then cR ((ts.take K).drop (j + 1)) (va.drop (j + 1)) (vb.drop (j + 1)) else cmpV x y.1 y.2 z.1 z.2) := HS
      clear HS
      generalize cmpV x y.1 y.2 z.1 z.2 = q at *
      by_cases hq : q = 0
      · subst hq
        rw [if_pos rfl] at HS'
        go_wp2_with fail
        go_roundw
        case rel => exact ⟨j + 1, by omega, by go_num, HS', hb'⟩
        case measure => simp [intOf]; omega
      · rw [if_neg hq] at HS'
        have hq' : (q == 0) = false := by rw [beq_eq_false_iff_ne]; exact hq
        go_wp2_with fail
        go_ret
        exact ⟨ret_int HS'.out.symm, after1 hb'⟩
    · obtain rfl : j = M := by omega
      have h0 := Lib.hid (cR_end (ts := ts.take K) (a := va) (b := vb) (j := j) (by rw [List.length_take, hl.out, hla.out, hlb.out]; have := HM.out; omega))
      go_wp2_with fail
      go_ret
      exact ⟨ret_int (by rw [HC.out, h0.out]), hbw⟩
set_option maxHeartbeats 1000000 in
theorem r4compare_any (A : Option Addr) (N C : Nat) (ts : List Int) (K : Nat) (m g : Int) (Ra : Option Addr) (na ca : Nat) (va : List (Int × ByteArray)) (Rb : Option Addr) (nb cb : Nat) (vb : List (Int × ByteArray)) (w : World)
    (hv : IV w A N ts) (hN : N ≤ maxLen) (ha : WV w Ra na va) (hna : na ≤ maxLen) (hb : WV w Rb nb vb) (hnb : nb ≤ maxLen) (hK : K ≤ maxLen) (qa : RgV va) (qb : RgV vb) :
    Calls Tryz.prog 22 #[SS A N C K m g, .slice Ra na ca, .slice Rb nb cb] w fun e w' => e = .returned (.int .i64 (cR (ts.take K) va vb)) ∧ Below w.heap.size w w' := by
  unfold maxLen at hN hna hnb hK
  have hl := Lib.hid (IV.len hv)
  have hla := Lib.hid (WV.len ha)
  have hlb := Lib.hid (WV.len hb)
  obtain ⟨M, hM, -⟩ := min4 K N na nb
  have HM := Lib.hid hM
  have hM63 : M ≤ 2 ^ 63 - 1 := by omega
  clear hM
  go_enter Tryz.func22, Tryz.ntmps22
  go_wp2_with fail
  go_loopw [7] (fun i wr => ∃ j : Nat, j ≤ M ∧ i = .int .i64 (j : Int) ∧ Hid (cR (ts.take K) va vb = cR ((ts.take K).drop j) (va.drop j) (vb.drop j)) ∧ Below (w.alloc (.cells #[.slice A N C, .int .i64 K, .int .i64 m, .int .i64 g] 24)).heap.size (w.alloc (.cells #[.slice A N C, .int .i64 K, .int .i64 m, .int .i64 g] 24)) wr) (fun i _ => M - (intOf i).toNat)
  case atStart => exact ⟨0, by omega, rfl, Lib.hid (by simp), Below.refl _ _⟩
  case round =>
    obtain ⟨j, hj, rfl, HC, hbel⟩ := hrel
    have hbw := after1 hbel
    by_cases hlt : j < M
    · have hx0 := (Sx.new w A N C K m g 24).below hbel
      have hM := HM.out
      have j1 : j < N := by omega
      have j2 : j < na := by omega
      have j3 : j < nb := by omega
      have jK : j < K := by omega
      clear hM
      have HS := Lib.hid (cR_step (ts := ts.take K) (a := va) (b := vb) (j := j) (by rw [List.length_take, hl.out]; omega) (by rw [hla.out]; exact j2) (by rw [hlb.out]; exact j3))
      rw [take_getD _ _ _ jK, ← HC.out] at HS
      obtain ⟨b1, off1, rfl, hc⟩ := IV.at hv j j1
      obtain ⟨b2, off2, rfl, hd⟩ := WV.at ha j j2
      obtain ⟨b3, off3, rfl, he⟩ := WV.at hb j j3
      have hc' := keepc hc hbw
      have hd1 := keepc hd.1 hbw
      have hd2 := keepc hd.2 hbw
      have he1 := keepc he.1 hbw
      have he2 := keepc he.2 hbw
      generalize ts.getD j 0 = x at hc' HS
      have ry := RgV.at qa (i := j) (by rw [hla.out]; exact j2)
      have rz := RgV.at qb (i := j) (by rw [hlb.out]; exact j3)
      generalize va.getD j v0 = y at hd1 hd2 HS ry
      generalize vb.getD j v0 = z at he1 he2 HS rz
      obtain ⟨c0, c1, -, -⟩ := hx0
      clear hc hd he HC hv ha hb
      go_wp2_with fail
      refine wp_region_noPanic ?_
      refine wp_region_held_drew (S := Ext (World.drew _)) (by kernel_rfl) (Ext.refl _) (fun hS => ?_)
      refine take_at (i := 0) (v := ?_) (some 34) rfl (by kernel_rfl) (by kernel_rfl) (by kernel_rfl) rfl (fun _ _ _ h => h) (Or.inl ⟨by rfl, ?_⟩) hS ?_
      rotate_left
      · (intro wq hq; go_simp); first | done | with_reducible rfl
      try simp only [Act.put, List.setIfInBounds_toArray, List.set_cons_zero, List.set_cons_succ]
      refine take_at (i := 1) (v := ?_) (some 35) rfl (by kernel_rfl) (by kernel_rfl) (by kernel_rfl) rfl (fun _ _ _ h => h) (Or.inl ⟨by rfl, ?_⟩) hS ?_
      rotate_left
      · (intro wq hq; have q := hq _ _ _ c0; go_simp); first | done | with_reducible rfl
      try simp only [Act.put, List.setIfInBounds_toArray, List.set_cons_zero, List.set_cons_succ]
      refine take_at (i := 2) (v := ?_) (some 36) rfl (by kernel_rfl) (by kernel_rfl) (by kernel_rfl) rfl (fun _ _ _ h => h) (Or.inl ⟨by rfl, ?_⟩) hS ?_
      rotate_left
      · (intro wq hq; go_simp); first | done | with_reducible rfl
      try simp only [Act.put, List.setIfInBounds_toArray, List.set_cons_zero, List.set_cons_succ]
      refine take_at (i := 3) (v := ?_) (some 37) rfl (by kernel_rfl) (by kernel_rfl) (by kernel_rfl) rfl (fun _ _ _ h => h) (Or.inl ⟨by rfl, ?_⟩) hS ?_
      rotate_left
      · (intro wq hq; go_simp); first | done | with_reducible rfl
      try simp only [Act.put, List.setIfInBounds_toArray, List.set_cons_zero, List.set_cons_succ]
      refine take_at (i := 4) (v := ?_) (some 38) rfl (by kernel_rfl) (by kernel_rfl) (by kernel_rfl) rfl (fun _ _ _ h => h) (Or.inl ⟨by rfl, ?_⟩) hS ?_
      rotate_left
      · (intro wq hq; have q := hq _ _ _ hc'; go_simp); first | done | with_reducible rfl
      try simp only [Act.put, List.setIfInBounds_toArray, List.set_cons_zero, List.set_cons_succ]
      refine take_at (i := 5) (v := ?_) (some 39) rfl (by kernel_rfl) (by kernel_rfl) (by kernel_rfl) rfl (fun _ _ _ h => h) (Or.inl ⟨by rfl, ?_⟩) hS ?_
      rotate_left
      · (intro wq hq; go_simp); first | done | with_reducible rfl
      try simp only [Act.put, List.setIfInBounds_toArray, List.set_cons_zero, List.set_cons_succ]
      refine take_at (i := 6) (v := ?_) (some 40) rfl (by kernel_rfl) (by kernel_rfl) (by kernel_rfl) rfl (fun _ _ _ h => h) (Or.inl ⟨by rfl, ?_⟩) hS ?_
      rotate_left
      · (intro wq hq; go_simp); first | done | with_reducible rfl
      try simp only [Act.put, List.setIfInBounds_toArray, List.set_cons_zero, List.set_cons_succ]
      refine take_at (i := 7) (v := ?_) (some 41) rfl (by kernel_rfl) (by kernel_rfl) (by kernel_rfl) rfl (fun _ _ _ h => h) (Or.inl ⟨by rfl, ?_⟩) hS ?_
      rotate_left
      · (intro wq hq; go_simp); first | done | with_reducible rfl
      try simp only [Act.put, List.setIfInBounds_toArray, List.set_cons_zero, List.set_cons_succ]
      refine take_at (i := 8) (v := ?_) (some 42) rfl (by kernel_rfl) (by kernel_rfl) (by kernel_rfl) rfl (fun _ _ _ h => h) (Or.inl ⟨by rfl, ?_⟩) hS ?_
      rotate_left
      · (intro wq hq; have q1 := hq _ _ _ hd1; have q2 := hq _ _ _ hd2; go_simp); first | done | with_reducible rfl
      try simp only [Act.put, List.setIfInBounds_toArray, List.set_cons_zero, List.set_cons_succ]
      refine take_at (i := 9) (v := ?_) (some 43) rfl (by kernel_rfl) (by kernel_rfl) (by kernel_rfl) rfl (fun _ _ _ h => h) (Or.inl ⟨by rfl, ?_⟩) hS ?_
      rotate_left
      · (intro wq hq; go_simp); first | done | with_reducible rfl
      try simp only [Act.put, List.setIfInBounds_toArray, List.set_cons_zero, List.set_cons_succ]
      refine take_at (i := 10) (v := ?_) (some 44) rfl (by kernel_rfl) (by kernel_rfl) (by kernel_rfl) rfl (fun _ _ _ h => h) (Or.inl ⟨by rfl, ?_⟩) hS ?_
      rotate_left
      · (intro wq hq; go_simp); first | done | with_reducible rfl
      try simp only [Act.put, List.setIfInBounds_toArray, List.set_cons_zero, List.set_cons_succ]
      refine take_at (i := 11) (v := ?_) (some 45) rfl (by kernel_rfl) (by kernel_rfl) (by kernel_rfl) rfl (fun _ _ _ h => h) (Or.inl ⟨by rfl, ?_⟩) hS ?_
      rotate_left
      · (intro wq hq; go_simp); first | done | with_reducible rfl
      try simp only [Act.put, List.setIfInBounds_toArray, List.set_cons_zero, List.set_cons_succ]
      refine take_at (i := 12) (v := ?_) (some 46) rfl (by kernel_rfl) (by kernel_rfl) (by kernel_rfl) rfl (fun _ _ _ h => h) (Or.inl ⟨by rfl, ?_⟩) hS ?_
      rotate_left
      · (intro wq hq; have q1 := hq _ _ _ he1; have q2 := hq _ _ _ he2; go_simp); first | done | with_reducible rfl
      try simp only [Act.put, List.setIfInBounds_toArray, List.set_cons_zero, List.set_cons_succ]
      refine wpAnyH_ready (rs := [13]) (by kernel_rfl) (by simp) ?_
      refine AllReadyH.cons rfl (fun K hK => ?_) AllReadyH.nil
      go_simp
      refine (rcompare_any x y.1 z.1 y.2 z.2 _ ry rz).mono ?_
      rintro e w1 ⟨rfl, hb1⟩
      refine hK.out _ _ (Ext.below hb1) (fun hS0 => ?_)
      clear hK K
      try simp only [Act.put, List.setIfInBounds_toArray, List.set_cons_zero, List.set_cons_succ]
      clear hS
      refine held_now hS0 (fun hS => ?_)
      clear hS0
      refine take_at (i := 14) (v := ?_) (some 8) rfl (by kernel_rfl) (by kernel_rfl) (by kernel_rfl) rfl (fun _ _ _ h => h) (Or.inl ⟨by rfl, ?_⟩) hS ?_
      rotate_left
      · (intro wq hq; go_simp); first | done | with_reducible rfl
      try simp only [Act.put, List.setIfInBounds_toArray, List.set_cons_zero, List.set_cons_succ]
      refine wpAnyH_done (by kernel_rfl) (NoPanic.normal ?_) _
      have hb' := Below.then hbel.drew hb1
      clear hb1 hc' hd1 hd2 he1 he2 hS hbel c0 c1 hbw
      have HS' : Hid (cR (ts.take K) va vb = if cmpV x y.1 y.2 z.1 z.2 = 0 then cR ((ts.take K).drop (j + 1)) (va.drop (j + 1)) (vb.drop (j + 1)) else cmpV x y.1 y.2 z.1 z.2) := HS
      clear HS
      generalize cmpV x y.1 y.2 z.1 z.2 = q at *
      by_cases hq : q = 0
      · subst hq
        rw [if_pos rfl] at HS'
        go_wp2_with fail
        go_roundw
        case rel => exact ⟨j + 1, by omega, by go_num, HS', hb'⟩
        case measure => simp [intOf]; omega
      · rw [if_neg hq] at HS'
        have hq' : (q == 0) = false := by rw [beq_eq_false_iff_ne]; exact hq
        go_wp2_with fail
        go_ret
        exact ⟨ret_int HS'.out.symm, after1 hb'⟩
    · obtain rfl : j = M := by omega
      have h0 := Lib.hid (cR_end (ts := ts.take K) (a := va) (b := vb) (j := j) (by rw [List.length_take, hl.out, hla.out, hlb.out]; have := HM.out; omega))
      have hx0 := (Sx.new w A N C K m g 24).below hbel
      obtain ⟨c0, c1, -, -⟩ := hx0
      rcases (show ¬ j < K ∨ (j < K ∧ ¬ j < N) ∨ (j < K ∧ j < N ∧ ¬ j < na) ∨ (j < K ∧ j < N ∧ j < na ∧ ¬ j < nb) by have := HM.out; omega) with d1 | ⟨d1, d2⟩ | ⟨d1, d2, d3⟩ | ⟨d1, d2, d3, d4⟩ <;>
        (go_wp2_with fail; go_ret; exact ⟨ret_int (by rw [HC.out, h0.out]), hbw⟩)
end Go.Proofs.YtbfihajgjbpmaaaGreat
/- Contracts of schema.Put and of the closure within it. -/
namespace Go.Proofs.YtbfihajgjbpmaaaGreat
open Go.ChangeShapes Go.WideShapes Go.ChangeAt Go.RowKit
set_option linter.unusedVariables false
set_option maxRecDepth 4000

/-- a variable that is captured -/
def Cap (w : World) (B : Nat) (v : Value) : Prop := w.heap[B]? = some (.cells #[v] 26 (0, 0))
theorem Cap.lt {w : World} {B : Nat} {v : Value} (h : Cap w B v) : B < w.heap.size := lt_of_block h
theorem Cap.alloc {w : World} {B : Nat} {v : Value} (h : Cap w B v) (o : Obj) : Cap (w.alloc o) B v := heap_alloc_lt o h
theorem Cap.drew {w : World} {B : Nat} {v : Value} (h : Cap w B v) : Cap w.drew B v := h
theorem Cap.below {w w' : World} {B base : Nat} {v : Value} (h : Cap w B v) (hb : Below base w w') (hB : B < base) : Cap w' B v := by
  unfold Cap; rw [hb.block B hB]; exact h
theorem OW.setB {w : World} {B : Nat} {v : Value} {bs : List Int} (h : OW w (B + 1) v bs) (u : Value) : OW (w.setCell ⟨B, 0, none⟩ u) (B + 1) v bs := by
  rcases h with h | ⟨g, cap, cur, T, h1, h2, h3, h4⟩
  · exact .inl h
  · exact .inr ⟨g, cap, cur, T, h1, h2, (Below.heap_setCell _ _ _ _ (by show g ≠ B; omega)).trans h3, h4⟩
set_option maxHeartbeats 1000000 in
theorem put1_any (x u : Int) (B : Nat) (v : Value) (bs : List Int) (w : World) (hu : IntKind.u64.wrap x = u) (hc : Cap w B v) (ho : OW w (B + 1) v bs) (hl : bs.length ≤ 1000) :
    Calls Tryz.prog 88 #[.int .i64 x, .pointer (some ⟨B, 0, none⟩)] w fun e w' => e = .returned (.tuple #[]) ∧ ∃ v', Cap w' B v' ∧ OW w' (B + 1) v' (bs ++ pv u) ∧ Below B w w' := by
  have hu0 : 0 ≤ u ∧ u ≤ 18446744073709551615 := by rw [← hu, IntKind.wrap_u64]; omega
  have hpl := pv_len10 (x := u) (by omega)
  have hlt := hc.lt
  go_enter Tryz.func88, Tryz.ntmps88
  go_wp2_with fail
  refine wp_region_noPanic ?_
  refine wp_region_held_drew (S := fun _ => True) (by kernel_rfl) (trivial) (fun hS => ?_)
  refine take_at (i := 1) (v := ?_) (some 4) rfl (by kernel_rfl) (by kernel_rfl) (by kernel_rfl) rfl (fun _ _ _ h => h) (Or.inl ⟨by rfl, ?_⟩) hS ?_
  rotate_left
  · (intro wq hq; go_simp); first | done | with_reducible rfl
  try simp only [Act.put, List.setIfInBounds_toArray, List.set_cons_zero, List.set_cons_succ]
  refine take_at (i := 2) (v := ?_) (some 5) rfl (by kernel_rfl) (by kernel_rfl) (by kernel_rfl) rfl (fun _ _ _ h => h) (Or.inl ⟨by rfl, ?_⟩) hS ?_
  rotate_left
  · (intro wq hq; go_simp); first | done | with_reducible rfl
  try simp only [Act.put, List.setIfInBounds_toArray, List.set_cons_zero, List.set_cons_succ]
  have c0 := cell_of_one hc
  refine wpAnyH_ready (rs := [0, 3]) (by kernel_rfl) (by simp) ?_
  refine (AllReadyH.cons rfl (fun K hK => ?_) (AllReadyH.cons rfl (fun K hK => ?_) AllReadyH.nil))
  · skip
    go_simp
    refine hK.out _ _ (trivial) (fun hS0 => ?_)
    clear hK K
    try simp only [Act.put, List.setIfInBounds_toArray, List.set_cons_zero, List.set_cons_succ]
    clear hS
    have hS := hS0
    clear hS0
    refine wpAnyH_ready (rs := [3]) (by kernel_rfl) (by simp) ?_
    refine AllReadyH.cons rfl (fun K hK => ?_) AllReadyH.nil
    go_simp
    refine (putvar_any u _ hu0.1 hu0.2).mono ?_
    rintro e w1 ⟨rfl, rfl⟩
    refine hK.out _ _ (trivial) (fun hS0 => ?_)
    clear hK K
    try simp only [Act.put, List.setIfInBounds_toArray, List.set_cons_zero, List.set_cons_succ]
    clear hS
    have hS := hS0
    clear hS0
    refine wpAnyH_ready (rs := [4]) (by kernel_rfl) (by simp) ?_
    refine AllReadyH.cons rfl (fun K hK => ?_) AllReadyH.nil
    refine want (by kernel_rfl) ?_
    refine wp_append_ow (some 7) rfl (.tmp 3) (.tmp 6) rfl (B + 1) v bs rfl (ho.drew.alloc _) _ _ 10 (pv u) rfl (BV.pv _ hu0.1) (by omega) (by show B + 1 ≤ (w.alloc (pvObj u)).heap.size; rw [heap_alloc]; omega) ?_
    intro v2 w2 ho2 hb2
    obtain ⟨a3, n3, c3, rfl⟩ := ho2.shape
    refine hK.out _ _ (trivial) (fun hS0 => ?_)
    clear hK K
    try simp only [Act.put, List.setIfInBounds_toArray, List.set_cons_zero, List.set_cons_succ]
    clear hS
    have hS := hS0
    clear hS0
    have hc2 : Cap w2 B v := (hc.drew.alloc (pvObj u)).below hb2 (by omega)
    have c2 := cell_of_one hc2
    have f2 := free_of_one hc2
    refine wpAnyH_ready (rs := [5]) (by kernel_rfl) (by simp) ?_
    refine AllReadyH.cons rfl (fun K hK => ?_) AllReadyH.nil
    go_simp
    refine hK.out _ _ (trivial) (fun hS0 => ?_)
    clear hK K
    try simp only [Act.put, List.setIfInBounds_toArray, List.set_cons_zero, List.set_cons_succ]
    clear hS
    have hS := hS0
    clear hS0
    refine wpAnyH_done (by kernel_rfl) (NoPanic.normal ?_) _
    go_end0
    exact ⟨rfl, _, one_setCell hc2, ho2.setB _, ((((Below.refl B w).drew.alloc (by show B ≤ w.heap.size; omega) _).trans (hb2.mono (by omega))).setCell (by show B ≤ B; omega) _)⟩
  · skip
    go_simp
    refine (putvar_any u _ hu0.1 hu0.2).mono ?_
    rintro e w1 ⟨rfl, rfl⟩
    refine hK.out _ _ (trivial) (fun hS0 => ?_)
    clear hK K
    try simp only [Act.put, List.setIfInBounds_toArray, List.set_cons_zero, List.set_cons_succ]
    clear hS
    have hS := hS0
    clear hS0
    refine wpAnyH_ready (rs := [0]) (by kernel_rfl) (by simp) ?_
    refine AllReadyH.cons rfl (fun K hK => ?_) AllReadyH.nil
    go_simp
    refine hK.out _ _ (trivial) (fun hS0 => ?_)
    clear hK K
    try simp only [Act.put, List.setIfInBounds_toArray, List.set_cons_zero, List.set_cons_succ]
    clear hS
    have hS := hS0
    clear hS0
    refine wpAnyH_ready (rs := [4]) (by kernel_rfl) (by simp) ?_
    refine AllReadyH.cons rfl (fun K hK => ?_) AllReadyH.nil
    refine want (by kernel_rfl) ?_
    refine wp_append_ow (some 7) rfl (.tmp 3) (.tmp 6) rfl (B + 1) v bs rfl (ho.drew.alloc _) _ _ 10 (pv u) rfl (BV.pv _ hu0.1) (by omega) (by show B + 1 ≤ (w.alloc (pvObj u)).heap.size; rw [heap_alloc]; omega) ?_
    intro v2 w2 ho2 hb2
    obtain ⟨a3, n3, c3, rfl⟩ := ho2.shape
    refine hK.out _ _ (trivial) (fun hS0 => ?_)
    clear hK K
    try simp only [Act.put, List.setIfInBounds_toArray, List.set_cons_zero, List.set_cons_succ]
    clear hS
    have hS := hS0
    clear hS0
    have hc2 : Cap w2 B v := (hc.drew.alloc (pvObj u)).below hb2 (by omega)
    have c2 := cell_of_one hc2
    have f2 := free_of_one hc2
    refine wpAnyH_ready (rs := [5]) (by kernel_rfl) (by simp) ?_
    refine AllReadyH.cons rfl (fun K hK => ?_) AllReadyH.nil
    go_simp
    refine hK.out _ _ (trivial) (fun hS0 => ?_)
    clear hK K
    try simp only [Act.put, List.setIfInBounds_toArray, List.set_cons_zero, List.set_cons_succ]
    clear hS
    have hS := hS0
    clear hS0
    refine wpAnyH_done (by kernel_rfl) (NoPanic.normal ?_) _
    go_end0
    exact ⟨rfl, _, one_setCell hc2, ho2.setB _, ((((Below.refl B w).drew.alloc (by show B ≤ w.heap.size; omega) _).trans (hb2.mono (by omega))).setCell (by show B ≤ B; omega) _)⟩
theorem type_at {ts : List Int} {k m g : Int} (h : checkB ts k m g = true) {j : Nat} (hj : j < ts.length) : 1 ≤ ts.getD j 0 ∧ ts.getD j 0 ≤ 3 := by
  have := (check_is h).2.2.2.2.2.2.2.2 (ts[j]) (List.getElem_mem hj)
  simpa [List.getD, hj] using this
theorem Sx.low {w w' : World} {b base : Nat} {A : Option Addr} {N C : Nat} {k m g : Int} (h : Sx w b A N C k m g) (hb : Below base w w') (hB : b < base) : Sx w' b A N C k m g :=
  ⟨by rw [hb.cell (p := ⟨b, 0, none⟩) hB]; exact h.1, by rw [hb.cell (p := ⟨b, 1, none⟩) hB]; exact h.2.1, by rw [hb.cell (p := ⟨b, 2, none⟩) hB]; exact h.2.2.1, by rw [hb.cell (p := ⟨b, 3, none⟩) hB]; exact h.2.2.2⟩
set_option maxHeartbeats 2000000 in
theorem put_any (A : Option Addr) (N C : Nat) (ts : List Int) (k m g : Int) (w : World) (hv : IV w A N ts) (hk : checkB ts k m g = true) :
    Calls Tryz.prog 56 #[SS A N C k m g] w fun e w' => ∃ v, e = .returned v ∧ OW w' w.heap.size v (putS ts k m g) ∧ Below w.heap.size w w' := by
  have hl := Lib.hid (IV.len hv)
  obtain ⟨q1, q2, q3, q4, q5, q6, q7, q8, -⟩ := check_is hk
  rw [hl.out] at q1 q2 q4
  have HK := Lib.hid hk
  clear hk
  have hx : Sx ((w.alloc (.cells #[.slice A N C, .int .i64 k, .int .i64 m, .int .i64 g] 24)).alloc (.cells #[.slice none 0 0] 26)) w.heap.size A N C k m g := (Sx.new w A N C k m g 24).alloc _
  have hcap : Cap ((w.alloc (.cells #[.slice A N C, .int .i64 k, .int .i64 m, .int .i64 g] 24)).alloc (.cells #[.slice none 0 0] 26)) (w.heap.size + 1) (.slice none 0 0) := by
    have := heap_alloc_new (w.alloc (.cells #[.slice A N C, .int .i64 k, .int .i64 m, .int .i64 g] 24)) (.cells #[.slice none 0 0] 26)
    rw [heap_alloc] at this; exact this
  have hbel0 : Below (w.heap.size + 1) ((w.alloc (.cells #[.slice A N C, .int .i64 k, .int .i64 m, .int .i64 g] 24)).alloc (.cells #[.slice none 0 0] 26)) ((w.alloc (.cells #[.slice A N C, .int .i64 k, .int .i64 m, .int .i64 g] 24)).alloc (.cells #[.slice none 0 0] 26)) := Below.refl _ _
  have hbw : Below w.heap.size w ((w.alloc (.cells #[.slice A N C, .int .i64 k, .int .i64 m, .int .i64 g] 24)).alloc (.cells #[.slice none 0 0] 26)) := Joins.below_alloc2 _ _ _
  go_enter Tryz.func56, Tryz.ntmps56
  go_wp2_with fail
  refine (put1_any N N (w.heap.size + 1) _ [] _ (u64_same (by omega) (by omega)) hcap (.inl ⟨rfl, rfl⟩) (by simp)).mono ?_
  rintro e w1 ⟨rfl, v1, hc1, ho1, hb1⟩
  have hx1 := hx.low hb1 (by omega)
  have hw1 : Below w.heap.size w w1 := hbw.trans (hb1.mono (by omega))
  clear hx hcap hbel0 hbw hb1
  obtain ⟨c0, -, -, -⟩ := id hx1
  have hlp := pv_len10 (x := (N : Int)) (by omega)
  go_wp2_with fail
  clear c0
  go_loopw [16] (fun i wr => ∃ (j : Nat) (v : Value) (bs : List Int), j ≤ N ∧ i = .int .i64 (j : Int) ∧ Hid (bs = joinN ((N : Int) :: ts.take j)) ∧ bs.length ≤ 10 * (j + 1) ∧ Cap wr (w.heap.size + 1) v ∧ OW wr (w.heap.size + 1 + 1) v bs ∧ Sx wr w.heap.size A N C k m g ∧ Below w.heap.size w wr) (fun i _ => N - (intOf i).toNat)
  case atStart => exact ⟨0, v1, _, by omega, rfl, Lib.hid (by simp [joinN]), by simpa using hlp, hc1, ho1, hx1, hw1⟩
  case round =>
    obtain ⟨j, v, bs, hj, rfl, HB, hbl, hc, ho, hx, hbel⟩ := hrel
    clear hc1 ho1 hx1 hw1 hlp
    by_cases hlt : j < N
    · obtain ⟨b, off, rfl, hcl⟩ := IV.at hv j hlt
      have hcl' := keepc hcl hbel
      have hr := type_at HK.out (j := j) (by rw [hl.out]; exact hlt)
      have HS := Lib.hid (take_snocI ts j (by rw [hl.out]; exact hlt))
      generalize ts.getD j 0 = x at hcl' hr HS
      clear hcl
      have hlp := pv_len10 (x := x) (by omega)
      go_wp2_with fail
      refine (put1_any x x (w.heap.size + 1) _ bs _ (u64_same (by omega) (by omega)) hc ho (by omega)).mono ?_
      rintro e w2 ⟨rfl, v2, hc2, ho2, hb2⟩
      have hx2 := hx.low hb2 (by omega)
      have hw2 : Below w.heap.size w w2 := hbel.trans (hb2.mono (by omega))
      clear hc ho hx hbel hb2 hcl'
      go_wp2_with fail
      go_roundw
      case rel => exact ⟨j + 1, v2, _, by omega, by go_num, Lib.hid (by rw [HS.out, HB.out, ← List.cons_append, joinN_snoc]), by rw [List.length_append]; omega, hc2, ho2, hx2, hw2⟩
      case measure => simp [intOf]; omega
    · obtain rfl : j = N := by omega
      have HB' : Hid (bs = joinN ((j : Int) :: ts)) := Lib.hid (by rw [HB.out, ← hl.out, List.take_length])
      obtain ⟨-, c1, -, -⟩ := id hx
      go_wp2_with fail
      refine (put1_any k k (w.heap.size + 1) _ bs _ (u64_same (by omega) (by omega)) hc ho (by omega)).mono ?_
      rintro e w2 ⟨rfl, v2, hc2, ho2, hb2⟩
      have hx2 := hx.low hb2 (by omega)
      have hw2 : Below w.heap.size w w2 := hbel.trans (hb2.mono (by omega))
      have l1 := pv_len10 (x := k) (by omega)
      have l2 := pv_len10 (x := m) (by omega)
      clear c1 hc ho hx hbel hb2
      obtain ⟨-, -, c2, -⟩ := id hx2
      go_wp2_with fail
      refine (put1_any m m (w.heap.size + 1) _ _ _ (u64_same (by omega) (by omega)) hc2 ho2 (by simp only [List.length_append]; omega)).mono ?_
      rintro e w3 ⟨rfl, v3, hc3, ho3, hb3⟩
      have hx3 := hx2.low hb3 (by omega)
      have hw3 : Below w.heap.size w w3 := hw2.trans (hb3.mono (by omega))
      clear c2 hc2 ho2 hx2 hw2 hb3
      obtain ⟨-, -, -, c3⟩ := id hx3
      go_wp2_with fail
      refine (put1_any g g (w.heap.size + 1) _ _ _ (u64_same (by omega) (by omega)) hc3 ho3 (by simp only [List.length_append]; omega)).mono ?_
      rintro e w4 ⟨rfl, v4, hc4, ho4, hb4⟩
      have hw4 : Below w.heap.size w w4 := hw3.trans (hb4.mono (by omega))
      clear c3 hc3 ho3 hx3 hw3 hb4
      have c4 := cell_of_one hc4
      go_wp2_with fail
      go_ret
      refine ⟨_, rfl, ?_, hw4⟩
      have e : bs ++ pv k ++ pv m ++ pv g = putS ts k m g := by
        rw [HB'.out, putS, schemaN, hl.out, ← List.cons_append, joinN_app]
        simp [joinN]
      rw [e] at ho4
      exact ho4.mono (by omega)
end Go.Proofs.YtbfihajgjbpmaaaGreat
/- The statements' own helper shown. -/
namespace Go.Proofs.YtbfihajgjbpmaaaGreat
open Go.ChangeShapes Go.WideShapes Go.ChangeAt Go.RowKit
set_option linter.unusedVariables false
set_option maxRecDepth 4000

theorem put_bytes {ts : List Int} {k m g : Int} (h : checkB ts k m g = true) : ∀ z ∈ putS ts k m g, 0 ≤ z ∧ z ≤ 255 := by
  have hu := schemaN_u64 h
  unfold putS
  generalize schemaN ts k m g = l at hu
  induction l with
  | nil => intro z hz; cases hz
  | cons x l ih =>
    intro z hz
    rw [joinN] at hz
    rcases List.mem_append.1 hz with hz | hz
    · exact pv_bytes (hu x (List.mem_cons_self ..)).1 z hz
    · exact ih (fun y hy => hu y (List.mem_cons_of_mem _ hy)) z hz
end Go.Proofs.YtbfihajgjbpmaaaGreat
/- Contracts of Made and made: a schema that may be, of any numbers. -/
namespace Go.Proofs.YtbfihajgjbpmaaaGreat
open Go.ChangeShapes Go.WideShapes Go.ChangeAt Go.RowKit
set_option linter.unusedVariables false
set_option maxRecDepth 4000

theorem el_ints : El 22 3 1 8 (.int .i64 0) := ⟨Tryz.underlying22, by kernel_rfl, rfl, by omega⟩
theorem ld_ss {w : World} (b : Nat) {A : Option Addr} {N C : Nat} {k m g : Int} (hc : Sx w b A N C k m g) : (loadVar 24 ⟨b, 0, none⟩).run Tryz.prog w = .ok (SS A N C k m g) w := by
  obtain ⟨h0, h1, h2, h3⟩ := hc
  go_simp
theorem res_ss {fn : Func} {p : Tmp} (h : fn.results = #[.cell p 24]) (tmps : Array Value) {w : World} (b : Nat) {A : Option Addr} {N C : Nat} {k m g : Int} (hp : tmps.getD p undef = .pointer (some ⟨b, 0, none⟩)) (hc : Sx w b A N C k m g) :
    (results fn tmps).run Tryz.prog w = .ok (SS A N C k m g) w := by
  have hp' : tmps[p]?.getD undef = .pointer (some ⟨b, 0, none⟩) := by simpa using hp
  simp [results, h, hp', asAddr, ld_ss b hc]
theorem Bk.sx {w : World} {b : Nat} {A : Option Addr} {N C : Nat} {k m g : Int} {T : TypeId} (h : Bk w b #[.slice A N C, .int .i64 k, .int .i64 m, .int .i64 g] T) : Sx w b A N C k m g :=
  ⟨h.cell 0 rfl, h.cell 1 rfl, h.cell 2 rfl, h.cell 3 rfl⟩
theorem Bk.put4 {w : World} {b : Nat} {x0 x1 x2 x3 : Value} {T : TypeId} (h : Bk w b #[x0, x1, x2, x3] T) (y0 y1 y2 y3 : Value) :
    Bk ((((w.setCell ⟨b, 0, none⟩ y0).setCell ⟨b, 1, none⟩ y1).setCell ⟨b, 2, none⟩ y2).setCell ⟨b, 3, none⟩ y3) b #[y0, y1, y2, y3] T := (((h.set 0 y0).set 1 y1).set 2 y2).set 3 y3
abbrev U8s (l : List Int) : Prop := ∀ x ∈ l, 0 ≤ x ∧ x ≤ 255
theorem U8s.at {l : List Int} (h : U8s l) {j : Nat} (hj : j < l.length) : 0 ≤ l.getD j 0 ∧ l.getD j 0 ≤ 255 := by
  have := h _ (List.getElem_mem hj)
  simpa [List.getD, hj] using this
end Go.Proofs.YtbfihajgjbpmaaaGreat
/- Contract of Fit: a row of a schema that may be, of any values. -/
namespace Go.Proofs.YtbfihajgjbpmaaaGreat
open Go.ChangeShapes Go.WideShapes Go.ChangeAt Go.RowKit
set_option linter.unusedVariables false
set_option maxRecDepth 4000

theorem el_row : El 46 62 2 24 (.agg #[.int .i64 0, .string ⟨#[]⟩]) := ⟨Tryz.underlying46, by kernel_rfl, rfl, by omega⟩
/-- a value that is made to fit -/
def fitV (t : Int) (v : Int × ByteArray) : Int × ByteArray := (fitN t v.1, fitS t v.2)
/-- the first values of a row that is made to fit -/
def fitP (ts : List Int) (vs : List (Int × ByteArray)) (j : Nat) : List (Int × ByteArray) := (List.range j).map fun i => fitV (ts.getD i 0) (vs.getD i v0)
/-- a row that is made to fit -/
def fitR (ts : List Int) (vs : List (Int × ByteArray)) : List (Int × ByteArray) := fitP ts vs ts.length
theorem fitP_len (ts : List Int) (vs : List (Int × ByteArray)) (j : Nat) : (fitP ts vs j).length = j := by simp [fitP]
theorem fitR_len (ts : List Int) (vs : List (Int × ByteArray)) : (fitR ts vs).length = ts.length := fitP_len ..
theorem fitR_at {ts : List Int} {vs : List (Int × ByteArray)} {i : Nat} (h : i < ts.length) : (fitR ts vs).getD i v0 = fitV (ts.getD i 0) (vs.getD i v0) := by
  simp [fitR, fitP, List.getD, h]
end Go.Proofs.YtbfihajgjbpmaaaGreat
