/- Schemas and rows in memory; contracts of upTo, isMode, isType, Check, Row. -/
import Derived.Test.YtllgnafbemmcaaaS4v
import Derived.Test.YtllgnafbemmcaaaG3
namespace Go.Proofs.Ytllgnafbemmcaaa
open Go.ChangeShapes Go.WideShapes Go.ChangeAt Go.RowKit
set_option linter.unusedVariables false

/-- a schema -/
abbrev SS (A : Option Addr) (N C : Nat) (k m g : Int) : Value := .agg #[.slice A N C, .int .i64 k, .int .i64 m, .int .i64 g]
/-- the slice at A of N ints is ts -/
abbrev IV (w : World) (A : Option Addr) (N : Nat) (ts : List Int) : Prop := SV 1 w A N (icells ts)
/-- the slice at A of n values is vs -/
abbrev WV (w : World) (A : Option Addr) (n : Nat) (vs : List (Int × ByteArray)) : Prop := SV 2 w A n (vcells vs)
theorem IV.len {w : World} {A : Option Addr} {N : Nat} {ts : List Int} (h : IV w A N ts) : ts.length = N := by have := h.1; simpa [icells] using this
theorem WV.len {w : World} {A : Option Addr} {N : Nat} {vs : List (Int × ByteArray)} (h : WV w A N vs) : vs.length = N := by have := h.1; rw [vcells_len] at this; omega
theorem IV.at {w : World} {A : Option Addr} {N : Nat} {ts : List Int} (h : IV w A N ts) (i : Nat) (hi : i < N) :
    ∃ b off, A = some ⟨b, off, none⟩ ∧ w.cell? ⟨b, off + i, none⟩ = some (.int .i64 (ts.getD i 0)) := by
  have hl := IV.len h
  obtain ⟨h1, h2, h3⟩ := h
  rcases h3 with h3 | ⟨b, off, rfl, hc⟩
  · omega
  · refine ⟨b, off, rfl, hc i _ ?_⟩
    simp [icells, show i < ts.length by omega]
abbrev v0 : Int × ByteArray := (0, ⟨#[]⟩)
theorem WV.at {w : World} {A : Option Addr} {N : Nat} {vs : List (Int × ByteArray)} (h : WV w A N vs) (i : Nat) (hi : i < N) :
    ∃ b off, A = some ⟨b, off, none⟩ ∧ w.cell? ⟨b, off + i * 2, none⟩ = some (.int .i64 (vs.getD i v0).1) ∧ w.cell? ⟨b, off + i * 2 + 1, none⟩ = some (.string (vs.getD i v0).2) := by
  have hl := WV.len h
  have h3 := h.2.2
  rcases h3 with h3 | ⟨b, off, rfl, hc⟩
  · omega
  · refine ⟨b, off, rfl, ?_⟩
    have := SV.value h i (by omega)
    have e : vs.getD i v0 = vs[i]'(by omega) := by simp [List.getD, show i < vs.length by omega]
    rw [e, Nat.mul_comm i 2]
    exact this
def upB (top n : Int) : Bool := decide (1 ≤ n ∧ n ≤ top)
theorem upB_yes {top n : Int} (h : upB top n = true) : 1 ≤ n ∧ n ≤ top := of_decide_eq_true h
theorem upB_no {top n : Int} (h : upB top n = false) : ¬ (1 ≤ n ∧ n ≤ top) := of_decide_eq_false h
set_option maxHeartbeats 400000 in
theorem upto_any (top n : Int) (w : World) : Calls Try.prog 31 #[.int .i64 top, .int .i64 n] w fun e w' => e = .returned (.bool (upB top n)) ∧ w' = w := by
  by_cases h1 : 1 ≤ n
  · go_enter Try.func31, Try.ntmps31
    go_wp2
    go_ret
    exact ⟨by simp [upB, h1], rfl⟩
  · go_enter Try.func31, Try.ntmps31
    go_wp2
    go_ret
    have : upB top n = false := decide_eq_false (by omega)
    exact ⟨by rw [this]; rfl, rfl⟩
set_option maxHeartbeats 400000 in
theorem ismode_any (n : Int) (w : World) : Calls Try.prog 33 #[.int .i64 n] w fun e w' => e = .returned (.bool (upB 3 n)) ∧ w' = w := by
  by_cases h1 : n = 1
  · subst h1
    go_enter Try.func33, Try.ntmps33
    go_wp2
    go_ret
    exact ⟨rfl, rfl⟩
  · by_cases h2 : n = 2
    · subst h2
      go_enter Try.func33, Try.ntmps33
      go_wp2
      go_ret
      exact ⟨rfl, rfl⟩
    · by_cases h3 : n = 3
      · subst h3
        go_enter Try.func33, Try.ntmps33
        go_wp2
        go_ret
        exact ⟨rfl, rfl⟩
      · go_enter Try.func33, Try.ntmps33
        go_wp2
        go_ret
        have : upB 3 n = false := decide_eq_false (by omega)
        exact ⟨by rw [this]; rfl, rfl⟩
theorem fits_zero (t : Int) : fitsB t 0 ⟨#[]⟩ = upB 3 t := by
  by_cases h : t = 1 ∨ t = 2
  · rw [fits_num h]; exact (decide_eq_true (by omega)).symm
  · by_cases h3 : t = 3
    · subst h3; simp [fitsB, upB]; decide
    · have : upB 3 t = false := decide_eq_false (by omega)
      rw [this, fitsB, if_neg h, if_neg h3]
set_option maxHeartbeats 400000 in
theorem istype_any (t : Int) (w : World) : Calls Try.prog 34 #[.int .i64 t] w fun e w' => e = .returned (.bool (upB 3 t)) ∧ Below w.heap.size w w' := by
  go_enter Try.func34, Try.ntmps34
  go_wp2_with (go_at_call 27; refine (fits_any t 0 _ _).mono ?_; rw [fits_zero]; rintro e w' ⟨rfl, hb⟩)
  go_ret
  exact ⟨rfl, hb⟩
/-- a schema in a block -/
def Sx (w : World) (b : Nat) (A : Option Addr) (N C : Nat) (k m g : Int) : Prop :=
  w.cell? ⟨b, 0, none⟩ = some (.slice A N C) ∧ w.cell? ⟨b, 1, none⟩ = some (.int .i64 k) ∧ w.cell? ⟨b, 2, none⟩ = some (.int .i64 m) ∧ w.cell? ⟨b, 3, none⟩ = some (.int .i64 g)
theorem Sx.new (w : World) (A : Option Addr) (N C : Nat) (k m g : Int) (t : TypeId) : Sx (w.alloc (.cells #[.slice A N C, .int .i64 k, .int .i64 m, .int .i64 g] t)) w.heap.size A N C k m g := ⟨by go_simp, by go_simp, by go_simp, by go_simp⟩
theorem Sx.lt {w : World} {b : Nat} {A : Option Addr} {N C : Nat} {k m g : Int} (h : Sx w b A N C k m g) : b < w.heap.size := cell_lt h.1
theorem Sx.below {w w' : World} {b : Nat} {A : Option Addr} {N C : Nat} {k m g : Int} (h : Sx w b A N C k m g) (hb : Below w.heap.size w w') : Sx w' b A N C k m g :=
  ⟨keepc h.1 hb, keepc h.2.1 hb, keepc h.2.2.1 hb, keepc h.2.2.2 hb⟩
theorem Sx.alloc {w : World} {b : Nat} {A : Option Addr} {N C : Nat} {k m g : Int} (h : Sx w b A N C k m g) (o : Obj) : Sx (w.alloc o) b A N C k m g :=
  ⟨cell_alloc w o h.1, cell_alloc w o h.2.1, cell_alloc w o h.2.2.1, cell_alloc w o h.2.2.2⟩
/-- what Check tells -/
def chkE (ts : List Int) (k m g : Int) : Int := if checkB ts k m g = true then 0 else 20
/-- the numbers of a schema may be, but for its types -/
def headB (N : Nat) (k m g : Int) : Bool := upB 64 N && upB N k && upB 3 m && upB 64 g
theorem chk_head {ts : List Int} {k m g : Int} (h : headB ts.length k m g = false) : chkE ts k m g = 20 := by
  have : checkB ts k m g = false := by
    refine decide_eq_false fun hh => ?_
    have : headB ts.length k m g = true := by
      simp only [headB, upB, Bool.and_eq_true, decide_eq_true_eq]
      omega
    rw [h] at this; cases this
  rw [chkE, this]; rfl
theorem chk_type {ts : List Int} {k m g : Int} {i : Nat} (hi : i < ts.length) (h : upB 3 (ts.getD i 0) = false) : chkE ts k m g = 20 := by
  have : checkB ts k m g = false := by
    refine decide_eq_false fun hh => upB_no h ?_
    apply hh.2.2.2.2.2.2.2.2
    simp [List.getD, hi]
  rw [chkE, this]; rfl
theorem chk_ok {ts : List Int} {k m g : Int} (h : headB ts.length k m g = true) (ht : ∀ i, i < ts.length → upB 3 (ts.getD i 0) = true) : chkE ts k m g = 0 := by
  have : checkB ts k m g = true := by
    simp only [headB, upB, Bool.and_eq_true, decide_eq_true_eq] at h
    refine decide_eq_true ⟨by omega, by omega, by omega, by omega, by omega, by omega, by omega, by omega, fun x hx => ?_⟩
    obtain ⟨i, hi, rfl⟩ := List.mem_iff_getElem.1 hx
    have := upB_yes (ht i hi)
    simpa [List.getD, hi] using this
  rw [chkE, this]; rfl
set_option maxHeartbeats 1000000 in
theorem check_any (A : Option Addr) (N C : Nat) (ts : List Int) (k m g : Int) (w : World) (hv : IV w A N ts) (hN : N ≤ maxLen) :
    Calls Try.prog 17 #[SS A N C k m g] w fun e w' => e = .returned (.int .i64 (chkE ts k m g)) ∧ Below w.heap.size w w' := by
  unfold maxLen at hN
  have hl := Lib.hid (IV.len hv)
  go_enter Try.func17, Try.ntmps17
  go_wp2_with fail
  refine (upto_any 64 N _).mono ?_
  rintro e w' ⟨rfl, rfl⟩
  have HH : Hid (headB N k m g = (upB 64 N && upB N k && upB 3 m && upB 64 g)) := Lib.hid rfl
  have no : headB N k m g = false → Below w.heap.size w (w.alloc (.cells #[.slice A N C, .int .i64 k, .int .i64 m, .int .i64 g] 24)) ∧ chkE ts k m g = 20 := fun h => ⟨Joins.below_alloc1 _ _, chk_head (by rw [hl.out]; exact h)⟩
  cases h1 : upB 64 (N : Int)
  · have no := Lib.hid (no (by rw [HH.out, h1]; rfl))
    go_wp2_with fail
    go_ret
    exact ⟨ret_int no.out.2.symm, no.out.1⟩
  · go_wp2_with fail
    refine (upto_any N k _).mono ?_
    rintro e w' ⟨rfl, rfl⟩
    cases h2 : upB (N : Int) k
    · have no := Lib.hid (no (by rw [HH.out, h2]; simp))
      go_wp2_with fail
      go_ret
      exact ⟨ret_int no.out.2.symm, no.out.1⟩
    · go_wp2_with fail
      refine (ismode_any m _).mono ?_
      rintro e w' ⟨rfl, rfl⟩
      cases h3 : upB 3 m
      · have no := Lib.hid (no (by rw [HH.out, h3]; simp))
        go_wp2_with fail
        go_ret
        exact ⟨ret_int no.out.2.symm, no.out.1⟩
      · go_wp2_with fail
        refine (upto_any 64 g _).mono ?_
        rintro e w' ⟨rfl, rfl⟩
        cases h4 : upB 64 g
        · have no := Lib.hid (no (by rw [HH.out, h4]; simp))
          go_wp2_with fail
          go_ret
          exact ⟨ret_int no.out.2.symm, no.out.1⟩
        · have yes : Hid (headB ts.length k m g = true) := Lib.hid (by rw [hl.out, HH.out, h1, h2, h3, h4]; rfl)
          clear no HH h1 h2 h3 h4
          go_wp2_with fail
          go_loopw [34] (fun i wr => ∃ j : Nat, j ≤ N ∧ i = .int .i64 (j : Int) ∧ Hid (∀ i, i < j → upB 3 (ts.getD i 0) = true) ∧ Below w.heap.size w wr) (fun i _ => N - (intOf i).toNat)
          case atStart => exact ⟨0, by omega, rfl, Lib.hid (fun i hi => by omega), Joins.below_alloc1 _ _⟩
          case round =>
            obtain ⟨j, hj, rfl, HT, hbel⟩ := hrel
            by_cases hlt : j < N
            · obtain ⟨b, off, rfl, hc⟩ := IV.at hv j hlt
              have hc' := keepc hc hbel
              generalize hx : ts.getD j 0 = x at hc'
              have HX := Lib.hid hx
              clear hx hc
              go_wp2_with fail
              refine (istype_any x _).mono ?_
              rintro e w1 ⟨rfl, hb1⟩
              have hb' := Below.then hbel hb1
              clear hb1 hc' hbel
              cases h5 : upB 3 x
              · have no := Lib.hid (chk_type (k := k) (m := m) (g := g) (ts := ts) (i := j) (by rw [hl.out]; exact hlt) (by rw [HX.out]; exact h5))
                go_wp2_with fail
                go_ret
                exact ⟨ret_int no.out.symm, hb'⟩
              · have HT' : Hid (∀ i, i < j + 1 → upB 3 (ts.getD i 0) = true) := Lib.hid (fun i hi => by
                  by_cases hij : i < j
                  · exact HT.out i hij
                  · obtain rfl : i = j := by omega
                    rw [HX.out]; exact h5)
                go_wp2_with fail
                go_roundw
                case rel => exact ⟨j + 1, by omega, by go_num, HT', hb'⟩
                case measure => simp [intOf]; omega
            · obtain rfl : j = N := by omega
              have ok := Lib.hid (chk_ok (ts := ts) yes.out (fun i hi => HT.out i (by rw [← hl.out]; exact hi)))
              go_wp2_with fail
              go_ret
              exact ⟨ret_int ok.out.symm, hbel⟩
end Go.Proofs.Ytllgnafbemmcaaa
