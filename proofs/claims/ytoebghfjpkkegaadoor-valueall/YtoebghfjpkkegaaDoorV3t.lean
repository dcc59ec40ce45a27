/- What the row's listed variables give, and how values come in. -/
import Derived.Test.YtoebghfjpkkegaaDoorRows
import Derived.Test.YtoebghfjpkkegaaDoorV3d
import Derived.ProofKit
import Derived.OpenShut
import Derived.LaidMore
import Derived.Stop.Joined
import Derived.Stop.LaidErr
import Derived.SizedLaws
namespace Go.Proofs.YtoebghfjpkkegaaDoor
open Go.ChangeShapes Go.WideShapes Go.ChangeAt Go.RowKit
set_option linter.unusedVariables false

theorem own : ownKnob Tryd.prog.godebug = none := by kernel_rfl
theorem laidOut : laidOutB Tryd.prog = true := by kernel_rfl
abbrev laid3 : List (String × DataW Unit) := Rows.valueSumsRow.laid
abbrev laid5 : List (String × DataW Unit) := Rows.valueAllRow.laid
theorem door3 (os : Os) (args : Array Value) : laidMetH Tryd.prog laid3 ((World.doorLaid Tryd.prog 62 os).forCall (fun _ _ => 0) ⟨#[], args, []⟩).memory :=
  laidMetH_of_parts3 (fuel := 8) (laidMet_of_run' 8 (by kernel_rfl) (by kernel_rfl)) (by kernel_rfl) (by kernel_rfl)
theorem door5 (os : Os) (args : Array Value) : laidMetH Tryd.prog laid5 ((World.doorLaid Tryd.prog 62 os).forCall (fun _ _ => 0) ⟨#[], args, []⟩).memory :=
  laidMetH_of_parts3 (fuel := 8) (laidMet_of_run' 8 (by kernel_rfl) (by kernel_rfl)) (by kernel_rfl) (by kernel_rfl)
theorem tab_head {W : World} {r : List (String × DataW Unit)} (h : laidMet Tryd.prog ((tabName, Rows.laid_internal_strconv_uint64pow10) :: r) W) : Tab W :=
  Lib.tabIs_of_head (g := Go.Proofs.Tryd.laysM173_ren.g 17) (t := 82) (e := 44) (n := 20) (by kernel_rfl) (by kernel_rfl) (by kernel_rfl) (by kernel_rfl) (by kernel_rfl) (by kernel_rfl) h
theorem tab_of3 {W : World} (h : laidMetH Tryd.prog laid3 W) : Tab W := by
  rw [MakeChecks.laidMetH_plain _ _ _ (by kernel_rfl)] at h
  exact tab_head h.tail.tail
theorem tab_of5 {W : World} (h : laidMetH Tryd.prog laid5 W) : Tab W := by
  rw [MakeChecks.laidMetH_plain _ _ _ (by kernel_rfl)] at h
  exact tab_head h.tail.tail
theorem okWide_array {P : Program} {w : World} {r : Reach} {base : Nat} {t e : TypeId} {n : Nat} {v : Value} (ht : P.underlying t = some (.array n e)) (h : Value.okWide P w r base t v) : ∃ cs, v = .agg cs ∧ cs.size = P.cellsOf t := by
  simp only [Value.okWide, ht] at h
  obtain ⟨cs, h1, h2, _⟩ := h
  exact ⟨cs, h1, h2⟩
section
variable {H : Type} {enc : TypeId × Value → H} {w : World} {base fuel : Nat} {spare : Nat → Bool} {held : Bool}
/-- a value that came in -/
theorem open_val {cs : List Value} {x : DataW H × List MemPlace} (h : DataW.trod enc Tryd.prog w base spare held fuel 23 cs = some x) (hl : cs.length = 2) :
    ∃ (n : Int) (s : ByteArray), cs = [.int .i64 n, .string s] ∧ (-9223372036854775808 ≤ n ∧ n ≤ 9223372036854775807) := by
  obtain ⟨y0, y1, n, hx, _, h0, h1⟩ := trod_struct2 Tryd.underlying23 h
  match cs, hl with
  | [a, b], _ =>
    obtain ⟨z, hz, _, wz⟩ := DataW.trod_int Tryd.underlying2 h0
    obtain ⟨s, hs, _, _⟩ := DataW.trod_string Tryd.underlying9 h1
    refine ⟨z, s, ?_, ?_⟩
    · have c2 : Tryd.prog.cellsOf 2 = 1 := by kernel_rfl
      have c9 : Tryd.prog.cellsOf 9 = 1 := by kernel_rfl
      simp [c2] at hz
      simp [c9] at hs
      rw [hz, hs]
    · exact bounds_i64 wz
theorem open_one {r : Reach} {b0 : Nat} {v : Value} {d : DataW H} {p : List MemPlace} (hv : Value.okWide Tryd.prog w r b0 23 v) (h : DataW.Trod enc Tryd.prog w base spare held 23 v d p) :
    ∃ (n : Int) (s : ByteArray), v = .agg #[.int .i64 n, .string s] ∧ (-9223372036854775808 ≤ n ∧ n ≤ 9223372036854775807) := by
  obtain ⟨cs, rfl, hsz⟩ := okWide_struct Tryd.underlying23 hv
  obtain ⟨fuel, hf⟩ := h
  have hl : cs.toList.length = 2 := by rw [Array.length_toList, hsz]; kernel_rfl
  obtain ⟨n, s, hc, hn⟩ := open_val (by simpa [Value.cells] using hf) hl
  exact ⟨n, s, by congr 1; exact Array.ext' hc, hn⟩
theorem open_two {r : Reach} {b0 : Nat} {v : Value} {d : DataW H} {p : List MemPlace} (hv : Value.okWide Tryd.prog w r b0 24 v) (h : DataW.Trod enc Tryd.prog w base spare held 24 v d p) :
    ∃ (n : Int) (s : ByteArray) (m : Int) (t : ByteArray), v = .agg #[.int .i64 n, .string s, .int .i64 m, .string t] ∧ (-9223372036854775808 ≤ n ∧ n ≤ 9223372036854775807) ∧ (-9223372036854775808 ≤ m ∧ m ≤ 9223372036854775807) := by
  obtain ⟨cs, rfl, hsz⟩ := okWide_array Tryd.underlying24 hv
  obtain ⟨fuel, hf⟩ := h
  have hl : cs.toList.length = 4 := by rw [Array.length_toList, hsz]; kernel_rfl
  have hf' : DataW.trod enc Tryd.prog w base spare held fuel 24 cs.toList = some (d, p) := by simpa [Value.cells] using hf
  obtain ⟨xs, m1, rfl, hx1, _, hn3, hel⟩ := DataW.trod_array Tryd.underlying24 hf'
  have c : Tryd.prog.cellsOf 23 = 2 := by kernel_rfl
  obtain ⟨cs⟩ := cs
  match cs, hl with
  | [a, b, e, f], _ =>
    match xs, hn3 with
    | [x0, x1], _ =>
      have h0 := hel 0 (by decide)
      have h1 := hel 1 (by decide)
      rw [c] at h0 h1
      obtain ⟨n, s, hc, hn⟩ := open_val (show DataW.trod enc Tryd.prog w base spare held m1 23 [a, b] = some x0 from h0) rfl
      obtain ⟨m, t, hc2, hm⟩ := open_val (show DataW.trod enc Tryd.prog w base spare held m1 23 [e, f] = some x1 from h1) rfl
      simp only [List.cons.injEq, and_true] at hc hc2
      exact ⟨n, s, m, t, by rw [hc.1, hc.2, hc2.1, hc2.2], hn, hm⟩
theorem open_three {r : Reach} {b0 : Nat} {v : Value} {d : DataW H} {p : List MemPlace} (hv : Value.okWide Tryd.prog w r b0 35 v) (h : DataW.Trod enc Tryd.prog w base spare held 35 v d p) :
    ∃ (n : Int) (s : ByteArray) (m : Int) (t : ByteArray) (k : Int) (u : ByteArray), v = .agg #[.int .i64 n, .string s, .int .i64 m, .string t, .int .i64 k, .string u] ∧ (-9223372036854775808 ≤ n ∧ n ≤ 9223372036854775807) ∧ (-9223372036854775808 ≤ m ∧ m ≤ 9223372036854775807) ∧ (-9223372036854775808 ≤ k ∧ k ≤ 9223372036854775807) := by
  obtain ⟨cs, rfl, hsz⟩ := okWide_array Tryd.underlying35 hv
  obtain ⟨fuel, hf⟩ := h
  have hl : cs.toList.length = 6 := by rw [Array.length_toList, hsz]; kernel_rfl
  have hf' : DataW.trod enc Tryd.prog w base spare held fuel 35 cs.toList = some (d, p) := by simpa [Value.cells] using hf
  obtain ⟨xs, m1, rfl, hx1, _, hn3, hel⟩ := DataW.trod_array Tryd.underlying35 hf'
  have c : Tryd.prog.cellsOf 23 = 2 := by kernel_rfl
  obtain ⟨cs⟩ := cs
  match cs, hl with
  | [a, b, e, f, i, j], _ =>
    match xs, hn3 with
    | [x0, x1, x2], _ =>
      have h0 := hel 0 (by decide)
      have h1 := hel 1 (by decide)
      have h2 := hel 2 (by decide)
      rw [c] at h0 h1 h2
      obtain ⟨n, s, hc, hn⟩ := open_val (show DataW.trod enc Tryd.prog w base spare held m1 23 [a, b] = some x0 from h0) rfl
      obtain ⟨m, t, hc2, hm⟩ := open_val (show DataW.trod enc Tryd.prog w base spare held m1 23 [e, f] = some x1 from h1) rfl
      obtain ⟨k, u, hc3, hk⟩ := open_val (show DataW.trod enc Tryd.prog w base spare held m1 23 [i, j] = some x2 from h2) rfl
      simp only [List.cons.injEq, and_true] at hc hc2 hc3
      exact ⟨n, s, m, t, k, u, by rw [hc.1, hc.2, hc2.1, hc2.2, hc3.1, hc3.2], hn, hm, hk⟩
theorem open_pair {r : Reach} {b0 : Nat} {v : Value} {d : DataW H} {p : List MemPlace} (hv : Value.okWide Tryd.prog w r b0 40 v) (h : DataW.Trod enc Tryd.prog w base spare held 40 v d p) :
    ∃ (n m : Int), v = .agg #[.int .i64 n, .int .i64 m] ∧ (-9223372036854775808 ≤ n ∧ n ≤ 9223372036854775807) ∧ (-9223372036854775808 ≤ m ∧ m ≤ 9223372036854775807) := by
  obtain ⟨cs, rfl, hsz⟩ := okWide_array Tryd.underlying40 hv
  obtain ⟨fuel, hf⟩ := h
  have hl : cs.toList.length = 2 := by rw [Array.length_toList, hsz]; kernel_rfl
  have hf' : DataW.trod enc Tryd.prog w base spare held fuel 40 cs.toList = some (d, p) := by simpa [Value.cells] using hf
  obtain ⟨xs, m1, rfl, hx1, _, hn3, hel⟩ := DataW.trod_array Tryd.underlying40 hf'
  have c : Tryd.prog.cellsOf 2 = 1 := by kernel_rfl
  obtain ⟨cs⟩ := cs
  match cs, hl with
  | [a, b], _ =>
    match xs, hn3 with
    | [x0, x1], _ =>
      have h0 := hel 0 (by decide)
      have h1 := hel 1 (by decide)
      rw [c] at h0 h1
      obtain ⟨n, hc, _, hn⟩ := DataW.trod_int Tryd.underlying2 (show DataW.trod enc Tryd.prog w base spare held m1 2 [a] = some x0 from h0)
      obtain ⟨m, hc2, _, hm⟩ := DataW.trod_int Tryd.underlying2 (show DataW.trod enc Tryd.prog w base spare held m1 2 [b] = some x1 from h1)
      simp only [List.cons.injEq, and_true] at hc hc2
      exact ⟨n, m, by rw [hc, hc2], bounds_i64 hn, bounds_i64 hm⟩
end
end Go.Proofs.YtoebghfjpkkegaaDoor
