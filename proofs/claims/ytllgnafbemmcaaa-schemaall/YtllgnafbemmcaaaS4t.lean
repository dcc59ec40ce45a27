/- How the statements' arguments come in: shapes, rows, arrays of rows, bytes. -/
import Derived.Test.YtllgnafbemmcaaaRows
import Derived.Test.YtllgnafbemmcaaaS4i
import Derived.Test.YtllgnafbemmcaaaS4q
import Derived.ProofKit
import Derived.OpenShut
import Derived.Below
namespace Go.Proofs.Ytllgnafbemmcaaa
open Go.ChangeShapes Go.WideShapes Go.ChangeAt Go.RowKit
set_option linter.unusedVariables false

theorem own : ownKnob Try.prog.godebug = none := by kernel_rfl
theorem laidOut : laidOutB Try.prog = true := by kernel_rfl
theorem okWide_array {P : Program} {w : World} {r : Reach} {base : Nat} {t e : TypeId} {n : Nat} {v : Value} (ht : P.underlying t = some (.array n e)) (h : Value.okWide P w r base t v) : ∃ cs, v = .agg cs ∧ cs.size = P.cellsOf t := by
  simp only [Value.okWide, ht] at h
  obtain ⟨cs, h1, h2, _⟩ := h
  exact ⟨cs, h1, h2⟩
theorem some_at {α : Type} {xs : List α} {n i : Nat} (h : xs.length = n) (hi : i < n) : ∃ x, xs[i]? = some x := ⟨xs[i], by rw [List.getElem?_eq_getElem]⟩
section
variable {H : Type} {enc : TypeId × Value → H} {w : World} {base fuel : Nat} {spare : Nat → Bool} {held : Bool}
theorem u8_of {c : Value} {x : Option (DataW H × List MemPlace)} {y : DataW H × List MemPlace} (h : DataW.trod enc Try.prog w base spare held fuel 5 [c] = x) (hx : x = some y) : ∃ z : Int, c = .int .u8 z ∧ 0 ≤ z ∧ z ≤ 255 := by
  rw [hx] at h
  obtain ⟨z, hz, _, wz⟩ := DataW.trod_int Try.underlying5 h
  have := bounds_u8 wz
  exact ⟨z, by simpa using hz, this.1, this.2⟩
/-- a shape that came in -/
theorem open_shape {r : Reach} {b0 : Nat} {v : Value} {d : DataW H} {p : List MemPlace} (hv : Value.okWide Try.prog w r b0 43 v) (h : DataW.Trod enc Try.prog w base spare held 43 v d p) :
    ∃ l0 l1 l2 l3 l4 l5 l6 l7 n keys mode grain : Int, v = ShV l0 l1 l2 l3 l4 l5 l6 l7 n keys mode grain ∧ ShW l0 l1 l2 l3 l4 l5 l6 l7 n keys mode grain := by
  obtain ⟨cs, rfl, hsz⟩ := okWide_struct Try.underlying43 hv
  obtain ⟨fuel, hf⟩ := h
  have hl : cs.toList.length = 12 := by rw [Array.length_toList, hsz]; kernel_rfl
  have hf' : DataW.trod enc Try.prog w base spare held fuel 43 cs.toList = some (d, p) := by simpa [Value.cells] using hf
  obtain ⟨xs, n, _, -, -, hlen, hfl⟩ := DataW.trod_struct Try.underlying43 hf'
  have c8 : Try.prog.cellsOf 41 = 8 := by kernel_rfl
  have c1 : Try.prog.cellsOf 5 = 1 := by kernel_rfl
  obtain ⟨cs⟩ := cs
  match cs, hl with
  | [q0, q1, q2, q3, q4, q5, q6, q7, q8, q9, q10, q11], _ =>
    have e0 := hfl 0 _ rfl
    have e1 := hfl 1 _ rfl
    have e2 := hfl 2 _ rfl
    have e3 := hfl 3 _ rfl
    have e4 := hfl 4 _ rfl
    obtain ⟨y0, g0⟩ := some_at (i := 0) hlen (by decide)
    obtain ⟨y1, g1⟩ := some_at (i := 1) hlen (by decide)
    obtain ⟨y2, g2⟩ := some_at (i := 2) hlen (by decide)
    obtain ⟨y3, g3⟩ := some_at (i := 3) hlen (by decide)
    obtain ⟨y4, g4⟩ := some_at (i := 4) hlen (by decide)
    rw [g0] at e0
    obtain ⟨zs, m1, rfl, -, -, hn3, hel⟩ := DataW.trod_array Try.underlying41 e0
    rw [c1] at hel
    have a0 := hel 0 (by decide)
    have a1 := hel 1 (by decide)
    have a2 := hel 2 (by decide)
    have a3 := hel 3 (by decide)
    have a4 := hel 4 (by decide)
    have a5 := hel 5 (by decide)
    have a6 := hel 6 (by decide)
    have a7 := hel 7 (by decide)
    obtain ⟨z0, k0⟩ := some_at (i := 0) hn3 (by decide)
    obtain ⟨z1, k1⟩ := some_at (i := 1) hn3 (by decide)
    obtain ⟨z2, k2⟩ := some_at (i := 2) hn3 (by decide)
    obtain ⟨z3, k3⟩ := some_at (i := 3) hn3 (by decide)
    obtain ⟨z4, k4⟩ := some_at (i := 4) hn3 (by decide)
    obtain ⟨z5, k5⟩ := some_at (i := 5) hn3 (by decide)
    obtain ⟨z6, k6⟩ := some_at (i := 6) hn3 (by decide)
    obtain ⟨z7, k7⟩ := some_at (i := 7) hn3 (by decide)
    obtain ⟨l0, rfl, r0, s0⟩ := u8_of (c := q0) a0 k0
    obtain ⟨l1, rfl, r1, s1⟩ := u8_of (c := q1) a1 k1
    obtain ⟨l2, rfl, r2, s2⟩ := u8_of (c := q2) a2 k2
    obtain ⟨l3, rfl, r3, s3⟩ := u8_of (c := q3) a3 k3
    obtain ⟨l4, rfl, r4, s4⟩ := u8_of (c := q4) a4 k4
    obtain ⟨l5, rfl, r5, s5⟩ := u8_of (c := q5) a5 k5
    obtain ⟨l6, rfl, r6, s6⟩ := u8_of (c := q6) a6 k6
    obtain ⟨l7, rfl, r7, s7⟩ := u8_of (c := q7) a7 k7
    obtain ⟨n1, rfl, v1, w1⟩ := u8_of (c := q8) e1 g1
    obtain ⟨n2, rfl, v2, w2⟩ := u8_of (c := q9) e2 g2
    obtain ⟨n3, rfl, v3, w3⟩ := u8_of (c := q10) e3 g3
    obtain ⟨n4, rfl, v4, w4⟩ := u8_of (c := q11) e4 g4
    refine ⟨l0, l1, l2, l3, l4, l5, l6, l7, n1, n2, n3, n4, rfl, ?_, ⟨v1, w1⟩, ⟨v2, w2⟩, ⟨v3, w3⟩, ⟨v4, w4⟩⟩
    intro x hx
    simp only [List.mem_cons, List.not_mem_nil, or_false] at hx
    rcases hx with rfl | rfl | rfl | rfl | rfl | rfl | rfl | rfl <;> omega
/-- a row that came in, by its cells -/
theorem row_of {cs : List Value} {x : DataW H × List MemPlace} (h : DataW.trod enc Try.prog w base spare held fuel 30 cs = some x) :
    ∃ (A : Option Addr) (n c : Nat) (vs : List (Int × ByteArray)), cs = [.slice A n c] ∧ WV w A n vs ∧ n ≤ maxLen ∧ RgV vs := by
  obtain ⟨A, n, c, vs, hc, h1, h2, h3, h4, h5, h6⟩ := open_vals Try.underlying30 Try.underlying50 (by kernel_rfl) rfl rfl (by kernel_rfl) (by kernel_rfl) Try.underlying2 Try.underlying9 h
  exact ⟨A, n, c, vs, hc, h5, by omega, h4⟩
theorem open_row {r : Reach} {b0 : Nat} {v : Value} {d : DataW H} {p : List MemPlace} (hv : Value.okWide Try.prog w r b0 30 v) (h : DataW.Trod enc Try.prog w base spare held 30 v d p) :
    ∃ (A : Option Addr) (n c : Nat) (vs : List (Int × ByteArray)), v = .slice A n c ∧ WV w A n vs ∧ n ≤ maxLen ∧ RgV vs := by
  obtain ⟨a0, len0, cap0, rfl⟩ := okWide_slice Try.underlying30 hv
  obtain ⟨fuel, hf⟩ := h
  obtain ⟨A, n, c, vs, hc, h1, h2, h3⟩ := row_of (by simpa [Value.cells] using hf)
  simp only [List.cons.injEq, and_true] at hc
  exact ⟨A, n, c, vs, hc, h1, h2, h3⟩
theorem open_row2 {r : Reach} {b0 : Nat} {v : Value} {d : DataW H} {p : List MemPlace} (hv : Value.okWide Try.prog w r b0 55 v) (h : DataW.Trod enc Try.prog w base spare held 55 v d p) :
    ∃ (A : Option Addr) (n c : Nat) (vs : List (Int × ByteArray)) (B : Option Addr) (m e : Nat) (us : List (Int × ByteArray)), v = .agg (arr2 A n c B m e) ∧ (WV w A n vs ∧ n ≤ maxLen ∧ RgV vs) ∧ (WV w B m us ∧ m ≤ maxLen ∧ RgV us) := by
  obtain ⟨cs, rfl, hsz⟩ := okWide_array Try.underlying55 hv
  obtain ⟨fuel, hf⟩ := h
  have hl : cs.toList.length = 2 := by rw [Array.length_toList, hsz]; kernel_rfl
  have hf' : DataW.trod enc Try.prog w base spare held fuel 55 cs.toList = some (d, p) := by simpa [Value.cells] using hf
  obtain ⟨xs, m1, rfl, -, -, hn3, hel⟩ := DataW.trod_array Try.underlying55 hf'
  have c1 : Try.prog.cellsOf 30 = 1 := by kernel_rfl
  rw [c1] at hel
  obtain ⟨cs⟩ := cs
  match cs, hl with
  | [q0, q1], _ =>
    have a0 := hel 0 (by decide)
    have a1 := hel 1 (by decide)
    obtain ⟨z0, k0⟩ := some_at (i := 0) hn3 (by decide)
    obtain ⟨z1, k1⟩ := some_at (i := 1) hn3 (by decide)
    obtain ⟨A, n, c, vs, hc, h1⟩ := row_of (cs := [q0]) (a0.trans k0)
    obtain ⟨B, m, e, us, hc2, h2⟩ := row_of (cs := [q1]) (a1.trans k1)
    simp only [List.cons.injEq, and_true] at hc hc2
    exact ⟨A, n, c, vs, B, m, e, us, by rw [hc, hc2], h1, h2⟩
theorem open_row3 {r : Reach} {b0 : Nat} {v : Value} {d : DataW H} {p : List MemPlace} (hv : Value.okWide Try.prog w r b0 47 v) (h : DataW.Trod enc Try.prog w base spare held 47 v d p) :
    ∃ (A : Option Addr) (n c : Nat) (vs : List (Int × ByteArray)) (B : Option Addr) (m e : Nat) (us : List (Int × ByteArray)) (C : Option Addr) (k f : Nat) (xs : List (Int × ByteArray)), v = .agg (arr3 A n c B m e C k f) ∧ (WV w A n vs ∧ n ≤ maxLen ∧ RgV vs) ∧ (WV w B m us ∧ m ≤ maxLen ∧ RgV us) ∧ (WV w C k xs ∧ k ≤ maxLen ∧ RgV xs) := by
  obtain ⟨cs, rfl, hsz⟩ := okWide_array Try.underlying47 hv
  obtain ⟨fuel, hf⟩ := h
  have hl : cs.toList.length = 3 := by rw [Array.length_toList, hsz]; kernel_rfl
  have hf' : DataW.trod enc Try.prog w base spare held fuel 47 cs.toList = some (d, p) := by simpa [Value.cells] using hf
  obtain ⟨xs, m1, rfl, -, -, hn3, hel⟩ := DataW.trod_array Try.underlying47 hf'
  have c1 : Try.prog.cellsOf 30 = 1 := by kernel_rfl
  rw [c1] at hel
  obtain ⟨cs⟩ := cs
  match cs, hl with
  | [q0, q1, q2], _ =>
    have a0 := hel 0 (by decide)
    have a1 := hel 1 (by decide)
    have a2 := hel 2 (by decide)
    obtain ⟨z0, k0⟩ := some_at (i := 0) hn3 (by decide)
    obtain ⟨z1, k1⟩ := some_at (i := 1) hn3 (by decide)
    obtain ⟨z2, k2⟩ := some_at (i := 2) hn3 (by decide)
    obtain ⟨A, n, c, vs, hc, h1⟩ := row_of (cs := [q0]) (a0.trans k0)
    obtain ⟨B, m, e, us, hc2, h2⟩ := row_of (cs := [q1]) (a1.trans k1)
    obtain ⟨C, k, f, ys, hc3, h3⟩ := row_of (cs := [q2]) (a2.trans k2)
    simp only [List.cons.injEq, and_true] at hc hc2 hc3
    exact ⟨A, n, c, vs, B, m, e, us, C, k, f, ys, by rw [hc, hc2, hc3], h1, h2, h3⟩
theorem open_u8 {r : Reach} {b0 : Nat} {v : Value} {d : DataW H} {p : List MemPlace} (hv : Value.okWide Try.prog w r b0 5 v) (h : DataW.Trod enc Try.prog w base spare held 5 v d p) : ∃ a : Int, v = .int .u8 a ∧ (0 ≤ a ∧ a ≤ 255) := by
  obtain ⟨a, rfl, -, -, wa⟩ := open_int Try.underlying5 hv h
  exact ⟨a, rfl, bounds_u8 wa⟩
theorem open_u16 {r : Reach} {b0 : Nat} {v : Value} {d : DataW H} {p : List MemPlace} (hv : Value.okWide Try.prog w r b0 52 v) (h : DataW.Trod enc Try.prog w base spare held 52 v d p) : ∃ a : Int, v = .int .u16 a ∧ (0 ≤ a ∧ a ≤ 65535) := by
  obtain ⟨a, rfl, -, -, wa⟩ := open_int Try.underlying52 hv h
  exact ⟨a, rfl, bounds_u16 wa⟩
theorem open_bytes {r : Reach} {b0 : Nat} {v : Value} {d : DataW H} {p : List MemPlace} (hv : Value.okWide Try.prog w r b0 26 v) (h : DataW.Trod enc Try.prog w base (fun _ => true) held 26 v d p) :
    ∃ (A : Option Addr) (n c : Nat) (zs : List Int), v = .slice A n c ∧ BV w A n zs ∧ n ≤ c := by
  obtain ⟨a0, len0, cap0, rfl⟩ := okWide_slice Try.underlying26 hv
  obtain ⟨fuel, hf⟩ := h
  rcases open_ints Try.underlying26 Try.underlying5 (by kernel_rfl) hf with ⟨hcs, _⟩ | ⟨x, l, c, zs, hcs, _, hl, hm, hz, _, hcell, hwz⟩
  · simp [Value.cells] at hcs
    obtain ⟨rfl, rfl, rfl⟩ := hcs
    exact ⟨none, 0, 0, [], rfl, (bv_of (w := w) (a := none) (len := 0) (cap := 0) (zs := []) (.inl ⟨rfl, rfl, rfl, rfl⟩)).1, Nat.le_refl _⟩
  · simp [Value.cells] at hcs
    obtain ⟨rfl, rfl, rfl⟩ := hcs
    exact ⟨_, _, _, _, rfl, (bv_of (w := w) (a := some x) (zs := zs) (.inr ⟨x, rfl, hl, hm, by simpa using hz, hcell, hwz⟩)).1, hl⟩
end
end Go.Proofs.Ytllgnafbemmcaaa
