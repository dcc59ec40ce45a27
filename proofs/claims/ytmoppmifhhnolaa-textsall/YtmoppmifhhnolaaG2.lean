/- Rows of values that come in: a slice of structs of a number and a text, opened; slices of ints. -/
import Derived.Test.YtmoppmifhhnolaaG
import Derived.Deep.SlicePairs
import Derived.OpenShut
namespace Go.Proofs.Ytmoppmifhhnolaa
open Go.ChangeShapes Go.WideShapes Go.ChangeAt Go.RowKit
set_option linter.unusedVariables false

/-- the cells of some values -/
def vcells : List (Int × ByteArray) → List Value
  | [] => []
  | v :: l => .int .i64 v.1 :: .string v.2 :: vcells l
theorem vcells_len : ∀ l, (vcells l).length = l.length * 2
  | [] => rfl
  | v :: l => by rw [vcells, List.length_cons, List.length_cons, vcells_len l, List.length_cons]; omega
theorem vcells_app : ∀ a b, vcells (a ++ b) = vcells a ++ vcells b
  | [], b => rfl
  | v :: a, b => by rw [List.cons_append, vcells, vcells, vcells_app a b]; rfl
theorem vcells_one : ∀ l, ∀ u ∈ vcells l, u.oneCell' = true
  | [], u, hu => by cases hu
  | v :: l, u, hu => by
    rw [vcells] at hu
    rcases List.mem_cons.1 hu with rfl | hu
    · rfl
    · rcases List.mem_cons.1 hu with rfl | hu
      · rfl
      · exact vcells_one l u hu
theorem vcells_at : ∀ (l : List (Int × ByteArray)) (j : Nat), (vcells l)[2 * j]? = (l[j]?).map (fun v => Value.int .i64 v.1) ∧ (vcells l)[2 * j + 1]? = (l[j]?).map (fun v => Value.string v.2)
  | [], j => by simp [vcells]
  | v :: l, 0 => by simp [vcells]
  | v :: l, j + 1 => by
    have := vcells_at l j
    rw [vcells, show 2 * (j + 1) = 2 * j + 1 + 1 from by omega]
    simpa using this
/-- a value of a slice, in memory -/
theorem SV.value {w : World} {b off n : Nat} {vs : List (Int × ByteArray)} (h : SV 2 w (some ⟨b, off, none⟩) n (vcells vs)) (j : Nat) (hj : j < vs.length) :
    w.cell? ⟨b, off + 2 * j, none⟩ = some (.int .i64 (vs[j]).1) ∧ w.cell? ⟨b, off + (2 * j + 1), none⟩ = some (.string (vs[j]).2) := by
  obtain ⟨h1, h2, h3⟩ := h
  have hn : n ≠ 0 := by rw [vcells_len] at h1; omega
  rcases h3 with h3 | ⟨b', off', hb, hcell⟩
  · exact absurd h3 hn
  · cases hb
    have hat := vcells_at vs j
    rw [List.getElem?_eq_getElem hj] at hat
    exact ⟨hcell _ _ hat.1, hcell _ _ hat.2⟩
def numOf : Value → Int
  | .int _ z => z
  | _ => 0
def strOf : Value → ByteArray
  | .string s => s
  | _ => ⟨#[]⟩
section
variable {H : Type} {enc : TypeId × Value → H} {w : World} {base fuel : Nat} {spare : Nat → Bool} {held : Bool}
/-- a slice of values that came in -/
theorem open_vals {t e : TypeId} {f0 f1 : Field} {cs : List Value} {x : DataW H × List MemPlace} (ht : Try.prog.underlying t = some (.slice e)) (he : Try.prog.underlying e = some (.struct #[f0, f1]))
    (ce : Try.prog.cellsOf e = 2) (o0 : f0.offset = 0) (o1 : f1.offset = 1) (c0 : Try.prog.cellsOf f0.type = 1) (c1 : Try.prog.cellsOf f1.type = 1) (u0 : Try.prog.underlying f0.type = some (.int .i64)) (u1 : Try.prog.underlying f1.type = some .string)
    (h : DataW.trod enc Try.prog w base spare held fuel t cs = some x) :
    ∃ (a : Option Addr) (len cap : Nat) (vs : List (Int × ByteArray)), cs = [.slice a len cap] ∧ len ≤ cap ∧ cap ≤ maxLen ∧ vs.length = len ∧ (∀ v ∈ vs, -9223372036854775808 ≤ v.1 ∧ v.1 ≤ 9223372036854775807) ∧ SV 2 w a len (vcells vs) ∧ (a = none → cap = 0) := by
  rcases Go.Deep.open_slice_pairs ht he ce o0 o1 c0 c1 h with ⟨rfl, _⟩ | ⟨a, len, cap, m, n, V0, V1, D0, D1, P0, P1, rfl, hb, hl, hm, hmm, _, hx⟩
  · exact ⟨none, 0, 0, [], rfl, Nat.le_refl _, Nat.zero_le _, rfl, by simp, SV.zero _ _, fun _ => rfl⟩
  · have hlm : len ≤ m := by rw [hmm]; split <;> omega
    have each : ∀ i, i < len → w.cell? (a.add (i * 2)) = some (.int .i64 (numOf (V0 i))) ∧ w.cell? (a.add (i * 2 + 1)) = some (.string (strOf (V1 i))) ∧ (-9223372036854775808 ≤ numOf (V0 i) ∧ numOf (V0 i) ≤ 9223372036854775807) := by
      intro i hi
      obtain ⟨h1, h2, h3, h4⟩ := hx i (by omega)
      obtain ⟨z, hz, _, wz⟩ := DataW.trod_int u0 h3
      obtain ⟨s, hs, _, _⟩ := DataW.trod_string u1 h4
      simp only [List.cons.injEq, and_true] at hz hs
      rw [h1, h2, hz, hs]
      exact ⟨rfl, rfl, bounds_i64 wz⟩
    refine ⟨some a, len, cap, (List.range len).map fun i => (numOf (V0 i), strOf (V1 i)), rfl, hl, hm, by simp, ?_, ⟨?_, vcells_one _, ?_⟩, fun h => by cases h⟩
    · intro v hv
      obtain ⟨i, hi, rfl⟩ := List.mem_map.1 hv
      exact (each i (List.mem_range.1 hi)).2.2
    · rw [vcells_len]; simp
    · by_cases h0 : len = 0
      · exact .inl h0
      · obtain ⟨b, off, spot⟩ := a
        have hspot : spot = none := by
          have hc := (each 0 (by omega)).1
          simpa [Addr.add] using World.cell?_spot hc
        subst hspot
        refine .inr ⟨b, off, rfl, fun i u hi => ?_⟩
        have hil : i < (vcells ((List.range len).map fun i => (numOf (V0 i), strOf (V1 i)))).length := by
          rcases Nat.lt_or_ge i (vcells ((List.range len).map fun i => (numOf (V0 i), strOf (V1 i)))).length with h | h
          · exact h
          · rw [List.getElem?_eq_none h] at hi; cases hi
        rw [vcells_len] at hil
        simp at hil
        obtain ⟨j, hj2⟩ : ∃ j, i = 2 * j ∨ i = 2 * j + 1 := ⟨i / 2, by omega⟩
        have hat := vcells_at ((List.range len).map fun i => (numOf (V0 i), strOf (V1 i))) j
        have hj : j < len := by omega
        have e1 : ((List.range len).map fun i => (numOf (V0 i), strOf (V1 i)))[j]? = some (numOf (V0 j), strOf (V1 j)) := by simp [hj]
        rw [e1] at hat
        have ha : ∀ j, (⟨b, off, none⟩ : Addr).add j = ⟨b, off + j, none⟩ := by intro j; unfold Addr.add; split <;> simp_all
        obtain ⟨q1, q2, _⟩ := each j hj
        rw [ha] at q1 q2
        rcases hj2 with rfl | rfl
        · rw [hat.1] at hi
          simp only [Option.map_some, Option.some.injEq] at hi
          rw [← hi, Nat.mul_comm 2 j]
          exact q1
        · rw [hat.2] at hi
          simp only [Option.map_some, Option.some.injEq] at hi
          rw [← hi, Nat.mul_comm 2 j]
          exact q2
end
end Go.Proofs.Ytmoppmifhhnolaa
