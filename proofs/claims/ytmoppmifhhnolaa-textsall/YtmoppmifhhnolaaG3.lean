/- Lists of rows that come in: a slice of slices of values, opened; slices of ints, opened. -/
import Derived.Test.YtmoppmifhhnolaaG2
namespace Go.Proofs.Ytmoppmifhhnolaa
open Go.ChangeShapes Go.WideShapes Go.ChangeAt Go.RowKit
set_option linter.unusedVariables false

/-- the cell v is a slice of the values vs -/
def RowAt (w : World) (v : Value) (vs : List (Int × ByteArray)) : Prop :=
  ∃ A L C, v = .slice A L C ∧ L ≤ C ∧ C ≤ maxLen ∧ vs.length = L ∧ SV 2 w A L (vcells vs) ∧ (A = none → C = 0)
theorem RowAt.mono {w w' : World} {v : Value} {vs : List (Int × ByteArray)} (h : RowAt w v vs) (hc : ∀ b o v, w.cell? ⟨b, o, none⟩ = some v → w'.cell? ⟨b, o, none⟩ = some v) : RowAt w' v vs := by
  obtain ⟨A, L, C, h1, h2, h3, h4, h5, h6⟩ := h
  exact ⟨A, L, C, h1, h2, h3, h4, h5.mono hc, h6⟩
theorem RowAt.below {w w' : World} {v : Value} {vs : List (Int × ByteArray)} (h : RowAt w v vs) (hb : Below w.heap.size w w') : RowAt w' v vs :=
  h.mono fun b o v hc => by rw [hb.cell (p := ⟨b, o, none⟩) (cell_lt hc)]; exact hc
/-- the slice at a of n rows holds the rows vss -/
def RVs (w : World) (a : Option Addr) (n : Nat) (vss : List (List (Int × ByteArray))) : Prop :=
  vss.length = n ∧ (n = 0 ∨ ∃ b off, a = some ⟨b, off, none⟩ ∧ ∀ i, i < n → ∃ v, w.cell? ⟨b, off + i, none⟩ = some v ∧ RowAt w v (vss.getD i []))
theorem RVs.mono {w w' : World} {a : Option Addr} {n : Nat} {vss : List (List (Int × ByteArray))} (h : RVs w a n vss) (hc : ∀ b o v, w.cell? ⟨b, o, none⟩ = some v → w'.cell? ⟨b, o, none⟩ = some v) : RVs w' a n vss := by
  obtain ⟨h1, h2⟩ := h
  refine ⟨h1, ?_⟩
  rcases h2 with h2 | ⟨b, off, rfl, hr⟩
  · exact .inl h2
  · exact .inr ⟨b, off, rfl, fun i hi => by obtain ⟨v, e1, e2⟩ := hr i hi; exact ⟨v, hc _ _ _ e1, e2.mono hc⟩⟩
theorem RVs.below {w w' : World} {a : Option Addr} {n : Nat} {vss : List (List (Int × ByteArray))} (h : RVs w a n vss) (hb : Below w.heap.size w w') : RVs w' a n vss :=
  h.mono fun b o v hc => by rw [hb.cell (p := ⟨b, o, none⟩) (cell_lt hc)]; exact hc
theorem RVs.alloc {w : World} {a : Option Addr} {n : Nat} {vss : List (List (Int × ByteArray))} (h : RVs w a n vss) (o : Obj) : RVs (w.alloc o) a n vss := h.mono fun _ _ _ hc => cell_alloc w o hc
/-- the cells of some ints -/
def icells (l : List Int) : List Value := l.map (Value.int .i64)
theorem icells_one (l : List Int) : ∀ u ∈ icells l, u.oneCell' = true := by
  intro u hu
  obtain ⟨z, _, rfl⟩ := List.mem_map.1 hu
  rfl
abbrev Rgs (l : List Int) : Prop := ∀ z ∈ l, -9223372036854775808 ≤ z ∧ z ≤ 9223372036854775807
section
variable {H : Type} {enc : TypeId × Value → H} {w : World} {base fuel : Nat} {spare : Nat → Bool} {held : Bool}
theorem spot_none {a : Addr} {v : Value} (h : w.cell? (a.add 0) = some v) : a.spot = none := by
  obtain ⟨b, off, spot⟩ := a
  simpa [Addr.add] using World.cell?_spot h
/-- a slice of ints that came in -/
theorem open_intsS {t e : TypeId} {cs : List Value} {x : DataW H × List MemPlace} (ht : Try.prog.underlying t = some (.slice e)) (hc : Try.prog.cellsOf e = 1) (he : Try.prog.underlying e = some (.int .i64))
    (h : DataW.trod enc Try.prog w base spare held fuel t cs = some x) :
    ∃ (a : Option Addr) (len cap : Nat) (zs : List Int), cs = [.slice a len cap] ∧ len ≤ cap ∧ cap ≤ maxLen ∧ zs.length = len ∧ Rgs zs ∧ SV 1 w a len (icells zs) ∧ (a = none → cap = 0) := by
  rcases Go.Deep.open_slice1 ht hc h with ⟨rfl, _⟩ | ⟨a, len, cap, m, n, V, D, Pl, rfl, hb, hl, hm, hmm, _, hx⟩
  · exact ⟨none, 0, 0, [], rfl, Nat.le_refl _, Nat.zero_le _, rfl, (fun z hz => by cases hz), SV.zero _ _, fun _ => rfl⟩
  · have hlm : len ≤ m := by rw [hmm]; split <;> omega
    have each : ∀ i, i < len → w.cell? (a.add i) = some (.int .i64 (numOf (V i))) ∧ (-9223372036854775808 ≤ numOf (V i) ∧ numOf (V i) ≤ 9223372036854775807) := by
      intro i hi
      obtain ⟨h1, h2⟩ := hx i (by omega)
      obtain ⟨z, hz, _, wz⟩ := DataW.trod_int he h2
      simp only [List.cons.injEq, and_true] at hz
      rw [h1, hz]
      exact ⟨rfl, bounds_i64 wz⟩
    refine ⟨some a, len, cap, (List.range len).map fun i => numOf (V i), rfl, hl, hm, by simp, ?_, ⟨by simp [icells], icells_one _, ?_⟩, fun h => by cases h⟩
    · intro v hv
      obtain ⟨i, hi, rfl⟩ := List.mem_map.1 hv
      exact (each i (List.mem_range.1 hi)).2
    · by_cases h0 : len = 0
      · exact .inl h0
      · have hs := spot_none (each 0 (by omega)).1
        obtain ⟨b, off, spot⟩ := a
        have hs' : spot = none := hs
        subst hs'
        refine .inr ⟨b, off, rfl, fun i u hi => ?_⟩
        have hil : i < len := by
          rcases Nat.lt_or_ge i len with h | h
          · exact h
          · rw [List.getElem?_eq_none (by simpa [icells] using h)] at hi; cases hi
        have ha : ∀ j, (⟨b, off, none⟩ : Addr).add j = ⟨b, off + j, none⟩ := by intro j; unfold Addr.add; split <;> simp_all
        have q := (each i hil).1
        rw [ha] at q
        simp [icells, hil] at hi
        rw [q, ← hi]
/-- a slice of rows that came in -/
theorem open_rows {t r e : TypeId} {f0 f1 : Field} {cs : List Value} {x : DataW H × List MemPlace} (ht : Try.prog.underlying t = some (.slice r)) (hr : Try.prog.cellsOf r = 1) (hre : Try.prog.underlying r = some (.slice e)) (he : Try.prog.underlying e = some (.struct #[f0, f1]))
    (ce : Try.prog.cellsOf e = 2) (o0 : f0.offset = 0) (o1 : f1.offset = 1) (c0 : Try.prog.cellsOf f0.type = 1) (c1 : Try.prog.cellsOf f1.type = 1) (u0 : Try.prog.underlying f0.type = some (.int .i64)) (u1 : Try.prog.underlying f1.type = some .string)
    (h : DataW.trod enc Try.prog w base spare held fuel t cs = some x) :
    ∃ (a : Option Addr) (len cap : Nat) (vss : List (List (Int × ByteArray))), cs = [.slice a len cap] ∧ len ≤ cap ∧ cap ≤ maxLen ∧ (∀ vs ∈ vss, ∀ v ∈ vs, -9223372036854775808 ≤ v.1 ∧ v.1 ≤ 9223372036854775807) ∧ RVs w a len vss ∧ (a = none → cap = 0) := by
  rcases Go.Deep.open_slice1 ht hr h with ⟨rfl, _⟩ | ⟨a, len, cap, m, n, V, D, Pl, rfl, hb, hl, hm, hmm, _, hx⟩
  · exact ⟨none, 0, 0, [], rfl, Nat.le_refl _, Nat.zero_le _, by simp, ⟨rfl, .inl rfl⟩, fun _ => rfl⟩
  · have hlm : len ≤ m := by rw [hmm]; split <;> omega
    have each : ∀ i, i < len → ∃ vs : List (Int × ByteArray), (w.cell? (a.add i) = some (V i) ∧ RowAt w (V i) vs) ∧ ∀ v ∈ vs, -9223372036854775808 ≤ v.1 ∧ v.1 ≤ 9223372036854775807 := by
      intro i hi
      obtain ⟨h1, h2⟩ := hx i (by omega)
      obtain ⟨A, L, C, vs, hv, q1, q2, q3, q4, q5, q6⟩ := open_vals hre he ce o0 o1 c0 c1 u0 u1 h2
      simp only [List.cons.injEq, and_true] at hv
      exact ⟨vs, ⟨h1, A, L, C, hv, q1, q2, q3, q5, q6⟩, q4⟩
    obtain ⟨F, hF⟩ := Go.Deep.choose_lt (α := List (Int × ByteArray)) (p := fun i vs => (w.cell? (a.add i) = some (V i) ∧ RowAt w (V i) vs) ∧ ∀ v ∈ vs, -9223372036854775808 ≤ v.1 ∧ v.1 ≤ 9223372036854775807) each
    refine ⟨some a, len, cap, (List.range len).map F, rfl, hl, hm, ?_, ⟨by simp, ?_⟩, fun h => by cases h⟩
    · intro vs hv
      obtain ⟨i, hi, rfl⟩ := List.mem_map.1 hv
      exact (hF i (List.mem_range.1 hi)).2
    · by_cases h0 : len = 0
      · exact .inl h0
      · have hs := spot_none (hF 0 (by omega)).1.1
        obtain ⟨b, off, spot⟩ := a
        have hs' : spot = none := hs
        subst hs'
        refine .inr ⟨b, off, rfl, fun i hi => ⟨V i, ?_, ?_⟩⟩
        · have ha : (⟨b, off, none⟩ : Addr).add i = ⟨b, off + i, none⟩ := by unfold Addr.add; split <;> simp_all
          rw [← ha]; exact (hF i hi).1.1
        · have e : ((List.range len).map F).getD i [] = F i := by simp [hi]
          rw [e]; exact (hF i hi).1.2
end
end Go.Proofs.Ytmoppmifhhnolaa
