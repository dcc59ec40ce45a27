/- Texts that belong together, one behind the other: Q9x. -/
import Derived.Test.YtbfihajgjbpmaaaGreatOrdA
import Derived.Test.YtbfihajgjbpmaaaGreatBase
/- Cells of rows; rows made; whether rows are in order, one by one. -/
namespace Go.Proofs.YtbfihajgjbpmaaaGreat
open Go.ChangeShapes Go.WideShapes Go.ChangeAt Go.RowKit
set_option linter.unusedVariables false
set_option maxRecDepth 4000

/-- a row's cell -/
abbrev Rw := Option Addr × Nat × Nat
abbrev sV (q : Rw) : Value := .slice q.1 q.2.1 q.2.2
/-- the function that holds two rows against each other -/
abbrev FV (fp : Value) : Value := .func (.func 101) #[] #[fp]
theorem RVs.cells {w : World} {a : Option Addr} {n : Nat} {vss : List RowV} (h : RVs w a n vss) : ∃ e : Nat → Rw, ∀ i, i < n → (∃ b off, a = some ⟨b, off, none⟩ ∧ w.cell? ⟨b, off + i, none⟩ = some (sV (e i))) ∧ RowAt w (sV (e i)) (vss.getD i []) := by
  have : ∀ i, ∃ q : Rw, i < n → (∃ b off, a = some ⟨b, off, none⟩ ∧ w.cell? ⟨b, off + i, none⟩ = some (sV q)) ∧ RowAt w (sV q) (vss.getD i []) := fun i => by
    by_cases hi : i < n
    · obtain ⟨h1, h2⟩ := h
      rcases h2 with h2 | ⟨b, off, rfl, hr⟩
      · omega
      · obtain ⟨v, e1, e2⟩ := hr i hi
        obtain ⟨A, L, C, rfl, q⟩ := id e2
        exact ⟨(A, L, C), fun _ => ⟨⟨b, off, rfl, e1⟩, e2⟩⟩
    · exact ⟨(none, 0, 0), fun h => absurd h hi⟩
  exact ⟨fun i => (this i).choose, fun i => (this i).choose_spec⟩
theorem madeCells_row (n : Nat) : madeCells #[Value.slice none 0 0] n = (List.replicate n (Value.slice none 0 0)).toArray := by
  refine Array.ext' ?_
  simp [madeCells]
  refine List.ext_getElem (by simp) (fun i h1 h2 => ?_)
  simp [Nat.mod_one]
theorem make_rows (N : Nat) (h : N ≤ 1000000) (w : World) : (Instr.makeSlice 25 (.int .i64 (N : Int)) (.int .i64 (N : Int))).run Tryz.prog w = .ok (.slice (some ⟨w.heap.size, 0, none⟩) N N) (w.alloc (.cells (List.replicate N (Value.slice none 0 0)).toArray 46)) := by
  have := run_make_row' (P := Tryz.prog) 25 46 (.slice none 0 0) 24 Tryz.underlying25 (by kernel_rfl) rfl .i64 .i64 N (by omega) (by omega) w
  rw [madeCells_row] at this
  exact this
theorem fr_at {ts : List Int} {vss : List RowV} (hF : ∀ v ∈ vss, FR ts v) {i : Nat} (hi : i < vss.length) : FR ts (vss.getD i []) := by
  have e : vss.getD i [] = vss[i] := by simp [List.getD, hi]
  rw [e]; exact hF _ (List.getElem_mem _)
/-- so far none is above the next one -/
def SrtP (c : RowV → RowV → Int) (l : List RowV) (j : Nat) : Prop := ∀ i, j ≤ i → i < l.length - 1 → c (l.getD i []) (l.getD (i + 1) []) ≤ 0
theorem SrtP.all {c : RowV → RowV → Int} {l : List RowV} (h : SrtP c l 0) : srtB c [] l = true := decide_eq_true (fun i hi => h i (Nat.zero_le _) hi)
theorem SrtP.not {c : RowV → RowV → Int} {l : List RowV} {j : Nat} (h : 0 < c (l.getD j []) (l.getD (j + 1) [])) (hj : j < l.length - 1) : srtB c [] l = false := decide_eq_false (fun q => by have := q j hj; omega)
theorem SrtP.step {c : RowV → RowV → Int} {l : List RowV} {j : Nat} (h : SrtP c l (j + 1)) (h1 : c (l.getD j []) (l.getD (j + 1) []) ≤ 0) : SrtP c l j := fun i h2 h3 => by
  by_cases e : i = j
  · subst e; exact h1
  · exact h i (by omega) h3
end Go.Proofs.YtbfihajgjbpmaaaGreat
