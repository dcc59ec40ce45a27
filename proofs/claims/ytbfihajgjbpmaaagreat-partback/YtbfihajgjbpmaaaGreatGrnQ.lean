/- Texts that belong together, one behind the other: QAq. -/
import Derived.Test.YtbfihajgjbpmaaaGreatGrnA
import Derived.Test.YtbfihajgjbpmaaaGreatOrdK
import Derived.Test.YtbfihajgjbpmaaaGreatOrdF
/- Marks of rows in order: they are in order, and each granule's rows lie between its mark and the next; the document's Sorted of any rows. -/
namespace Go.Proofs.YtbfihajgjbpmaaaGreat
open Go.ChangeShapes Go.WideShapes Go.ChangeAt Go.RowKit
set_option linter.unusedVariables false
set_option maxRecDepth 4000

/-- what a key tells, whether it is cut or not -/
theorem cR_cuts (ts : List Int) (K : Nat) (a b : RowV) : cR (ts.take K) (a.take K) (b.take K) = cR (ts.take K) a b := by
  unfold cR
  exact cmpRow_cut _ _ _ _ _ (by rw [List.length_take]; omega) (by rw [List.length_take]; omega)
theorem cR_cut2 (ts : List Int) (K : Nat) (a b : RowV) : cR (ts.take K) a (b.take K) = cR (ts.take K) a b := by
  rw [cR_key, Nat.min_self]
theorem cR_in {ts : List Int} {K : Nat} {l : List RowV} (hl : InA (cN ts K) l) (hF : ∀ v ∈ l, FR ts v) (ht : Ty ts) {x y : Nat} (hxy : x ≤ y) (hy : y < l.length) : cR (ts.take K) (l.getD x []) (l.getD y []) ≤ 0 := by
  rw [← cN_ok K (fr_at hF (by omega)) (fr_at hF hy)]
  by_cases e : x = y
  · subst e
    have := (cN_ord ht K).neg (l.getD x []) (l.getD x [])
    omega
  · exact inA_at (d := ([] : RowV)) hl (by omega) hy
theorem cR_up {ts : List Int} {K : Nat} {l : List RowV} (hl : InA (cN ts K) l) (hF : ∀ v ∈ l, FR ts v) (ht : Ty ts) {x y : Nat} (hxy : x ≤ y) (hy : y < l.length) : 0 ≤ cR (ts.take K) (l.getD y []) (l.getD x []) := by
  have h := cR_in hl hF ht hxy hy
  rw [← cN_ok K (fr_at hF (by omega)) (fr_at hF hy)] at h
  rw [← cN_ok K (fr_at hF hy) (fr_at hF (by omega))]
  have := (cN_ord ht K).neg (l.getD x []) (l.getD y [])
  omega
/-- marks are in order -/
theorem marks_sorted {ts : List Int} {K G : Nat} {l : List RowV} (hG : 0 < G) (hl : InA (cN ts K) l) (hF : ∀ v ∈ l, FR ts v) (ht : Ty ts) : srtB (cR (ts.take K)) [] (marksL G K l) = true := by
  refine decide_eq_true (fun i hi => ?_)
  rw [marksL_len] at hi
  rw [marksL_at (by omega), marksL_at (by omega), cR_cuts]
  have h1 := (cnt_lt (n := l.length) hG).1 (show i + 1 < cntG G l.length by omega)
  exact cR_in hl hF ht (by rw [Nat.add_mul, Nat.one_mul]; omega) h1
/-- a granule's rows are not below its mark, nor above the next one -/
theorem marks_between {ts : List Int} {K G : Nat} {l : List RowV} (hG : 0 < G) (hl : InA (cN ts K) l) (hF : ∀ v ∈ l, FR ts v) (ht : Ty ts) {i k : Nat} (hi : i < cntG G l.length) (hk : k < (granL G l i).length) :
    0 ≤ cR (ts.take K) ((granL G l i).getD k []) ((marksL G K l).getD i []) ∧ (i + 1 < cntG G l.length → cR (ts.take K) ((granL G l i).getD k []) ((marksL G K l).getD (i + 1) []) ≤ 0) := by
  have hg := gran_len G l i
  have h0 := (cnt_lt (n := l.length) hG).1 hi
  rw [gran_at [] (by omega), marksL_at hi, cR_cut2]
  refine ⟨cR_up hl hF ht (by omega) (by omega), fun h => ?_⟩
  rw [marksL_at h, cR_cut2]
  have h1 := (cnt_lt (n := l.length) hG).1 h
  exact cR_in hl hF ht (by rw [Nat.add_mul, Nat.one_mul]; omega) h1
end Go.Proofs.YtbfihajgjbpmaaaGreat
