/- Small facts used everywhere: steps of memory, one behind the other; cells that stay; PutVar's bytes as bytes of the call's own; bytes.Equal. -/
import Derived.Test.YtmoppmifhhnolaaK2
import Derived.Lib.SmallJoins
import Derived.Lib.Hide
namespace Go.Proofs.Ytmoppmifhhnolaa
open Go.ChangeShapes Go.WideShapes Go.ChangeAt Go.RowKit
set_option linter.unusedVariables false

theorem Below.then {w w' w2 : World} (h : Below w.heap.size w w') (k : Below w'.heap.size w' w2) : Below w.heap.size w w2 := h.trans (k.mono h.size)
theorem after1 {w w' : World} {o : Obj} (h : Below (w.alloc o).heap.size (w.alloc o) w') : Below w.heap.size w w' := (Joins.below_alloc1 w o).trans (h.mono (by simp))
theorem after2 {w w' : World} {o o2 : Obj} (h : Below ((w.alloc o).alloc o2).heap.size ((w.alloc o).alloc o2) w') : Below w.heap.size w w' := after1 (after1 h)
theorem after3 {w w' : World} {o o2 o3 : Obj} (h : Below (((w.alloc o).alloc o2).alloc o3).heap.size (((w.alloc o).alloc o2).alloc o3) w') : Below w.heap.size w w' := after1 (after2 h)
theorem keepc {w w' : World} {b i : Nat} {v : Value} (h : w.cell? ⟨b, i, none⟩ = some v) (hb : Below w.heap.size w w') : w'.cell? ⟨b, i, none⟩ = some v := by rw [hb.cell (p := ⟨b, i, none⟩) (cell_lt h)]; exact h
theorem keepo {w : World} {b i : Nat} {v : Value} (h : w.cell? ⟨b, i, none⟩ = some v) : ∀ o, (w.alloc o).cell? ⟨b, i, none⟩ = some v := fun o => cell_alloc w o h
theorem OW.pv (x : Int) (w : World) (base : Nat) (hb : base ≤ w.heap.size) (h0 : x < 18446744073709551616) (g : Nat) (hg : g = w.heap.size) : OW (w.alloc (pvObj x)) base (.slice (some ⟨g, 0, none⟩) (Go.Proofs.Ytmoppmifhhnolaa.pv x).length 10) (Go.Proofs.Ytmoppmifhhnolaa.pv x) := by
  subst hg
  have h10 := pv_len10 h0
  refine .inr ⟨w.heap.size, 10, _, 55, rfl, hb, heap_alloc_new _ _, h10, by unfold maxLen; omega, ?_, ?_⟩
  · simp [pre10]; omega
  · simp [pre10]
theorem str_beq {a b : List Int} (ha : ∀ z ∈ a, 0 ≤ z ∧ z ≤ 255) (hb : ∀ z ∈ b, 0 ≤ z ∧ z ≤ 255) : ((strOfNums a).toList == (strOfNums b).toList) = decide (a = b) := by
  rw [Bool.eq_iff_iff, beq_iff_eq, decide_eq_true_iff]
  exact ⟨fun h => strOfNums_inj ha hb (toList_inj h), fun h => by rw [h]⟩
set_option maxHeartbeats 400000 in
theorem equal_any (a b : Option Addr) (n m ca cb : Nat) (A B : List Int) (w : World) (hA : BV w a n A) (hB : BV w b m B) :
    Calls Try.prog 21 #[.slice a n ca, .slice b m cb] w fun e w' => e = .returned (.bool (decide (A = B))) ∧ w' = w := by
  have h1 := conv_any hA ca
  have h2 := conv_any hB cb
  have h3 := str_beq hA.2.1 hB.2.1
  clear hA hB
  go_enter Try.func21, Try.ntmps21
  go_wp2
  go_ret
  exact ⟨rfl, rfl⟩
theorem OW.shape {w : World} {base : Nat} {v : Value} {bs : List Int} (h : OW w base v bs) : ∃ a n c, v = .slice a n c := by
  rcases h with ⟨rfl, _⟩ | ⟨g, cap, cur, T, rfl, _⟩
  · exact ⟨_, _, _, rfl⟩
  · exact ⟨_, _, _, rfl⟩
theorem u64_same {x : Int} (h0 : 0 ≤ x) (h1 : x ≤ 9223372036854775807) : IntKind.u64.wrap x = x := by rw [IntKind.wrap_u64]; omega
end Go.Proofs.Ytmoppmifhhnolaa
