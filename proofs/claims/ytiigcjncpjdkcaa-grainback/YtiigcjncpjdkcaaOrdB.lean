/- Texts that belong together, one behind the other: Q9a, Q9b, Q9c. -/
import Derived.Test.YtiigcjncpjdkcaaOrdA
import Derived.Test.YtiigcjncpjdkcaaBase
import Derived.Test.YtiigcjncpjdkcaaSchB
import Derived.Great.Walk
import Derived.Deep.DeepCutAuto
/- Rows that are put in order in place, in memory: two ranges change places, one range goes behind another. -/
namespace Go.Proofs.Ytiigcjncpjdkcaa
open Go.ChangeShapes Go.WideShapes Go.ChangeAt Go.RowKit
set_option linter.unusedVariables false
set_option maxRecDepth 4000

/-- a row's cell -/
abbrev Rw := Option Addr × Nat × Nat
abbrev sV (q : Rw) : Value := .slice q.1 q.2.1 q.2.2
/-- the cells of n things, arranged as s says -/
def rowsA (e : Nat → Rw) (n : Nat) (s : Nat → Nat) : Array Value := ((List.range n).map fun i => sV (e (s i))).toArray
theorem rowsA_at {e : Nat → Rw} {n : Nat} {s : Nat → Nat} {i : Nat} (h : i < n) : (rowsA e n s)[i]? = some (sV (e (s i))) := by
  simp [rowsA, h]
theorem rowsA_size (e : Nat → Rw) (n : Nat) (s : Nat → Nat) : (rowsA e n s).size = n := by simp [rowsA]
theorem rowsA_swap {e : Nat → Rw} {n : Nat} {s : Nat → Nat} {i j : Nat} (hi : i < n) (hj : j < n) : ((rowsA e n s).setIfInBounds i (sV (e (s j)))).setIfInBounds j (sV (e (s i))) = rowsA e n (fun x => s (swP i j x)) := by
  apply Array.ext_getElem?
  intro k
  by_cases hk : k < n
  · rw [rowsA_at hk, Array.getElem?_setIfInBounds, Array.getElem?_setIfInBounds, rowsA_at hk]
    simp only [Array.size_setIfInBounds, rowsA_size]
    unfold swP
    by_cases h1 : j = k
    · subst h1
      by_cases h2 : j = i
      · subst h2; simp [hj]
      · simp [hj, h2]
    · by_cases h2 : i = k
      · subst h2; simp [h1, hi]
      · rw [if_neg h1, if_neg h2, if_neg (by omega), if_neg (by omega)]
  · rw [Array.getElem?_eq_none (by simp [rowsA_size]; omega), Array.getElem?_eq_none (by rw [rowsA_size]; omega)]
theorem rowsA_eq {e : Nat → Rw} {n : Nat} {s t : Nat → Nat} (h : ∀ x, x < n → s x = t x) : rowsA e n s = rowsA e n t := by
  apply Array.ext_getElem?
  intro k
  by_cases hk : k < n
  · rw [rowsA_at hk, rowsA_at hk, h k hk]
  · rw [Array.getElem?_eq_none (by rw [rowsA_size]; omega), Array.getElem?_eq_none (by rw [rowsA_size]; omega)]
/-- block g has n rows, arranged as s says; all else is as it was in w0 -/
structure SW (w0 : World) (g n : Nat) (e : Nat → Rw) (s : Nat → Nat) (w : World) : Prop where
  kp : Kp (fun b => b = g) w0 w
  bk : Bk w g (rowsA e n s) 43
theorem SW.drew {w0 w : World} {g n : Nat} {e : Nat → Rw} {s : Nat → Nat} (h : SW w0 g n e s w) : SW w0 g n e s w.drew := ⟨h.kp.drew, h.bk.drew⟩
theorem SW.below {w0 w w' : World} {g n : Nat} {e : Nat → Rw} {s : Nat → Nat} (h : SW w0 g n e s w) (hb : Below w.heap.size w w') : SW w0 g n e s w' := ⟨h.kp.of_below hb (fun b hl _ => Nat.lt_of_lt_of_le hl h.kp.size), h.bk.below hb⟩
theorem SW.alloc {w0 w : World} {g n : Nat} {e : Nat → Rw} {s : Nat → Nat} (h : SW w0 g n e s w) (o : Obj) : SW w0 g n e s (w.alloc o) := ⟨h.kp.alloc o, h.bk.alloc o⟩
theorem SW.swap {w0 w : World} {g n : Nat} {e : Nat → Rw} {s : Nat → Nat} (h : SW w0 g n e s w) {i j : Nat} (hi : i < n) (hj : j < n) : SW w0 g n e (fun x => s (swP i j x)) ((w.setCell ⟨g, i, none⟩ (sV (e (s j)))).setCell ⟨g, j, none⟩ (sV (e (s i)))) :=
  ⟨(h.kp.setCell (.inl rfl) _).setCell (.inl rfl) _, by rw [← rowsA_swap hi hj]; exact (h.bk.set i _).set j _⟩
theorem SW.same {w0 w : World} {g n : Nat} {e : Nat → Rw} {s t : Nat → Nat} (h : SW w0 g n e s w) (hst : ∀ x, x < n → s x = t x) : SW w0 g n e t w := ⟨h.kp, by rw [← rowsA_eq hst]; exact h.bk⟩
abbrev Gs (g n : Nat) : Value := .slice (some ⟨g, 0, none⟩) n n
end Go.Proofs.Ytiigcjncpjdkcaa
/- Rows that are put in order in place, in memory: the insertion. -/
namespace Go.Proofs.Ytiigcjncpjdkcaa
open Go.ChangeShapes Go.WideShapes Go.ChangeAt Go.RowKit
set_option linter.unusedVariables false
set_option maxRecDepth 4000

theorem swP_comm (i j x : Nat) : swP i j x = swP j i x := by
  unfold swP
  repeat' split
  all_goals first | omega | rfl
abbrev maxN : Nat := 1152921504606846976
theorem maxN_len {n : Nat} (h : n ≤ maxN) : n ≤ maxLen := by unfold maxN at h; unfold maxLen; omega
end Go.Proofs.Ytiigcjncpjdkcaa
/- Rows that are put in order in place, in memory: two halves that are in order are merged. -/
namespace Go.Proofs.Ytiigcjncpjdkcaa
open Go.ChangeShapes Go.WideShapes Go.ChangeAt Go.RowKit
set_option linter.unusedVariables false
set_option maxRecDepth 4000

end Go.Proofs.Ytiigcjncpjdkcaa
