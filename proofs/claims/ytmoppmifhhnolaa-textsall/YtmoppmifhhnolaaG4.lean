/- Blocks of memory that are known whole: their cells, that they may be written, what a store makes of them; what is owned stays while another block is written. -/
import Derived.Test.YtmoppmifhhnolaaG
import Derived.OneCell
namespace Go.Proofs.Ytmoppmifhhnolaa
open Go.ChangeShapes Go.WideShapes Go.ChangeAt Go.RowKit
set_option linter.unusedVariables false

/-- the block b has the cells cs, and may be written -/
def Bk (w : World) (b : Nat) (cs : Array Value) (T : TypeId) : Prop := w.heap[b]? = some (.cells cs T (0, 0))
theorem Bk.lt {w : World} {b : Nat} {cs : Array Value} {T : TypeId} (h : Bk w b cs T) : b < w.heap.size := lt_of_block h
theorem Bk.new (w : World) (cs : Array Value) (T : TypeId) : Bk (w.alloc (.cells cs T)) w.heap.size cs T := heap_alloc_new w _
theorem Bk.alloc {w : World} {b : Nat} {cs : Array Value} {T : TypeId} (h : Bk w b cs T) (o : Obj) : Bk (w.alloc o) b cs T := heap_alloc_lt o h
theorem Bk.drew {w : World} {b : Nat} {cs : Array Value} {T : TypeId} (h : Bk w b cs T) : Bk w.drew b cs T := h
theorem Bk.low {w w' : World} {b base : Nat} {cs : Array Value} {T : TypeId} (h : Bk w b cs T) (hb : Below base w w') (hB : b < base) : Bk w' b cs T := by
  unfold Bk; rw [hb.block b hB]; exact h
theorem Bk.below {w w' : World} {b : Nat} {cs : Array Value} {T : TypeId} (h : Bk w b cs T) (hb : Below w.heap.size w w') : Bk w' b cs T := h.low hb h.lt
theorem Bk.cell {w : World} {b : Nat} {cs : Array Value} {T : TypeId} (h : Bk w b cs T) (i : Nat) {v : Value} (hi : cs[i]? = some v) : w.cell? ⟨b, i, none⟩ = some v := by
  have h' : w.heap[b]? = some (.cells cs T (0, 0)) := h
  simp only [World.cell?, h', hi]; rfl
theorem Bk.free {w : World} {b : Nat} {cs : Array Value} {T : TypeId} (h : Bk w b cs T) (i : Nat) : w.frozen? ⟨b, i, none⟩ = false := by
  have h' : w.heap[b]? = some (.cells cs T (0, 0)) := h
  simp [World.frozen?, h']
theorem Bk.set {w : World} {b : Nat} {cs : Array Value} {T : TypeId} (h : Bk w b cs T) (i : Nat) (u : Value) : Bk (w.setCell ⟨b, i, none⟩ u) b (cs.setIfInBounds i u) T := by
  have hlt := h.lt
  have h' : w.heap[b] = .cells cs T (0, 0) := by have : w.heap[b]? = _ := h; simpa [Array.getElem?_eq_getElem hlt] using this
  show (w.heap.modify b _)[b]? = _
  rw [Array.getElem?_eq_getElem (by simpa using hlt), Array.getElem_modify_self, h']
  rfl
theorem Bk.other {w : World} {b c i : Nat} {cs : Array Value} {T : TypeId} (h : Bk w b cs T) (hn : b ≠ c) (u : Value) : Bk (w.setCell ⟨c, i, none⟩ u) b cs T :=
  (Below.heap_setCell _ _ _ _ hn).trans h
/-- what is owned stays while a block below is written -/
theorem OS.set {k : Nat} {w : World} {base b i : Nat} {v : Value} {n : Nat} {cs : List Value} (h : OS k w base v n cs) (hb : b < base) (u : Value) : OS k (w.setCell ⟨b, i, none⟩ u) base v n cs := by
  obtain ⟨h1, h2, h3⟩ := h
  refine ⟨h1, h2, ?_⟩
  rcases h3 with h3 | ⟨g, cap, cur, T, hv, hg, hh, hr⟩
  · exact .inl h3
  · exact .inr ⟨g, cap, cur, T, hv, hg, (Below.heap_setCell _ _ _ _ (by show g ≠ b; omega)).trans hh, hr⟩
/-- and what a slice holds, while a block that it does not lie in is written -/
theorem SV.set {k : Nat} {w : World} {b i n : Nat} {a : Option Addr} {cs : List Value} (h : SV k w a n cs) (hb : ∀ x, a = some x → x.block ≠ b) (u : Value) : SV k (w.setCell ⟨b, i, none⟩ u) a n cs := by
  obtain ⟨h1, h2, h3⟩ := h
  refine ⟨h1, h2, ?_⟩
  rcases h3 with h3 | ⟨c, off, rfl, hc⟩
  · exact .inl h3
  · refine .inr ⟨c, off, rfl, fun j x hj => ?_⟩
    have hne := hb _ rfl
    rw [World.cell?_setCell_other _ _ _ _ (by simp; intro h; exact absurd h.symm hne)]
    exact hc j x hj
theorem OS.shape {k : Nat} {w : World} {base : Nat} {v : Value} {n : Nat} {cs : List Value} (h : OS k w base v n cs) : ∃ a c, v = .slice a n c := by
  obtain ⟨a, c, hv, -⟩ := h.sv
  exact ⟨a, c, hv⟩
end Go.Proofs.Ytmoppmifhhnolaa
