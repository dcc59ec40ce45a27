/- 'append(own, bytes...)', and that what lies in other blocks stays. -/
import Derived.Test.YtmoppmifhhnolaaH1
import Derived.Test.YtmoppmifhhnolaaG6
namespace Go.Proofs.Ytmoppmifhhnolaa
open Go.ChangeShapes Go.WideShapes Go.ChangeAt Go.RowKit
set_option linter.unusedVariables false

abbrev bcells (l : List Int) : List Value := l.map (Value.int .u8)
theorem OW.os {w : World} {base : Nat} {v : Value} {bs : List Int} (h : OW w base v bs) : OS 1 w base v bs.length (bcells bs) := by
  refine ⟨by simp, oneCells bs, ?_⟩
  rcases h with ⟨rfl, rfl⟩ | ⟨g, cap, cur, T, rfl, hg, hh, hl, hm, hs, ht⟩
  · exact .inl ⟨rfl, rfl⟩
  · exact .inr ⟨g, cap, cur, T, rfl, hg, hh, hl, hm, by omega, by rw [Nat.mul_one]; exact ht⟩
theorem OS.ow {w : World} {base : Nat} {v : Value} {bs : List Int} {n : Nat} (h : OS 1 w base v n (bcells bs)) : OW w base v bs := by
  obtain ⟨h1, h2, h3⟩ := h
  have hn : bs.length = n := by simpa using h1
  subst hn
  rcases h3 with ⟨rfl, h0⟩ | ⟨g, cap, cur, T, rfl, hg, hh, hl, hm, hs, ht⟩
  · exact .inl ⟨rfl, List.eq_nil_of_length_eq_zero h0⟩
  · exact .inr ⟨g, cap, cur, T, rfl, hg, hh, hl, hm, by omega, by rw [Nat.mul_one] at ht; exact ht⟩
theorem BV.sv {w : World} {a : Option Addr} {n : Nat} {zs : List Int} (h : BV w a n zs) : SV 1 w a n (bcells zs) := by
  obtain ⟨h1, h2, h3⟩ := h
  refine ⟨by simpa using h1, oneCells zs, ?_⟩
  rcases h3 with h3 | ⟨b, off, rfl, hc⟩
  · exact .inl h3
  · refine .inr ⟨b, off, rfl, fun i u hi => ?_⟩
    have hil : i < zs.length := by
      rcases Nat.lt_or_ge i zs.length with h | h
      · exact h
      · rw [List.getElem?_eq_none (by simpa using h)] at hi; cases hi
    rw [hc i (by omega)]
    simp [bcells, hil] at hi ⊢
    exact hi
/-- at the operation itself, in a region that keeps its order -/
theorem append_ow2 {w : World} {ops : Array Oper} {rest : List Oper} {o : Oper} {act : Act} {Q : Exit → Act → World → Prop} (hgd : o.guard = none) (s x : Operand)
    (ho : o.op = .call { callee := .builtin .append, args := #[s, x], argTypes := #[23, 23] })
    (base : Nat) (v : Value) (bs : List Int) (hs : act.eval s = v) (hown : OW w base v bs) (ad : Option Addr) (m c : Nat) (zs : List Int) (hx : act.eval x = .slice ad m c) (hb : BV w ad m zs)
    (hlen : bs.length + m ≤ 140737488355328) (hbase : base ≤ w.heap.size)
    (h : ∀ v' w', OW w' base v' (bs ++ zs) → Below base w w' → (v'.ownBlock = v.ownBlock ∨ v'.ownBlock = some w.heap.size) → (∀ b, b < w.heap.size → v.ownBlock ≠ some b → w'.heap[b]? = w.heap[b]?) → wpList Try.prog ops Q rest (act.put o.dst v') w') : wpList Try.prog ops Q (o :: rest) act w :=
  append_os2 el_bytes hgd s x ho base v bs.length (bcells bs) hs hown.os ad m c (bcells zs) hx hb.sv (by omega) hlen hbase (fun v' w' h1 h2 h3 h4 => h v' w' (OS.ow (n := bs.length + m) (by rw [bcells, List.map_append]; exact h1)) h2 h3 h4)
theorem BV.other {w w' : World} {a : Option Addr} {n : Nat} {zs : List Int} (h : BV w a n zs) (hb : ∀ x, a = some x → x.block < w.heap.size → w'.heap[x.block]? = w.heap[x.block]?) : BV w' a n zs := by
  obtain ⟨h1, h2, h3⟩ := h
  refine ⟨h1, h2, ?_⟩
  rcases h3 with h3 | ⟨b, off, rfl, hc⟩
  · exact .inl h3
  · exact .inr ⟨b, off, rfl, fun i hi => cell_block (hb _ rfl (cell_lt (hc i hi))) (hc i hi)⟩
theorem SV.other {k : Nat} {w w' : World} {a : Option Addr} {n : Nat} {cs : List Value} (h : SV k w a n cs) (hb : ∀ x, a = some x → x.block < w.heap.size → w'.heap[x.block]? = w.heap[x.block]?) : SV k w' a n cs := by
  obtain ⟨h1, h2, h3⟩ := h
  refine ⟨h1, h2, ?_⟩
  rcases h3 with h3 | ⟨b, off, rfl, hc⟩
  · exact .inl h3
  · exact .inr ⟨b, off, rfl, fun i u hi => cell_block (hb _ rfl (cell_lt (hc i u hi))) (hc i u hi)⟩
end Go.Proofs.Ytmoppmifhhnolaa
