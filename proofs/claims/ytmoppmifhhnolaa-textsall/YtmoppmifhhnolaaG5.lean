/- 'append(T{}, more...)': a slice without room always grows: what was there stays. Stores into a slice of the call's own. -/
import Derived.Test.YtmoppmifhhnolaaG4
namespace Go.Proofs.Ytmoppmifhhnolaa
open Go.ChangeShapes Go.WideShapes Go.ChangeAt Go.RowKit
set_option linter.unusedVariables false

theorem run_append_new {t e : TypeId} {k nb : Nat} {z : Value} (hel : El t e k nb z) {w : World} (ty : TypeId) (a : Option Addr) (ad : Option Addr) (m c : Nat) (zs : List Value) (hb : SV k w ad m zs) (hm1 : 1 ≤ m)
    (hlen : m * nb ≤ 140737488355328) (hnm : m ≤ 140737488355328) :
    ∃ v' w', (Builtin.append_ #[t, t] ty #[.slice a 0 0, .slice ad m c]).run Try.prog w = .ok v' w' ∧ OS k w' w.heap.size v' m zs ∧ Below w.heap.size w w' := by
  have hs := src_sv hel hb c
  obtain ⟨ht, hinfo, hzs, hk1⟩ := hel
  obtain ⟨i0, hi, hz0, hz1, hz2⟩ := info_parts hinfo
  have hzl : zs.length = m * k := hb.1
  have hml : m ≤ maxLen := by unfold maxLen; omega
  have hge := grownCap_ge w m 0 e
  have hcm := grownCap_le_maxLen w m 0 e hml
  have lay : OS k (w.drew.alloc (.cells (([] ++ zs).toArray ++ Builtin.zeroCells z.cells (grownCap w (0 + m) 0 e - (0 + m))) e)) w.heap.size (.slice (some ⟨w.heap.size, 0, none⟩) (0 + m) (grownCap w (0 + m) 0 e)) m zs := by
    rw [Nat.zero_add]
    refine ⟨hzl, hb.2.1, .inr ⟨w.heap.size, _, _, e, rfl, Nat.le_refl _, heap_alloc_new w.drew _, hge, hcm, ?_, ?_⟩⟩
    · rw [Array.size_append, size_zeroCells, hzs]
      simp only [List.nil_append, List.size_toArray, hzl]
      rw [← Nat.add_mul]; congr 1; omega
    · rw [Array.toList_append]
      exact List.take_left' hzl
  have first : (Builtin.firstCells i0.size 0 (.slice a 0 0)).run Try.prog w.drew = .ok ([] : List Value).toArray w.drew := by
    cases a with
    | none => exact run_firstCells_none _ _ _ _ _
    | some a => exact run_firstCells_some w.drew i0.size 0 a 0 0 [] (by simp) (fun j u hj => by simp at hj)
  have hr := run_append_grow_src (P := Try.prog) w t t ty e i0 z ht hi hz0 a 0 0 [] first _ m _ (by rw [hz1]; exact hs) (by omega) (by omega) (by rw [hz2]; exact growslice_fits (by omega) (by simpa using hlen))
  exact ⟨_, _, hr, lay, (Below.refl _ _).drew.alloc (Nat.le_refl _) _⟩
/-- at the operation itself, in a region that keeps its order -/
theorem append_new {t e : TypeId} {k nb : Nat} {z : Value} (hel : El t e k nb z) {w : World} {ops : Array Oper} {rest : List Oper} {o : Oper} {act : Act} {Q : Exit → Act → World → Prop} (hgd : o.guard = none) (s x : Operand)
    (ho : o.op = .call { callee := .builtin .append, args := #[s, x], argTypes := #[t, t] })
    (a : Option Addr) (hs : act.eval s = .slice a 0 0) (ad : Option Addr) (m c : Nat) (zs : List Value) (hx : act.eval x = .slice ad m c) (hb : SV k w ad m zs) (hm1 : 1 ≤ m)
    (hlen : m * nb ≤ 140737488355328) (hnm : m ≤ 140737488355328)
    (h : ∀ v' w', OS k w' w.heap.size v' m zs → Below w.heap.size w w' → wpList Try.prog ops Q rest (act.put o.dst v') w') : wpList Try.prog ops Q (o :: rest) act w := by
  obtain ⟨v', w', hr, h1, h2⟩ := run_append_new hel o.type a ad m c zs hb hm1 hlen hnm
  refine wpList_plain hgd fun K hK => ?_
  unfold Oper.wp execOp
  simp only [ho, resolve, invoke, builtin, Sem.run_bind, Sem.run_pure, Result.andThen_ok, List.map_toArray, List.map_cons, List.map_nil, hs, hx, hr]
  exact hK _ _ (h v' w' h1 h2)
/-- the same, in a region that leaves its order open -/
theorem wp_append_new {t e : TypeId} {k nb : Nat} {z : Value} (hel : El t e k nb z) {w : World} {o : Oper} {act : Act} {K : Act → World → Prop} {Q : Exit → Act → World → Prop} (d : Option Tmp) (hd : o.dst = d) (s x : Operand)
    (ho : o.op = .call { callee := .builtin .append, args := #[s, x], argTypes := #[t, t] })
    (a : Option Addr) (hs : act.eval s = .slice a 0 0) (ad : Option Addr) (m c : Nat) (zs : List Value) (hx : act.eval x = .slice ad m c) (hb : SV k w ad m zs) (hm1 : 1 ≤ m)
    (hlen : m * nb ≤ 140737488355328) (hnm : m ≤ 140737488355328)
    (h : ∀ v' w', OS k w' w.heap.size v' m zs → Below w.heap.size w w' → K (act.put d v') w') : o.wp Try.prog act w K Q := by
  obtain ⟨v', w', hr, h1, h2⟩ := run_append_new hel o.type a ad m c zs hb hm1 hlen hnm
  subst hd
  unfold Oper.wp execOp
  simp only [ho, resolve, invoke, builtin, Sem.run_bind, Sem.run_pure, Result.andThen_ok, List.map_toArray, List.map_cons, List.map_nil, hs, hx, hr]
  exact h v' w' h1 h2
/-- a slice of the call's own that has elements: its cells are there and may be written, and what a store makes of it -/
theorem OS.own {k : Nat} {w : World} {base : Nat} {v : Value} {n : Nat} {cs : List Value} (h : OS k w base v n cs) (hn : 1 ≤ n) :
    ∃ g cap, v = .slice (some ⟨g, 0, none⟩) n cap ∧ base ≤ g ∧ n ≤ cap ∧ cap ≤ maxLen ∧ (∀ i u, cs[i]? = some u → w.cell? ⟨g, i, none⟩ = some u) ∧ (∀ i, w.frozen? ⟨g, i, none⟩ = false) ∧
      ∀ i u, i < n * k → u.oneCell' = true → OS k (w.setCell ⟨g, i, none⟩ u) base v n (cs.set i u) := by
  obtain ⟨h1, h2, h3⟩ := h
  rcases h3 with ⟨rfl, rfl⟩ | ⟨g, cap, cur, T, rfl, hg, hh, hl, hm, hsz, ht⟩
  · omega
  · have hB : Bk w g cur T := hh
    refine ⟨g, cap, rfl, hg, hl, hm, ?_, fun i => hB.free i, ?_⟩
    · intro i u hi
      refine hB.cell i ?_
      rw [← ht, List.getElem?_take] at hi
      split at hi
      · simpa using hi
      · cases hi
    · intro i u hi hu
      refine ⟨by rw [List.length_set]; exact h1, ?_, .inr ⟨g, cap, cur.setIfInBounds i u, T, rfl, hg, hB.set i u, hl, hm, by simpa using hsz, ?_⟩⟩
      · intro x hx
        rcases List.mem_or_eq_of_mem_set hx with hx | rfl
        · exact h2 x hx
        · exact hu
      · rw [Array.toList_setIfInBounds, List.take_set, ht]
end Go.Proofs.Ytmoppmifhhnolaa
