/- 'append(own, more...)', and that what lies in other blocks stays. -/
import Derived.Test.YtmoppmifhhnolaaG5
namespace Go.Proofs.Ytmoppmifhhnolaa
open Go.ChangeShapes Go.WideShapes Go.ChangeAt Go.RowKit
set_option linter.unusedVariables false

theorem heap_alloc_old (w : World) (o : Obj) {b : Nat} (h : b < w.heap.size) : (w.alloc o).heap[b]? = w.heap[b]? := by
  show (w.heap.push o)[b]? = _
  rw [Array.getElem?_push, if_neg (by omega)]
theorem run_append_os2 {t e : TypeId} {k nb : Nat} {z : Value} (hel : El t e k nb z) {w : World} (ty : TypeId) (base : Nat) (v : Value) (n : Nat) (cs : List Value) (hown : OS k w base v n cs) (ad : Option Addr) (m c : Nat) (zs : List Value) (hb : SV k w ad m zs)
    (hlen : (n + m) * nb ≤ 140737488355328) (hnm : n + m ≤ 140737488355328) (hbase : base ≤ w.heap.size) :
    ∃ v' w', (Builtin.append_ #[t, t] ty #[v, .slice ad m c]).run Try.prog w = .ok v' w' ∧ OS k w' base v' (n + m) (cs ++ zs) ∧ Below base w w' ∧ (v'.ownBlock = v.ownBlock ∨ v'.ownBlock = some w.heap.size) ∧ (∀ b, b < w.heap.size → v.ownBlock ≠ some b → w'.heap[b]? = w.heap[b]?) := by
  have hs := src_sv hel hb c
  obtain ⟨ht, hinfo, hzs, hk1⟩ := hel
  obtain ⟨i0, hi, hz0, hz1, hz2⟩ := info_parts hinfo
  obtain ⟨o1, o2, o3⟩ := hown
  have hzl : zs.length = m * k := hb.1
  have hz2' : ∀ u ∈ cs ++ zs, u.oneCell' = true := fun u hu => (List.mem_append.1 hu).elim (o2 u) (hb.2.1 u)
  have hl' : (cs ++ zs).length = (n + m) * k := by rw [List.length_append, o1, hzl, Nat.add_mul]
  have hml : n + m ≤ maxLen := by unfold maxLen; omega
  have lay : ∀ (old : Nat), OS k (w.drew.alloc (.cells ((cs ++ zs).toArray ++ Builtin.zeroCells z.cells (grownCap w (n + m) old e - (n + m))) e)) base (.slice (some ⟨w.heap.size, 0, none⟩) (n + m) (grownCap w (n + m) old e)) (n + m) (cs ++ zs) := by
    intro old
    have hge := grownCap_ge w (n + m) old e
    have hcm := grownCap_le_maxLen w (n + m) old e hml
    refine ⟨hl', hz2', .inr ⟨w.heap.size, _, _, e, rfl, hbase, heap_alloc_new w.drew _, hge, hcm, ?_, ?_⟩⟩
    · rw [Array.size_append, size_zeroCells, hzs]
      simp only [List.size_toArray, hl']
      rw [← Nat.add_mul]; congr 1; omega
    · rw [Array.toList_append]
      exact List.take_left' hl'
  rcases o3 with ⟨rfl, rfl⟩ | ⟨g, cap, cur, T, rfl, hg, hh, hl, hm, hsz, htk⟩
  · have hc0 : cs = [] := List.eq_nil_of_length_eq_zero (by omega)
    subst hc0
    by_cases h0 : m = 0
    · subst h0
      have hz : zs = [] := List.eq_nil_of_length_eq_zero (by omega)
      subst hz
      refine ⟨.slice none 0 0, w, ?_, ⟨by simp, by simp, .inl ⟨rfl, rfl⟩⟩, Below.refl _ _, .inl rfl, fun b _ _ => rfl⟩
      have hc := hs.cells
      rw [← hz1] at hc
      simp [Builtin.append_, run_underlying ht, sizeOf, typeInfo, hi, hs.len, hc]
    · have hr := run_append_grow_src (P := Try.prog) w t t ty e i0 z ht hi hz0 none 0 0 [] (run_firstCells_none _ _ _ _ _) _ m _ (by rw [hz1]; exact hs) (by omega) (by omega) (by rw [hz2]; exact growslice_fits (by omega) (by simpa using hlen))
      exact ⟨_, _, hr, lay 0, (Below.refl _ _).drew.alloc hbase _, .inr rfl, fun b hb _ => heap_alloc_old _ _ hb⟩
  · by_cases hroom : n + m ≤ cap
    · have hfit : n * k + zs.length ≤ cur.size := by rw [hsz, hzl, ← Nat.add_mul]; exact Nat.mul_le_mul_right k hroom
      have hst := run_storeCells_at (P := Try.prog) g (n * i0.size) T zs 0 cur w hh (by rw [hz1]; simpa using hfit) hb.2.1
      have hc := hs.cells
      rw [← hz1] at hc
      refine ⟨.slice (some ⟨g, 0, none⟩) (n + m) cap, w.setRow g (cur.toList.take (n * i0.size + 0) ++ zs ++ cur.toList.drop (n * i0.size + 0 + zs.length)).toArray, ?_, ⟨hl', hz2', .inr ⟨g, cap, _, T, rfl, hg, setRow_heap w g cur _ T _ hh, hroom, hm, ?_, ?_⟩⟩, ?_, .inl rfl, fun b hb hne => setRow_other w g b _ (fun e => hne (by rw [e]; rfl))⟩
      · simp [Builtin.append_, run_underlying ht, sizeOf, typeInfo, hi, hs.len, hroom, hc, Addr.add_lit, hst]
      · rw [hz1]
        simp only [List.size_toArray, List.length_append, List.length_take, List.length_drop, Array.length_toList, Nat.add_zero]
        omega
      · rw [hz1]
        simp only [Nat.add_zero]
        rw [htk]
        exact List.take_left' hl'
      · exact (Below.refl _ _).grown (row := some g) ⟨rfl, rfl, rfl, by simp, fun j _ hj => setRow_other w g j _ (fun e => hj (by rw [e]))⟩ hbase (fun j hj => by cases hj; exact hg)
    · have holds : (Builtin.firstCells i0.size n (.slice (some ⟨g, 0, none⟩) n cap)).run Try.prog w.drew = .ok cs.toArray w.drew := by
        refine run_firstCells_some w.drew i0.size n ⟨g, 0, none⟩ n cap _ (by rw [hz1]; exact o1) ?_
        intro j u hj
        have ha : (⟨g, 0, none⟩ : Addr).add j = ⟨g, j, none⟩ := by unfold Addr.add; split <;> simp_all
        have e : cur[j]? = some u := by
          rw [← htk, List.getElem?_take] at hj
          split at hj
          · simpa using hj
          · cases hj
        rw [ha]
        show w.cell? _ = _
        simp only [World.cell?, hh, e]; rfl
      have hr := run_append_grow_src (P := Try.prog) w t t ty e i0 z ht hi hz0 (some ⟨g, 0, none⟩) n cap _ holds _ m _ (by rw [hz1]; exact hs) (by omega) (by omega) (by rw [hz2]; exact growslice_fits (by omega) hlen)
      exact ⟨_, _, hr, lay cap, (Below.refl _ _).drew.alloc hbase _, .inr rfl, fun b hb _ => heap_alloc_old _ _ hb⟩
/-- at the operation itself, in a region that keeps its order -/
theorem append_os2 {t e : TypeId} {k nb : Nat} {z : Value} (hel : El t e k nb z) {w : World} {ops : Array Oper} {rest : List Oper} {o : Oper} {act : Act} {Q : Exit → Act → World → Prop} (hgd : o.guard = none) (s x : Operand)
    (ho : o.op = .call { callee := .builtin .append, args := #[s, x], argTypes := #[t, t] })
    (base : Nat) (v : Value) (n : Nat) (cs : List Value) (hs : act.eval s = v) (hown : OS k w base v n cs) (ad : Option Addr) (m c : Nat) (zs : List Value) (hx : act.eval x = .slice ad m c) (hb : SV k w ad m zs)
    (hlen : (n + m) * nb ≤ 140737488355328) (hnm : n + m ≤ 140737488355328) (hbase : base ≤ w.heap.size)
    (h : ∀ v' w', OS k w' base v' (n + m) (cs ++ zs) → Below base w w' → (v'.ownBlock = v.ownBlock ∨ v'.ownBlock = some w.heap.size) → (∀ b, b < w.heap.size → v.ownBlock ≠ some b → w'.heap[b]? = w.heap[b]?) → wpList Try.prog ops Q rest (act.put o.dst v') w') : wpList Try.prog ops Q (o :: rest) act w := by
  obtain ⟨v', w', hr, h1, h2, h3, h4⟩ := run_append_os2 hel o.type base v n cs hown ad m c zs hb hlen hnm hbase
  refine wpList_plain hgd fun K hK => ?_
  unfold Oper.wp execOp
  simp only [ho, resolve, invoke, builtin, Sem.run_bind, Sem.run_pure, Result.andThen_ok, List.map_toArray, List.map_cons, List.map_nil, hs, hx, hr]
  exact hK _ _ (h v' w' h1 h2 h3 h4)
/-- the same, in a region that leaves its order open -/
theorem wp_append_os2 {t e : TypeId} {k nb : Nat} {z : Value} (hel : El t e k nb z) {w : World} {o : Oper} {act : Act} {K : Act → World → Prop} {Q : Exit → Act → World → Prop} (d : Option Tmp) (hd : o.dst = d) (s x : Operand)
    (ho : o.op = .call { callee := .builtin .append, args := #[s, x], argTypes := #[t, t] })
    (base : Nat) (v : Value) (n : Nat) (cs : List Value) (hs : act.eval s = v) (hown : OS k w base v n cs) (ad : Option Addr) (m c : Nat) (zs : List Value) (hx : act.eval x = .slice ad m c) (hb : SV k w ad m zs)
    (hlen : (n + m) * nb ≤ 140737488355328) (hnm : n + m ≤ 140737488355328) (hbase : base ≤ w.heap.size)
    (h : ∀ v' w', OS k w' base v' (n + m) (cs ++ zs) → Below base w w' → (v'.ownBlock = v.ownBlock ∨ v'.ownBlock = some w.heap.size) → (∀ b, b < w.heap.size → v.ownBlock ≠ some b → w'.heap[b]? = w.heap[b]?) → K (act.put d v') w') : o.wp Try.prog act w K Q := by
  obtain ⟨v', w', hr, h1, h2, h3, h4⟩ := run_append_os2 hel o.type base v n cs hown ad m c zs hb hlen hnm hbase
  subst hd
  unfold Oper.wp execOp
  simp only [ho, resolve, invoke, builtin, Sem.run_bind, Sem.run_pure, Result.andThen_ok, List.map_toArray, List.map_cons, List.map_nil, hs, hx, hr]
  exact h v' w' h1 h2 h3 h4
/-- a cell of a block that stays -/
theorem cell_block {w w' : World} {b i : Nat} {v : Value} (h : w'.heap[b]? = w.heap[b]?) (hc : w.cell? ⟨b, i, none⟩ = some v) : w'.cell? ⟨b, i, none⟩ = some v := by
  simp only [World.cell?, h] at hc ⊢; exact hc
end Go.Proofs.Ytmoppmifhhnolaa
