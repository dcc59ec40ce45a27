/- Slices of elements of whatever type, of one cell or of several: what they hold, how they stand the growth of memory, and 'append(own, more...)'. -/
import Derived.Test.YtmoppmifhhnolaaK2
namespace Go.Proofs.Ytmoppmifhhnolaa
open Go.ChangeShapes Go.WideShapes Go.ChangeAt Go.RowKit
set_option linter.unusedVariables false

/-- t is a slice's type, e its elements', of k cells and nb bytes; z: the zero of it -/
def El (t e : TypeId) (k nb : Nat) (z : Value) : Prop :=
  Try.prog.underlying t = some (.slice e) ∧ (Try.prog.info? e).map (fun i => (i.zero, i.size, i.bytes)) = some (some z, k, nb) ∧ z.cells.size = k ∧ 1 ≤ k
/-- the slice at a of n elements of k cells holds the cells cs -/
def SV (k : Nat) (w : World) (a : Option Addr) (n : Nat) (cs : List Value) : Prop :=
  cs.length = n * k ∧ (∀ u ∈ cs, u.oneCell' = true) ∧ (n = 0 ∨ ∃ b off, a = some ⟨b, off, none⟩ ∧ ∀ i u, cs[i]? = some u → w.cell? ⟨b, off + i, none⟩ = some u)
/-- v holds the cells cs of n elements of k cells, in memory of the call's own, from block number base on -/
def OS (k : Nat) (w : World) (base : Nat) (v : Value) (n : Nat) (cs : List Value) : Prop :=
  cs.length = n * k ∧ (∀ u ∈ cs, u.oneCell' = true) ∧ ((v = .slice none 0 0 ∧ n = 0) ∨
    ∃ g cap cur T, v = .slice (some ⟨g, 0, none⟩) n cap ∧ base ≤ g ∧ w.heap[g]? = some (.cells cur T (0, 0)) ∧ n ≤ cap ∧ cap ≤ maxLen ∧ cur.size = cap * k ∧ cur.toList.take (n * k) = cs)
theorem SV.mono {k : Nat} {w w' : World} {a : Option Addr} {n : Nat} {cs : List Value} (h : SV k w a n cs) (hc : ∀ b o v, w.cell? ⟨b, o, none⟩ = some v → w'.cell? ⟨b, o, none⟩ = some v) : SV k w' a n cs := by
  obtain ⟨h1, h2, h3⟩ := h
  refine ⟨h1, h2, ?_⟩
  rcases h3 with h3 | ⟨b, off, rfl, hcell⟩
  · exact .inl h3
  · exact .inr ⟨b, off, rfl, fun i u hi => hc _ _ _ (hcell i u hi)⟩
theorem SV.alloc {k : Nat} {w : World} {a : Option Addr} {n : Nat} {cs : List Value} (h : SV k w a n cs) (o : Obj) : SV k (w.alloc o) a n cs := h.mono fun _ _ _ hc => cell_alloc w o hc
theorem SV.drew {k : Nat} {w : World} {a : Option Addr} {n : Nat} {cs : List Value} (h : SV k w a n cs) : SV k w.drew a n cs := h
theorem SV.below {k : Nat} {w w' : World} {a : Option Addr} {n : Nat} {cs : List Value} (h : SV k w a n cs) (hb : Below w.heap.size w w') : SV k w' a n cs :=
  h.mono fun b o v hc => by rw [hb.cell (p := ⟨b, o, none⟩) (cell_lt hc)]; exact hc
theorem SV.zero {k : Nat} (w : World) (a : Option Addr) : SV k w a 0 [] := ⟨by simp, by simp, .inl rfl⟩
/-- its first elements -/
theorem SV.take {k : Nat} {w : World} {a : Option Addr} {n : Nat} {cs : List Value} (h : SV k w a n cs) (m : Nat) (hm : m ≤ n) : SV k w a m (cs.take (m * k)) := by
  obtain ⟨h1, h2, h3⟩ := h
  have hmk : m * k ≤ n * k := Nat.mul_le_mul_right k hm
  refine ⟨by rw [List.length_take]; omega, fun u hu => h2 u (List.mem_of_mem_take hu), ?_⟩
  rcases h3 with h3 | ⟨b, off, rfl, hcell⟩
  · exact .inl (by omega)
  · refine .inr ⟨b, off, rfl, fun i u hi => hcell i u ?_⟩
    rw [List.getElem?_take] at hi
    split at hi
    · exact hi
    · cases hi
/-- its elements from some one on -/
theorem SV.drop {k : Nat} {w : World} {b off n : Nat} {cs : List Value} (h : SV k w (some ⟨b, off, none⟩) n cs) (m : Nat) (hm : m ≤ n) : SV k w (some ⟨b, off + m * k, none⟩) (n - m) (cs.drop (m * k)) := by
  obtain ⟨h1, h2, h3⟩ := h
  refine ⟨by rw [List.length_drop, h1, Nat.sub_mul], fun u hu => h2 u (List.mem_of_mem_drop hu), ?_⟩
  rcases h3 with h3 | ⟨b', off', hb, hcell⟩
  · exact .inl (by omega)
  · cases hb
    refine .inr ⟨b, off + m * k, rfl, fun i u hi => ?_⟩
    rw [List.getElem?_drop] at hi
    have := hcell (m * k + i) u hi
    rwa [← Nat.add_assoc] at this
theorem OS.nil {k : Nat} (w : World) (base : Nat) : OS k w base (.slice none 0 0) 0 [] := ⟨by simp, by simp, .inl ⟨rfl, rfl⟩⟩
theorem OS.lit {k : Nat} (w : World) (base : Nat) (hb : base ≤ w.heap.size) (cs : List Value) (n : Nat) (T : TypeId) (h1 : cs.length = n * k) (h2 : ∀ u ∈ cs, u.oneCell' = true) (hn : n ≤ maxLen) (g : Nat) (hg : g = w.heap.size) :
    OS k (w.alloc (.cells cs.toArray T)) base (.slice (some ⟨g, 0, none⟩) n n) n cs := by
  subst hg
  refine ⟨h1, h2, .inr ⟨w.heap.size, n, cs.toArray, T, rfl, hb, heap_alloc_new w _, Nat.le_refl _, hn, by simpa using h1, ?_⟩⟩
  simp only []
  rw [List.take_of_length_le (by omega)]
theorem OS.alloc {k : Nat} {w : World} {base : Nat} {v : Value} {n : Nat} {cs : List Value} (h : OS k w base v n cs) (o : Obj) : OS k (w.alloc o) base v n cs := by
  obtain ⟨h1, h2, h3⟩ := h
  refine ⟨h1, h2, ?_⟩
  rcases h3 with h3 | ⟨g, cap, cur, T, hv, hg, hh, hr⟩
  · exact .inl h3
  · exact .inr ⟨g, cap, cur, T, hv, hg, heap_alloc_lt o hh, hr⟩
theorem OS.drew {k : Nat} {w : World} {base : Nat} {v : Value} {n : Nat} {cs : List Value} (h : OS k w base v n cs) : OS k w.drew base v n cs := h
theorem OS.lower {k : Nat} {w : World} {base base' : Nat} {v : Value} {n : Nat} {cs : List Value} (h : OS k w base v n cs) (hb : base' ≤ base) : OS k w base' v n cs := by
  obtain ⟨h1, h2, h3⟩ := h
  refine ⟨h1, h2, ?_⟩
  rcases h3 with h3 | ⟨g, cap, cur, T, hv, hg, hr⟩
  · exact .inl h3
  · exact .inr ⟨g, cap, cur, T, hv, Nat.le_trans hb hg, hr⟩
theorem heap_lt {w : World} {g : Nat} {x : Obj} (h : w.heap[g]? = some x) : g < w.heap.size := by
  rcases Nat.lt_or_ge g w.heap.size with h' | h'
  · exact h'
  · rw [Array.getElem?_eq_none h'] at h; cases h
theorem OS.below {k : Nat} {w w' : World} {base : Nat} {v : Value} {n : Nat} {cs : List Value} (h : OS k w base v n cs) (hb : Below w.heap.size w w') : OS k w' base v n cs := by
  obtain ⟨h1, h2, h3⟩ := h
  refine ⟨h1, h2, ?_⟩
  rcases h3 with h3 | ⟨g, cap, cur, T, hv, hg, hh, hr⟩
  · exact .inl h3
  · exact .inr ⟨g, cap, cur, T, hv, hg, by rw [hb.block g (heap_lt hh)]; exact hh, hr⟩
/-- as a slice -/
theorem OS.sv {k : Nat} {w : World} {base : Nat} {v : Value} {n : Nat} {cs : List Value} (h : OS k w base v n cs) :
    ∃ a cap, v = .slice a n cap ∧ n ≤ cap ∧ cap ≤ maxLen ∧ SV k w a n cs ∧ (∀ x, a = some x → base ≤ x.block) ∧ (a = none → n = 0) := by
  obtain ⟨h1, h2, h3⟩ := h
  rcases h3 with ⟨rfl, rfl⟩ | ⟨g, cap, cur, T, rfl, hg, hh, hl, hm, hsz, ht⟩
  · exact ⟨none, 0, rfl, Nat.le_refl _, Nat.zero_le _, ⟨h1, h2, .inl rfl⟩, (fun x hx => by cases hx), fun _ => rfl⟩
  · refine ⟨_, cap, rfl, hl, hm, ⟨h1, h2, .inr ⟨g, 0, rfl, fun i u hi => ?_⟩⟩, (fun x hx => by cases hx; exact hg), (fun h => by cases h)⟩
    have e : cur[i]? = some u := by
      rw [← ht, List.getElem?_take] at hi
      split at hi
      · simpa using hi
      · cases hi
    rw [Nat.zero_add]
    simp only [World.cell?, hh, e]; rfl
theorem src_sv {t e : TypeId} {k nb : Nat} {z : Value} (hel : El t e k nb z) {w : World} {ad : Option Addr} {m : Nat} {zs : List Value} (h : SV k w ad m zs) (c : Nat) : Src Try.prog k t (.slice ad m c) m zs w := by
  obtain ⟨h1, h2, h3⟩ := h
  cases ad with
  | none =>
    have hm : m = 0 := by
      rcases h3 with h3 | ⟨b, off, hb, _⟩
      · exact h3
      · cases hb
    subst hm
    have hz : zs = [] := List.eq_nil_of_length_eq_zero (by omega)
    subst hz
    exact Src.ofNil w hel.1 c
  | some ad =>
    refine Src.ofSlice w hel.1 ad m c _ h1 ?_ h2
    intro j u hj
    rcases h3 with h3 | ⟨b, off, hb, hcell⟩
    · have hz : zs = [] := List.eq_nil_of_length_eq_zero (by rw [h1, h3]; simp)
      subst hz; simp at hj
    · cases hb
      have ha : (⟨b, off, none⟩ : Addr).add j = ⟨b, off + j, none⟩ := by unfold Addr.add; split <;> simp_all
      rw [ha, hcell j u hj]
theorem run_append_os {t e : TypeId} {k nb : Nat} {z : Value} (hel : El t e k nb z) {w : World} (ty : TypeId) (base : Nat) (v : Value) (n : Nat) (cs : List Value) (hown : OS k w base v n cs) (ad : Option Addr) (m c : Nat) (zs : List Value) (hb : SV k w ad m zs)
    (hlen : (n + m) * nb ≤ 140737488355328) (hnm : n + m ≤ 140737488355328) (hbase : base ≤ w.heap.size) :
    ∃ v' w', (Builtin.append_ #[t, t] ty #[v, .slice ad m c]).run Try.prog w = .ok v' w' ∧ OS k w' base v' (n + m) (cs ++ zs) ∧ Below base w w' := by
  have hs := src_sv hel hb c
  obtain ⟨ht, hinfo, hzs, hk1⟩ := hel
  obtain ⟨i0, hi, hz0, hz1, hz2⟩ := info_parts hinfo
  obtain ⟨o1, o2, o3⟩ := hown
  have hzl : zs.length = m * k := hb.1
  have hz2' : ∀ u ∈ cs ++ zs, u.oneCell' = true := fun u hu => (List.mem_append.1 hu).elim (o2 u) (hb.2.1 u)
  have hl' : (cs ++ zs).length = (n + m) * k := by rw [List.length_append, o1, hzl, Nat.add_mul]
  have hml : n + m ≤ maxLen := by unfold maxLen; omega
  have lay : ∀ (old : Nat), OS k (w.drew.alloc (.cells ((cs ++ zs).toArray ++ Builtin.zeroCells z.cells (grownCap w (n + m) old e - (n + m))) e)) base (.slice (some ⟨w.heap.size, 0, none⟩) (n + m) (grownCap w (n + m) old e)) (n + m) (cs ++ zs) := by
    intro old
    have hge := grownCap_ge w (n + m) old e
    have hcm := grownCap_le_maxLen w (n + m) old e hml
    refine ⟨hl', hz2', .inr ⟨w.heap.size, _, _, e, rfl, hbase, heap_alloc_new w.drew _, hge, hcm, ?_, ?_⟩⟩
    · rw [Array.size_append, size_zeroCells, hzs]
      simp only [List.size_toArray, hl']
      rw [← Nat.add_mul]; congr 1; omega
    · rw [Array.toList_append]
      exact List.take_left' hl'
  rcases o3 with ⟨rfl, rfl⟩ | ⟨g, cap, cur, T, rfl, hg, hh, hl, hm, hsz, htk⟩
  · have hc0 : cs = [] := List.eq_nil_of_length_eq_zero (by omega)
    subst hc0
    by_cases h0 : m = 0
    · subst h0
      have hz : zs = [] := List.eq_nil_of_length_eq_zero (by omega)
      subst hz
      refine ⟨.slice none 0 0, w, ?_, ⟨by simp, by simp, .inl ⟨rfl, rfl⟩⟩, Below.refl _ _⟩
      have hc := hs.cells
      rw [← hz1] at hc
      simp [Builtin.append_, run_underlying ht, sizeOf, typeInfo, hi, hs.len, hc]
    · have hr := run_append_grow_src (P := Try.prog) w t t ty e i0 z ht hi hz0 none 0 0 [] (run_firstCells_none _ _ _ _ _) _ m _ (by rw [hz1]; exact hs) (by omega) (by omega) (by rw [hz2]; exact growslice_fits (by omega) (by simpa using hlen))
      exact ⟨_, _, hr, lay 0, (Below.refl _ _).drew.alloc hbase _⟩
  · by_cases hroom : n + m ≤ cap
    · have hfit : n * k + zs.length ≤ cur.size := by rw [hsz, hzl, ← Nat.add_mul]; exact Nat.mul_le_mul_right k hroom
      have hst := run_storeCells_at (P := Try.prog) g (n * i0.size) T zs 0 cur w hh (by rw [hz1]; simpa using hfit) hb.2.1
      have hc := hs.cells
      rw [← hz1] at hc
      refine ⟨.slice (some ⟨g, 0, none⟩) (n + m) cap, w.setRow g (cur.toList.take (n * i0.size + 0) ++ zs ++ cur.toList.drop (n * i0.size + 0 + zs.length)).toArray, ?_, ⟨hl', hz2', .inr ⟨g, cap, _, T, rfl, hg, setRow_heap w g cur _ T _ hh, hroom, hm, ?_, ?_⟩⟩, ?_⟩
      · simp [Builtin.append_, run_underlying ht, sizeOf, typeInfo, hi, hs.len, hroom, hc, Addr.add_lit, hst]
      · rw [hz1]
        simp only [List.size_toArray, List.length_append, List.length_take, List.length_drop, Array.length_toList, Nat.add_zero]
        omega
      · rw [hz1]
        simp only [Nat.add_zero]
        rw [htk]
        exact List.take_left' hl'
      · exact (Below.refl _ _).grown (row := some g) ⟨rfl, rfl, rfl, by simp, fun j _ hj => setRow_other w g j _ (fun e => hj (by rw [e]))⟩ hbase (fun j hj => by cases hj; exact hg)
    · have holds : (Builtin.firstCells i0.size n (.slice (some ⟨g, 0, none⟩) n cap)).run Try.prog w.drew = .ok cs.toArray w.drew := by
        refine run_firstCells_some w.drew i0.size n ⟨g, 0, none⟩ n cap _ (by rw [hz1]; exact o1) ?_
        intro j u hj
        have ha : (⟨g, 0, none⟩ : Addr).add j = ⟨g, j, none⟩ := by unfold Addr.add; split <;> simp_all
        have e : cur[j]? = some u := by
          rw [← htk, List.getElem?_take] at hj
          split at hj
          · simpa using hj
          · cases hj
        rw [ha]
        show w.cell? _ = _
        simp only [World.cell?, hh, e]; rfl
      have hr := run_append_grow_src (P := Try.prog) w t t ty e i0 z ht hi hz0 (some ⟨g, 0, none⟩) n cap _ holds _ m _ (by rw [hz1]; exact hs) (by omega) (by omega) (by rw [hz2]; exact growslice_fits (by omega) hlen)
      exact ⟨_, _, hr, lay cap, (Below.refl _ _).drew.alloc hbase _⟩
/-- at the operation itself, in a region that keeps its order -/
theorem append_os {t e : TypeId} {k nb : Nat} {z : Value} (hel : El t e k nb z) {w : World} {ops : Array Oper} {rest : List Oper} {o : Oper} {act : Act} {Q : Exit → Act → World → Prop} (hgd : o.guard = none) (s x : Operand)
    (ho : o.op = .call { callee := .builtin .append, args := #[s, x], argTypes := #[t, t] })
    (base : Nat) (v : Value) (n : Nat) (cs : List Value) (hs : act.eval s = v) (hown : OS k w base v n cs) (ad : Option Addr) (m c : Nat) (zs : List Value) (hx : act.eval x = .slice ad m c) (hb : SV k w ad m zs)
    (hlen : (n + m) * nb ≤ 140737488355328) (hnm : n + m ≤ 140737488355328) (hbase : base ≤ w.heap.size)
    (h : ∀ v' w', OS k w' base v' (n + m) (cs ++ zs) → Below base w w' → wpList Try.prog ops Q rest (act.put o.dst v') w') : wpList Try.prog ops Q (o :: rest) act w := by
  obtain ⟨v', w', hr, h1, h2⟩ := run_append_os hel o.type base v n cs hown ad m c zs hb hlen hnm hbase
  refine wpList_plain hgd fun K hK => ?_
  unfold Oper.wp execOp
  simp only [ho, resolve, invoke, builtin, Sem.run_bind, Sem.run_pure, Result.andThen_ok, List.map_toArray, List.map_cons, List.map_nil, hs, hx, hr]
  exact hK _ _ (h v' w' h1 h2)
/-- the same, in a region that leaves its order open -/
theorem wp_append_os {t e : TypeId} {k nb : Nat} {z : Value} (hel : El t e k nb z) {w : World} {o : Oper} {act : Act} {K : Act → World → Prop} {Q : Exit → Act → World → Prop} (d : Option Tmp) (hd : o.dst = d) (s x : Operand)
    (ho : o.op = .call { callee := .builtin .append, args := #[s, x], argTypes := #[t, t] })
    (base : Nat) (v : Value) (n : Nat) (cs : List Value) (hs : act.eval s = v) (hown : OS k w base v n cs) (ad : Option Addr) (m c : Nat) (zs : List Value) (hx : act.eval x = .slice ad m c) (hb : SV k w ad m zs)
    (hlen : (n + m) * nb ≤ 140737488355328) (hnm : n + m ≤ 140737488355328) (hbase : base ≤ w.heap.size)
    (h : ∀ v' w', OS k w' base v' (n + m) (cs ++ zs) → Below base w w' → K (act.put d v') w') : o.wp Try.prog act w K Q := by
  obtain ⟨v', w', hr, h1, h2⟩ := run_append_os hel o.type base v n cs hown ad m c zs hb hlen hnm hbase
  subst hd
  unfold Oper.wp execOp
  simp only [ho, resolve, invoke, builtin, Sem.run_bind, Sem.run_pure, Result.andThen_ok, List.map_toArray, List.map_cons, List.map_nil, hs, hx, hr]
  exact h v' w' h1 h2
theorem el_bytes : El 23 5 1 1 (.int .u8 0) := ⟨Try.underlying23, by kernel_rfl, rfl, by omega⟩
end Go.Proofs.Ytmoppmifhhnolaa
