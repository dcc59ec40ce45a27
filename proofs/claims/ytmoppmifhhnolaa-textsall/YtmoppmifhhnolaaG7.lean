/- 'append(own, more...)' for whatever source (a slice, a text), and that what lies in other blocks stays; 'append(own, text...)'. -/
import Derived.Test.YtmoppmifhhnolaaH3
import Derived.Test.YtmoppmifhhnolaaNm
namespace Go.Proofs.Ytmoppmifhhnolaa
open Go.ChangeShapes Go.WideShapes Go.ChangeAt Go.RowKit
set_option linter.unusedVariables false

theorem run_append_src2 {t e tx : TypeId} {k nb : Nat} {z : Value} (hel : El t e k nb z) {w : World} (ty : TypeId) (base : Nat) (v : Value) (n : Nat) (cs : List Value) (hown : OS k w base v n cs) (x : Value) (m : Nat) (zs : List Value) (hs : Src Try.prog k tx x m zs w)
    (hlen : (n + m) * nb ≤ 140737488355328) (hnm : n + m ≤ 140737488355328) (hbase : base ≤ w.heap.size) :
    ∃ v' w', (Builtin.append_ #[t, tx] ty #[v, x]).run Try.prog w = .ok v' w' ∧ OS k w' base v' (n + m) (cs ++ zs) ∧ Below base w w' ∧ (v'.ownBlock = v.ownBlock ∨ v'.ownBlock = some w.heap.size) ∧ (∀ b, b < w.heap.size → v.ownBlock ≠ some b → w'.heap[b]? = w.heap[b]?) := by
  obtain ⟨ht, hinfo, hzs, hk1⟩ := hel
  obtain ⟨i0, hi, hz0, hz1, hz2⟩ := info_parts hinfo
  obtain ⟨o1, o2, o3⟩ := hown
  have hzl : zs.length = m * k := hs.newsLen
  have hz2' : ∀ u ∈ cs ++ zs, u.oneCell' = true := fun u hu => (List.mem_append.1 hu).elim (o2 u) (hs.one u)
  have hl' : (cs ++ zs).length = (n + m) * k := by rw [List.length_append, o1, hzl, Nat.add_mul]
  have hml : n + m ≤ maxLen := by unfold maxLen; omega
  have lay : ∀ (old : Nat), OS k (w.drew.alloc (.cells ((cs ++ zs).toArray ++ Builtin.zeroCells z.cells (grownCap w (n + m) old e - (n + m))) e)) base (.slice (some ⟨w.heap.size, 0, none⟩) (n + m) (grownCap w (n + m) old e)) (n + m) (cs ++ zs) := by
    intro old
    have hge := grownCap_ge w (n + m) old e
    have hcm := grownCap_le_maxLen w (n + m) old e hml
    refine ⟨hl', hz2', .inr ⟨w.heap.size, _, _, e, rfl, hbase, heap_alloc_new w.drew _, hge, hcm, ?_, ?_⟩⟩
    · rw [Array.size_append, size_zeroCells, hzs]
      simp only [List.size_toArray, hl']
      rw [← Nat.add_mul]; congr 1; omega
    · rw [Array.toList_append]
      exact List.take_left' hl'
  rcases o3 with ⟨rfl, rfl⟩ | ⟨g, cap, cur, T, rfl, hg, hh, hl, hm, hsz, htk⟩
  · have hc0 : cs = [] := List.eq_nil_of_length_eq_zero (by omega)
    subst hc0
    by_cases h0 : m = 0
    · subst h0
      have hz : zs = [] := List.eq_nil_of_length_eq_zero (by omega)
      subst hz
      refine ⟨.slice none 0 0, w, ?_, ⟨by simp, by simp, .inl ⟨rfl, rfl⟩⟩, Below.refl _ _, .inl rfl, fun b _ _ => rfl⟩
      have hc := hs.cells
      rw [← hz1] at hc
      rcases hs.kind with ⟨e1, hk⟩ | hk <;> simp [Builtin.append_, run_underlying ht, run_underlying hk, sizeOf, typeInfo, hi, hs.len, hc]
    · have hr := run_append_grow_src (P := Try.prog) w t tx ty e i0 z ht hi hz0 none 0 0 [] (run_firstCells_none _ _ _ _ _) _ m _ (by rw [hz1]; exact hs) (by omega) (by omega) (by rw [hz2]; exact growslice_fits (by omega) (by simpa using hlen))
      exact ⟨_, _, hr, lay 0, (Below.refl _ _).drew.alloc hbase _, .inr rfl, fun b hb _ => heap_alloc_old _ _ hb⟩
  · by_cases hroom : n + m ≤ cap
    · have hfit : n * k + zs.length ≤ cur.size := by rw [hsz, hzl, ← Nat.add_mul]; exact Nat.mul_le_mul_right k hroom
      have hst := run_storeCells_at (P := Try.prog) g (n * i0.size) T zs 0 cur w hh (by rw [hz1]; simpa using hfit) hs.one
      have hc := hs.cells
      rw [← hz1] at hc
      refine ⟨.slice (some ⟨g, 0, none⟩) (n + m) cap, w.setRow g (cur.toList.take (n * i0.size + 0) ++ zs ++ cur.toList.drop (n * i0.size + 0 + zs.length)).toArray, ?_, ⟨hl', hz2', .inr ⟨g, cap, _, T, rfl, hg, setRow_heap w g cur _ T _ hh, hroom, hm, ?_, ?_⟩⟩, ?_, .inl rfl, fun b hb hne => setRow_other w g b _ (fun e => hne (by rw [e]; rfl))⟩
      · rcases hs.kind with ⟨e1, hk⟩ | hk <;> simp [Builtin.append_, run_underlying ht, run_underlying hk, sizeOf, typeInfo, hi, hs.len, hroom, hc, Addr.add_lit, hst]
      · rw [hz1]
        simp only [List.size_toArray, List.length_append, List.length_take, List.length_drop, Array.length_toList, Nat.add_zero]
        omega
      · rw [hz1]
        simp only [Nat.add_zero]
        rw [htk]
        exact List.take_left' hl'
      · exact (Below.refl _ _).grown (row := some g) ⟨rfl, rfl, rfl, by simp, fun j _ hj => setRow_other w g j _ (fun e => hj (by rw [e]))⟩ hbase (fun j hj => by cases hj; exact hg)
    · have holds : (Builtin.firstCells i0.size n (.slice (some ⟨g, 0, none⟩) n cap)).run Try.prog w.drew = .ok cs.toArray w.drew := by
        refine run_firstCells_some w.drew i0.size n ⟨g, 0, none⟩ n cap _ (by rw [hz1]; exact o1) ?_
        intro j u hj
        have ha : (⟨g, 0, none⟩ : Addr).add j = ⟨g, j, none⟩ := by unfold Addr.add; split <;> simp_all
        have e : cur[j]? = some u := by
          rw [← htk, List.getElem?_take] at hj
          split at hj
          · simpa using hj
          · cases hj
        rw [ha]
        show w.cell? _ = _
        simp only [World.cell?, hh, e]; rfl
      have hr := run_append_grow_src (P := Try.prog) w t tx ty e i0 z ht hi hz0 (some ⟨g, 0, none⟩) n cap _ holds _ m _ (by rw [hz1]; exact hs) (by omega) (by omega) (by rw [hz2]; exact growslice_fits (by omega) hlen)
      exact ⟨_, _, hr, lay cap, (Below.refl _ _).drew.alloc hbase _, .inr rfl, fun b hb _ => heap_alloc_old _ _ hb⟩
theorem byteCells_is (s : ByteArray) : byteCells s = bcells (nums s) := by
  unfold byteCells nums bcells
  rw [List.map_map]; rfl
theorem run_append_str {w : World} (ty : TypeId) (base : Nat) (v : Value) (bs : List Int) (hown : OW w base v bs) (s : ByteArray) (hlen : bs.length + s.size ≤ 140737488355328) (hbase : base ≤ w.heap.size) :
    ∃ v' w', (Builtin.append_ #[23, 9] ty #[v, .string s]).run Try.prog w = .ok v' w' ∧ OW w' base v' (bs ++ nums s) ∧ Below base w w' ∧ (v'.ownBlock = v.ownBlock ∨ v'.ownBlock = some w.heap.size) ∧ (∀ b, b < w.heap.size → v.ownBlock ≠ some b → w'.heap[b]? = w.heap[b]?) := by
  obtain ⟨v', w', h1, h2, h3⟩ := run_append_src2 el_bytes ty base v bs.length (bcells bs) hown.os (.string s) s.size (byteCells s) (Src.ofString w Try.underlying9 s) (by omega) hlen hbase
  refine ⟨v', w', h1, OS.ow (n := bs.length + s.size) ?_, h3⟩
  rw [bcells, List.map_append]
  rw [byteCells_is] at h2
  exact h2
/-- at the operation itself, in a region that keeps its order -/
theorem append_str {w : World} {ops : Array Oper} {rest : List Oper} {o : Oper} {act : Act} {Q : Exit → Act → World → Prop} (hgd : o.guard = none) (s x : Operand)
    (ho : o.op = .call { callee := .builtin .append, args := #[s, x], argTypes := #[23, 9] })
    (base : Nat) (v : Value) (bs : List Int) (hs : act.eval s = v) (hown : OW w base v bs) (t : ByteArray) (hx : act.eval x = .string t)
    (hlen : bs.length + t.size ≤ 140737488355328) (hbase : base ≤ w.heap.size)
    (h : ∀ v' w', OW w' base v' (bs ++ nums t) → Below base w w' → (v'.ownBlock = v.ownBlock ∨ v'.ownBlock = some w.heap.size) → (∀ b, b < w.heap.size → v.ownBlock ≠ some b → w'.heap[b]? = w.heap[b]?) → wpList Try.prog ops Q rest (act.put o.dst v') w') : wpList Try.prog ops Q (o :: rest) act w := by
  obtain ⟨v', w', hr, h1, h2, h3, h4⟩ := run_append_str o.type base v bs hown t hlen hbase
  refine wpList_plain hgd fun K hK => ?_
  unfold Oper.wp execOp
  simp only [ho, resolve, invoke, builtin, Sem.run_bind, Sem.run_pure, Result.andThen_ok, List.map_toArray, List.map_cons, List.map_nil, hs, hx, hr]
  exact hK _ _ (h v' w' h1 h2 h3 h4)
/-- the same, in a region that leaves its order open -/
theorem wp_append_str {w : World} {o : Oper} {act : Act} {K : Act → World → Prop} {Q : Exit → Act → World → Prop} (d : Option Tmp) (hd : o.dst = d) (s x : Operand)
    (ho : o.op = .call { callee := .builtin .append, args := #[s, x], argTypes := #[23, 9] })
    (base : Nat) (v : Value) (bs : List Int) (hs : act.eval s = v) (hown : OW w base v bs) (t : ByteArray) (hx : act.eval x = .string t)
    (hlen : bs.length + t.size ≤ 140737488355328) (hbase : base ≤ w.heap.size)
    (h : ∀ v' w', OW w' base v' (bs ++ nums t) → Below base w w' → (v'.ownBlock = v.ownBlock ∨ v'.ownBlock = some w.heap.size) → (∀ b, b < w.heap.size → v.ownBlock ≠ some b → w'.heap[b]? = w.heap[b]?) → K (act.put d v') w') : o.wp Try.prog act w K Q := by
  obtain ⟨v', w', hr, h1, h2, h3, h4⟩ := run_append_str o.type base v bs hown t hlen hbase
  subst hd
  unfold Oper.wp execOp
  simp only [ho, resolve, invoke, builtin, Sem.run_bind, Sem.run_pure, Result.andThen_ok, List.map_toArray, List.map_cons, List.map_nil, hs, hx, hr]
  exact h v' w' h1 h2 h3 h4
/-- the cells of some texts -/
def tcells (l : List ByteArray) : List Value := l.map Value.string
theorem tcells_one (l : List ByteArray) : ∀ u ∈ tcells l, u.oneCell' = true := by
  intro u hu
  obtain ⟨z, _, rfl⟩ := List.mem_map.1 hu
  rfl
theorem tcells_app (a b : List ByteArray) : tcells (a ++ b) = tcells a ++ tcells b := List.map_append
/-- the slice at A of n texts is l -/
abbrev TV (w : World) (A : Option Addr) (n : Nat) (l : List ByteArray) : Prop := SV 1 w A n (tcells l)
theorem TV.len {w : World} {A : Option Addr} {n : Nat} {l : List ByteArray} (h : TV w A n l) : l.length = n := by have := h.1; simpa [tcells] using this
theorem TV.at {w : World} {A : Option Addr} {n : Nat} {l : List ByteArray} (h : TV w A n l) (i : Nat) (hi : i < n) :
    ∃ b off, A = some ⟨b, off, none⟩ ∧ w.cell? ⟨b, off + i, none⟩ = some (.string (l.getD i ⟨#[]⟩)) := by
  have hl := TV.len h
  obtain ⟨h1, h2, h3⟩ := h
  rcases h3 with h3 | ⟨b, off, rfl, hc⟩
  · omega
  · refine ⟨b, off, rfl, hc i _ ?_⟩
    simp [tcells, show i < l.length by omega]
theorem TV.take {w : World} {A : Option Addr} {n : Nat} {l : List ByteArray} (h : TV w A n l) (m : Nat) (hm : m ≤ n) : TV w A m (l.take m) := by
  have := SV.take h m hm
  rwa [Nat.mul_one, tcells, ← List.map_take] at this
theorem take_snocT (l : List ByteArray) (j : Nat) (h : j < l.length) : l.take (j + 1) = l.take j ++ [l.getD j ⟨#[]⟩] := by
  rw [List.take_succ_eq_append_getElem h]; simp [List.getD, h]
theorem listT_getD {ts us : List ByteArray} (hl : ts.length = us.length) (h : ∀ i, i < ts.length → ts.getD i ⟨#[]⟩ = us.getD i ⟨#[]⟩) : ts = us := by
  refine List.ext_getElem hl (fun i h1 h2 => ?_)
  have := h i h1
  simpa [List.getD, h1, h2] using this
section
variable {H : Type} {enc : TypeId × Value → H} {w : World} {base fuel : Nat} {spare : Nat → Bool} {held : Bool}
def textOf : Value → ByteArray
  | .string s => s
  | _ => ⟨#[]⟩
/-- a slice of texts that came in -/
theorem open_textsS {t e : TypeId} {cs : List Value} {x : DataW H × List MemPlace} (ht : Try.prog.underlying t = some (.slice e)) (hc : Try.prog.cellsOf e = 1) (he : Try.prog.underlying e = some .string)
    (h : DataW.trod enc Try.prog w base spare held fuel t cs = some x) :
    ∃ (a : Option Addr) (len cap : Nat) (l : List ByteArray), cs = [.slice a len cap] ∧ len ≤ cap ∧ cap ≤ maxLen ∧ l.length = len ∧ (∀ s ∈ l, s.size ≤ maxLen) ∧ TV w a len l := by
  rcases Go.Deep.open_slice1 ht hc h with ⟨rfl, _⟩ | ⟨a, len, cap, m, n, V, D, Pl, rfl, hb, hl, hm, hmm, _, hx⟩
  · exact ⟨none, 0, 0, [], rfl, Nat.le_refl _, Nat.zero_le _, rfl, (fun z hz => by cases hz), SV.zero _ _⟩
  · have hlm : len ≤ m := by rw [hmm]; split <;> omega
    have each : ∀ i, i < len → w.cell? (a.add i) = some (.string (textOf (V i))) ∧ (textOf (V i)).size ≤ maxLen := by
      intro i hi
      obtain ⟨h1, h2⟩ := hx i (by omega)
      obtain ⟨s, hs, _, ws⟩ := DataW.trod_string he h2
      simp only [List.cons.injEq, and_true] at hs
      rw [h1, hs]
      exact ⟨rfl, ws⟩
    refine ⟨some a, len, cap, (List.range len).map fun i => textOf (V i), rfl, hl, hm, by simp, ?_, ⟨by simp [tcells], tcells_one _, ?_⟩⟩
    · intro v hv
      obtain ⟨i, hi, rfl⟩ := List.mem_map.1 hv
      exact (each i (List.mem_range.1 hi)).2
    · by_cases h0 : len = 0
      · exact .inl h0
      · have hs := spot_none (each 0 (by omega)).1
        obtain ⟨b, off, spot⟩ := a
        have hs' : spot = none := hs
        subst hs'
        refine .inr ⟨b, off, rfl, fun i u hi => ?_⟩
        have hil : i < len := by
          rcases Nat.lt_or_ge i len with h | h
          · exact h
          · rw [List.getElem?_eq_none (by simpa [tcells] using h)] at hi; cases hi
        have ha : ∀ j, (⟨b, off, none⟩ : Addr).add j = ⟨b, off + j, none⟩ := by intro j; unfold Addr.add; split <;> simp_all
        have q := (each i hil).1
        rw [ha] at q
        simp [tcells, hil] at hi
        rw [q, ← hi]
end
end Go.Proofs.Ytmoppmifhhnolaa
