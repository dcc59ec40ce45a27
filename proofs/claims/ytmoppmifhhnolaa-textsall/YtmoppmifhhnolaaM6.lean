/- A map from texts to numbers that the call makes: each of some unlike texts has its place. -/
import Derived.Test.YtmoppmifhhnolaaT6p
import Derived.Test.YtmoppmifhhnolaaH3
import Derived.Maps.OwnSet
import Derived.Maps.OwnOps
namespace Go.Proofs.Ytmoppmifhhnolaa
open Go.ChangeShapes Go.WideShapes Go.ChangeAt Go.RowKit Go.WideMaps
set_option linter.unusedVariables false

/-- T is a map's type, from texts (K) to numbers (E) of kind q -/
structure MT (T K E : TypeId) (q : IntKind) : Prop where
  map : Try.prog.underlying T = some (.map K E)
  key : Try.prog.underlying K = some .string
  el : Try.prog.underlying E = some (.int q)
  zero : ∀ w, (zeroValue E).run Try.prog w = .ok (.int q 0) w
  wf : ∀ n : Nat, n ≤ 1000000 → (Lit.int q (n : Int)).wf = true
abbrev kL (s : ByteArray) : Lit := .string s.data.toList
theorem kL_key (s : ByteArray) : WideAt.IsKeyLit (kL s) := trivial
theorem kL_inj {s t : ByteArray} (h : kL s = kL t) : s = t := by
  have h1 : s.data.toList = t.data.toList := by simpa [kL] using h
  exact ByteArray.ext (Array.ext' h1)
def mapF (q : IntKind) : DataW Unit → Nat → List ByteArray → DataW Unit
  | D, _, [] => D
  | D, i, s :: ws => mapF q (D.put (kL s) (.lit (.int q (i : Int)))) (i + 1) ws
/-- the map that has each text's place -/
def mapD (q : IntKind) (ws : List ByteArray) : DataW Unit := mapF q (.map []) 0 ws
theorem mapF_snoc (q : IntKind) : ∀ (ws : List ByteArray) (D : DataW Unit) (i : Nat) (s : ByteArray), mapF q D i (ws ++ [s]) = (mapF q D i ws).put (kL s) (.lit (.int q ((i + ws.length : Nat) : Int)))
  | [], D, i, s => rfl
  | x :: ws, D, i, s => by
    rw [List.cons_append, mapF, mapF, mapF_snoc q ws, List.length_cons, show i + 1 + ws.length = i + (ws.length + 1) by omega]
theorem mapD_snoc (q : IntKind) (ws : List ByteArray) (s : ByteArray) : mapD q (ws ++ [s]) = (mapD q ws).put (kL s) (.lit (.int q (ws.length : Int))) := by
  rw [mapD, mapF_snoc, Nat.zero_add]; rfl
theorem mapF_is (q : IntKind) : ∀ (ws : List ByteArray) (D : DataW Unit) (i : Nat), Maps.IsMap D → Maps.IsMap (mapF q D i ws)
  | [], D, i, h => h
  | x :: ws, D, i, h => mapF_is q ws _ _ (h.put _ _)
theorem mapF_not (q : IntKind) : ∀ (ws : List ByteArray) (D : DataW Unit) (i : Nat) (s : ByteArray), s ∉ ws → Maps.has (mapF q D i ws) (kL s) = Maps.has D (kL s) ∧ ∀ z, (mapF q D i ws).atKey (kL s) z = D.atKey (kL s) z
  | [], D, i, s, _ => ⟨rfl, fun _ => rfl⟩
  | x :: ws, D, i, s, h => by
    have h1 : kL s ≠ kL x := fun e => h (by rw [kL_inj e]; exact List.mem_cons_self ..)
    obtain ⟨e1, e2⟩ := mapF_not q ws (D.put (kL x) (.lit (.int q (i : Int)))) (i + 1) s (fun e => h (List.mem_cons_of_mem _ e))
    rw [mapF, e1]
    exact ⟨Maps.has_put_other h1 _, fun z => by rw [e2, Maps.atKey_put_other h1]⟩
theorem mapF_there (q : IntKind) : ∀ (ws : List ByteArray) (D : DataW Unit) (i : Nat) (s : ByteArray), Maps.IsMap D → ws.Nodup → s ∈ ws → Maps.has (mapF q D i ws) (kL s) = true ∧ ∀ z, (mapF q D i ws).atKey (kL s) z = .lit (.int q ((i + placeB ws s : Nat) : Int))
  | x :: ws, D, i, s, hD, hn, h => by
    rw [List.nodup_cons] at hn
    rw [mapF, placeB]
    by_cases hx : x = s
    · subst hx
      obtain ⟨e1, e2⟩ := mapF_not q ws (D.put (kL x) (.lit (.int q (i : Int)))) (i + 1) x hn.1
      rw [e1, if_pos rfl]
      exact ⟨Maps.has_put_same hD (kL_key x) _, fun z => by rw [e2, Maps.atKey_put_same hD (kL_key x)]; rfl⟩
    · obtain ⟨e1, e2⟩ := mapF_there q ws (D.put (kL x) (.lit (.int q (i : Int)))) (i + 1) s (hD.put _ _) hn.2 ((List.mem_cons.1 h).resolve_left (fun e => hx e.symm))
      rw [e1, if_neg hx]
      exact ⟨rfl, fun z => by rw [e2, show i + 1 + placeB ws s = i + (placeB ws s + 1) by omega]⟩
theorem mapD_has (q : IntKind) {ws : List ByteArray} (hn : ws.Nodup) (s : ByteArray) : Maps.has (mapD q ws) (kL s) = thereB ws s := by
  by_cases h : s ∈ ws
  · rw [there_iff.2 h]; exact (mapF_there q ws _ 0 s Maps.isMap_empty hn h).1
  · rw [there_not.2 h]; exact (mapF_not q ws _ 0 s h).1
/-- what a look-up tells -/
def lookV (ws : List ByteArray) (s : ByteArray) : Int := if thereB ws s = true then (placeB ws s : Int) else 0
theorem mapD_at (q : IntKind) {ws : List ByteArray} (hn : ws.Nodup) (s : ByteArray) : (mapD q ws).atKey (kL s) (.lit (.int q 0)) = .lit (.int q (lookV ws s)) := by
  unfold lookV
  by_cases h : s ∈ ws
  · rw [if_pos (there_iff.2 h)]
    have := (mapF_there q ws _ 0 s Maps.isMap_empty hn h).2 (.lit (.int q 0))
    rw [Nat.zero_add] at this
    exact this
  · rw [if_neg (by rw [there_iff]; exact h)]; exact (mapF_not q ws _ 0 s h).2 _
theorem mapD_size (q : IntKind) : ∀ (n : Nat) (us : List ByteArray), us.length = n → us.Nodup → Maps.Tidy (mapD q us) ∧ Maps.size (mapD q us) = us.length
  | 0, us, h, _ => by
    have : us = [] := List.eq_nil_of_length_eq_zero h
    subst this
    exact ⟨Maps.tidy_empty, rfl⟩
  | n + 1, us, h, hn => by
    have hne : us ≠ [] := fun e => by rw [e] at h; simp at h
    have e : us = us.dropLast ++ [us.getLast hne] := (List.dropLast_concat_getLast hne).symm
    generalize us.getLast hne = s at e
    generalize us.dropLast = vs at e
    subst e
    rw [List.nodup_append] at hn
    have hnot : s ∉ vs := fun hm => hn.2.2 s hm s (by simp) rfl
    obtain ⟨t1, t2⟩ := mapD_size q n vs (by simpa using h) hn.1
    rw [mapD_snoc]
    refine ⟨t1.put (kL_key s) _, ?_⟩
    rw [Maps.size_put t1, mapD_has q hn.1, there_not.2 hnot, t2]
    simp
/-- block B is a map that has the places of these unlike texts -/
def MapWs (K E : TypeId) (q : IntKind) (w : World) (B : Nat) (ws : List ByteArray) : Prop :=
  ws.Nodup ∧ w.ownsMap Try.prog K (plainElem (H := Unit) Try.prog E) B ws.length (mapD q ws)
section
variable {T K E : TypeId} {q : IntKind} {w : World} {B : Nat} {ws : List ByteArray}
theorem MapWs.made (K E : TypeId) (q : IntKind) (w : World) : MapWs K E q (w.alloc (.map #[] 0)) w.heap.size [] := ⟨List.nodup_nil, World.ownsMap_made w Try.prog K _⟩
theorem MapWs.lt (h : MapWs K E q w B ws) : B < w.heap.size := World.ownsMap.lt h.2
theorem MapWs.alloc (h : MapWs K E q w B ws) (o : Obj) : MapWs K E q (w.alloc o) B ws := ⟨h.1, World.ownsMap.alloc h.2 o⟩
theorem MapWs.drew (h : MapWs K E q w B ws) : MapWs K E q w.drew B ws := h
/-- it hangs on its block alone -/
theorem MapWs.same {w' : World} (h : MapWs K E q w B ws) (he : w'.heap[B]? = w.heap[B]?) : MapWs K E q w' B ws := by
  obtain ⟨h1, es, clock, h2, h3⟩ := h
  exact ⟨h1, es, clock, he.trans h2, h3⟩
theorem MapWs.below {w' : World} (h : MapWs K E q w B ws) (hb : Below w.heap.size w w') : MapWs K E q w' B ws := h.same (hb.block B h.lt)
theorem MapWs.set {i b : Nat} (h : MapWs K E q w B ws) (hb : B ≠ b) (u : Value) : MapWs K E q (w.setCell ⟨b, i, none⟩ u) B ws := h.same (Below.heap_setCell _ _ _ _ hb)
/-- 'p, ok := m[s]' -/
theorem MapWs.look_ok (h : MapWs K E q w B ws) (ht : MT T K E q) {s : ByteArray} (hs : s.size ≤ maxLen) :
    (Instr.lookup T (.map (some B)) (.string s) true).run Try.prog w = .ok (.tuple #[.int q (lookV ws s), .bool (thereB ws s)]) w := by
  obtain ⟨v, ps, hrun, hv⟩ := World.ownsMap.look_ok h.2 (Maps.string_keyed ht.key) ht.map (ht.zero w) (plainElem_int ht.el (by have := ht.wf 0 (by omega); exact this)) (keyOf_string_mk ht.key hs)
  obtain ⟨c, rfl, hc, -⟩ := plainElem_int_inv ht.el hv
  have e := congrArg Prod.fst hc
  simp only [] at e
  rw [mapD_at q h.1 s] at e
  simp only [DataW.lit.injEq, Lit.int.injEq, true_and] at e
  rw [hrun, mapD_has q h.1 s, e]
/-- 'm[s]' -/
theorem MapWs.look (h : MapWs K E q w B ws) (ht : MT T K E q) {s : ByteArray} (hs : s.size ≤ maxLen) :
    (Instr.lookup T (.map (some B)) (.string s) false).run Try.prog w = .ok (.int q (lookV ws s)) w := by
  obtain ⟨v, ps, hrun, hv⟩ := World.ownsMap.lookup h.2 (Maps.string_keyed ht.key) ht.map (ht.zero w) (plainElem_int ht.el (by have := ht.wf 0 (by omega); exact this)) (keyOf_string_mk ht.key hs)
  obtain ⟨c, rfl, hc, -⟩ := plainElem_int_inv ht.el hv
  have e := congrArg Prod.fst hc
  simp only [] at e
  rw [mapD_at q h.1 s] at e
  simp only [DataW.lit.injEq, Lit.int.injEq, true_and] at e
  rw [hrun, e]
theorem nodup_snoc {s : ByteArray} (hn : ws.Nodup) (h : s ∉ ws) : (ws ++ [s]).Nodup := by
  have := addW_nodup (s := s) hn
  unfold addW at this
  rwa [if_neg (by rw [there_iff]; exact h)] at this
/-- 'm[s] = len', a new text -/
theorem MapWs.store (h : MapWs K E q w B ws) (ht : MT T K E q) {s : ByteArray} (hs : s.size ≤ maxLen) (hnew : s ∉ ws) (hl : ws.length ≤ 1000000) {v : Int} (hv : v = (ws.length : Int)) :
    ∃ w', (Instr.mapUpdate T (.map (some B)) (.string s) (.int q v)).run Try.prog w = .ok () w' ∧ MapWs K E q w' B (ws ++ [s]) ∧ w.grownBy w' (some B) := by
  subst hv
  obtain ⟨w', hrun, ho, hg⟩ := World.ownsMap.update h.2 (Maps.string_keyed ht.key) ht.map (by unfold maxLen; omega) (keyOf_string_mk ht.key hs) (plainElem_int ht.el (ht.wf ws.length hl))
  refine ⟨w', hrun, ⟨nodup_snoc h.1 hnew, ?_⟩, hg⟩
  rw [mapD_snoc, List.length_append, List.length_singleton]
  exact ho
/-- 'len(m)' -/
theorem MapWs.len (h : MapWs K E q w B ws) (ht : MT T K E q) (ty : TypeId) : (Builtin.len_ #[T] ty #[.map (some B)]).run Try.prog w = .ok (.int .i64 (ws.length : Int)) w := by
  rw [World.ownsMap.len h.2 ht.map ty]
  rw [(mapD_size q ws.length ws rfl h.1).2]
/-- the store at the operation itself, in a region that keeps its order -/
theorem store_ws {ops : Array Oper} {rest : List Oper} {o : Oper} {a : Act} {Q : Exit → Act → World → Prop} (h : MapWs K E q w B ws) (ht : MT T K E q) (hgd : o.guard = none) (m x v : Operand) (hop : o.op = Op.mapUpdate T m x v)
    {s : ByteArray} (hs : s.size ≤ maxLen) (hnew : s ∉ ws) (hl : ws.length ≤ 1000000) {n : Int} (hn : n = (ws.length : Int)) (hm : a.eval m = .map (some B)) (hx : a.eval x = .string s) (hv : a.eval v = .int q n)
    (hK : ∀ w', MapWs K E q w' B (ws ++ [s]) → w.grownBy w' (some B) → wpList Try.prog ops Q rest (a.put o.dst undef) w') : wpList Try.prog ops Q (o :: rest) a w := by
  refine wpList_plain hgd fun K' hK' => ?_
  obtain ⟨w', hrun, r1, r2⟩ := h.store ht hs hnew hl hn
  unfold Oper.wp
  simp [execOp, hop, hm, hx, hv, hrun, Result.andThen]
  exact hK' _ _ (hK w' r1 r2)
end
/-- what a map's store leaves alone -/
theorem grown_block {w w' : World} {B b : Nat} (h : w.grownBy w' (some B)) (hb : b < w.heap.size) (hne : b ≠ B) : w'.heap[b]? = w.heap[b]? := h.block b hb (fun e => hne (Option.some.inj e))
theorem grown_below {w w' : World} {B base : Nat} (h : w.grownBy w' (some B)) (hb : base ≤ B) (hs : base ≤ w.heap.size) : Below base w w' := (Below.refl _ _).grown h hs (fun k hk => by cases hk; exact hb)
theorem OW.same {w w' : World} {base : Nat} {v : Value} {bs : List Int} (h : OW w base v bs) (he : ∀ g, v.ownBlock = some g → g < w.heap.size → w'.heap[g]? = w.heap[g]?) : OW w' base v bs := by
  rcases h with h | ⟨g, cap, cur, T, rfl, h2, h3, h4⟩
  · exact .inl h
  · exact .inr ⟨g, cap, cur, T, rfl, h2, (he g rfl (heap_lt h3)).trans h3, h4⟩
theorem OS.same {k : Nat} {w w' : World} {base : Nat} {v : Value} {n : Nat} {cs : List Value} (h : OS k w base v n cs) (he : ∀ g, v.ownBlock = some g → g < w.heap.size → w'.heap[g]? = w.heap[g]?) : OS k w' base v n cs := by
  obtain ⟨h1, h2, h3⟩ := h
  refine ⟨h1, h2, ?_⟩
  rcases h3 with h3 | ⟨g, cap, cur, T, rfl, hg, hh, hr⟩
  · exact .inl h3
  · exact .inr ⟨g, cap, cur, T, rfl, hg, (he g rfl (heap_lt hh)).trans hh, hr⟩
end Go.Proofs.Ytmoppmifhhnolaa
