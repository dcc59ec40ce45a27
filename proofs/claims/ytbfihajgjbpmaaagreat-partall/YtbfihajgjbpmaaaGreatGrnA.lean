/- Texts that belong together, one behind the other: QAp, Rp, QAk. -/
import Derived.Test.YtbfihajgjbpmaaaGreatOrdA
import Derived.Test.YtbfihajgjbpmaaaGreatBase
import Derived.Test.YtbfihajgjbpmaaaGreatOrdK
/- Granules, marks, columns, as plain data. No memory in sight. -/
namespace Go.Proofs.YtbfihajgjbpmaaaGreat
set_option linter.unusedVariables false
set_option maxRecDepth 4000

/-- how many granules n rows have -/
def cntG (G n : Nat) : Nat := (n + G - 1) / G
/-- granule number i -/
def granL {α : Type} (G : Nat) (l : List α) (i : Nat) : List α := (l.drop (i * G)).take G
def splitL {α : Type} (G : Nat) (l : List α) : List (List α) := (List.range (cntG G l.length)).map (granL G l)
theorem splitL_len {α : Type} (G : Nat) (l : List α) : (splitL G l).length = cntG G l.length := by simp [splitL]
theorem cnt_zero (G : Nat) (hG : 0 < G) : cntG G 0 = 0 := by unfold cntG; exact Nat.div_eq_of_lt (by omega)
/-- i is the number of a granule just if it begins within -/
theorem cnt_lt {G n i : Nat} (hG : 0 < G) : i < cntG G n ↔ i * G < n := by
  unfold cntG
  rw [Nat.lt_iff_add_one_le, Nat.le_div_iff_mul_le hG, Nat.add_mul, Nat.one_mul]
  omega
theorem gran_len {α : Type} (G : Nat) (l : List α) (i : Nat) : (granL G l i).length = min G (l.length - i * G) := by
  unfold granL; rw [List.length_take, List.length_drop]
theorem gran_in {α : Type} {G : Nat} {l : List α} {i : Nat} (hG : 0 < G) (h : i < cntG G l.length) : 1 ≤ (granL G l i).length ∧ (granL G l i).length ≤ G ∧ (i + 1 < cntG G l.length → (granL G l i).length = G) := by
  have h1 := (cnt_lt hG).1 h
  rw [gran_len]
  refine ⟨by omega, by omega, fun h2 => ?_⟩
  have h3 := (cnt_lt hG).1 h2
  rw [Nat.add_mul, Nat.one_mul] at h3
  omega
theorem gran_at {α : Type} {G : Nat} {l : List α} {i k : Nat} (d : α) (hk : k < G) : (granL G l i).getD k d = l.getD (i * G + k) d := by
  unfold granL
  rw [List.getD_eq_getElem?_getD, List.getElem?_take_of_lt hk, List.getElem?_drop, ← List.getD_eq_getElem?_getD]
theorem split_take {α : Type} (G : Nat) (l : List α) : ∀ k, ((List.range k).map (granL G l)).flatten = l.take (k * G)
  | 0 => by simp
  | k + 1 => by
    rw [List.range_succ, List.map_append, List.flatten_append, split_take G l k, List.map_cons, List.map_nil, List.flatten_cons, List.flatten_nil, List.append_nil, Nat.add_mul, Nat.one_mul, List.take_add]
    rfl
/-- granules, one behind the other, are the rows -/
theorem split_flat {α : Type} {G : Nat} (hG : 0 < G) (l : List α) : (splitL G l).flatten = l := by
  unfold splitL
  rw [split_take]
  refine List.take_of_length_le ?_
  have := (cnt_lt (n := l.length) (i := cntG G l.length) hG)
  have h2 : ¬ cntG G l.length * G < l.length := fun h => by have := this.2 h; omega
  omega
/-- the key of each granule's first row -/
def marksL (G K : Nat) (l : List RowV) : List RowV := (List.range (cntG G l.length)).map fun i => (l.getD (i * G) []).take K
theorem marksL_len (G K : Nat) (l : List RowV) : (marksL G K l).length = cntG G l.length := by simp [marksL]
theorem marksL_at {G K : Nat} {l : List RowV} {i : Nat} (h : i < cntG G l.length) : (marksL G K l).getD i [] = (l.getD (i * G) []).take K := by
  simp [marksL, List.getD, h]
theorem splitL_at {α : Type} {G : Nat} {l : List α} {i : Nat} (h : i < cntG G l.length) : (splitL G l).getD i [] = granL G l i := by
  simp [splitL, List.getD, h]
/-- the document's own way: row by row; i rows have been looked at -/
def outG {α : Type} (G : Nat) (l : List α) (i : Nat) : List (List α) := if i < l.length then (List.range (i / G)).map (granL G l) else splitL G l
def oneG {α : Type} (G : Nat) (l : List α) (i : Nat) : List α := if i < l.length then (l.take i).drop (i / G * G) else []
theorem outG_start {α : Type} (G : Nat) (hG : 0 < G) (l : List α) : outG G l 0 = [] ∧ oneG G l 0 = [] := by
  unfold outG oneG
  constructor
  · split
    · simp [Nat.zero_div]
    · rename_i h
      have : l = [] := List.eq_nil_of_length_eq_zero (by omega)
      subst this
      unfold splitL
      rw [List.length_nil, cnt_zero G hG]; rfl
  · split <;> simp
theorem div_up {G i : Nat} (hG : 0 < G) : (i % G + 1 = G → (i + 1) / G = i / G + 1) ∧ (i % G + 1 ≠ G → (i + 1) / G = i / G) := by
  have h1 := Nat.div_add_mod i G
  have h2 := Nat.mod_lt i hG
  rw [Nat.mul_comm] at h1
  constructor
  · intro h
    refine Nat.div_eq_of_lt_le ?_ ?_
    · rw [Nat.add_mul, Nat.one_mul]; omega
    · rw [Nat.add_mul, Nat.add_mul, Nat.one_mul]; omega
  · intro h
    refine Nat.div_eq_of_lt_le ?_ ?_
    · omega
    · rw [Nat.add_mul, Nat.one_mul]; omega
theorem one_go {α : Type} {G : Nat} (hG : 0 < G) {l : List α} {i : Nat} (d : α) (hi : i < l.length) : oneG G l i ++ [l.getD i d] = (l.take (i + 1)).drop (i / G * G) ∧ (oneG G l i ++ [l.getD i d]).length = i % G + 1 := by
  have h1 := Nat.div_add_mod i G
  rw [Nat.mul_comm] at h1
  have h2 : oneG G l i = (l.take i).drop (i / G * G) := by unfold oneG; rw [if_pos hi]
  have e : oneG G l i ++ [l.getD i d] = (l.take (i + 1)).drop (i / G * G) := by
    rw [h2, List.take_succ_eq_append_getElem hi, List.drop_append_of_le_length (by rw [List.length_take]; omega)]
    simp [List.getD, hi]
  refine ⟨e, ?_⟩
  rw [e, List.length_drop, List.length_take]
  omega
/-- a granule that is full, or the last one, is put behind -/
theorem out_put {α : Type} {G : Nat} (hG : 0 < G) {l : List α} {i : Nat} (d : α) (hi : i < l.length) (h : i % G + 1 = G ∨ i + 1 = l.length) : outG G l i ++ [oneG G l i ++ [l.getD i d]] = outG G l (i + 1) ∧ oneG G l (i + 1) = [] := by
  have h1 := Nat.div_add_mod i G
  rw [Nat.mul_comm] at h1
  have hm := Nat.mod_lt i hG
  have e1 := (one_go hG d hi).1
  have hg : (l.take (i + 1)).drop (i / G * G) = granL G l (i / G) := by
    unfold granL
    rw [List.drop_take]
    rcases h with h | h
    · rw [show i + 1 - i / G * G = G by omega]
    · rw [List.take_of_length_le (by rw [List.length_drop]; omega), List.take_of_length_le (by rw [List.length_drop]; omega)]
  have ho : outG G l i = (List.range (i / G)).map (granL G l) := by unfold outG; rw [if_pos hi]
  rw [e1, hg, ho]
  have hr : (List.range (i / G)).map (granL G l) ++ [granL G l (i / G)] = (List.range (i / G + 1)).map (granL G l) := by rw [List.range_succ, List.map_append]; rfl
  rw [hr]
  by_cases hl : i + 1 < l.length
  · have hf : i % G + 1 = G := by rcases h with h | h; exact h; omega
    have hd := (div_up hG).1 hf
    constructor
    · unfold outG; rw [if_pos hl, hd]
    · unfold oneG
      rw [if_pos hl, hd]
      refine List.drop_eq_nil_of_le ?_
      rw [List.length_take, Nat.add_mul, Nat.one_mul]; omega
  · constructor
    · unfold outG splitL
      rw [if_neg hl]
      have hc : cntG G l.length = i / G + 1 := by
        refine Nat.le_antisymm ?_ ?_
        · by_cases hq : cntG G l.length ≤ i / G + 1
          · exact hq
          · have := (cnt_lt hG).1 (show i / G + 1 < cntG G l.length by omega)
            rw [Nat.add_mul, Nat.one_mul] at this
            omega
        · exact (cnt_lt hG).2 (by omega)
      rw [hc]
    · unfold oneG; rw [if_neg hl]
theorem out_go {α : Type} {G : Nat} (hG : 0 < G) {l : List α} {i : Nat} (d : α) (hi : i < l.length) (h1 : i % G + 1 ≠ G) (h2 : i + 1 ≠ l.length) : outG G l (i + 1) = outG G l i ∧ oneG G l (i + 1) = oneG G l i ++ [l.getD i d] := by
  have hd := (div_up hG).2 h1
  have hl : i + 1 < l.length := by omega
  constructor
  · unfold outG; rw [if_pos hl, if_pos hi, hd]
  · rw [(one_go hG d hi).1]; unfold oneG; rw [if_pos hl, hd]
theorem out_end {α : Type} (G : Nat) (l : List α) : outG G l l.length = splitL G l := by unfold outG; rw [if_neg (by omega)]
/-- marks, row by row -/
theorem marks_go {G K : Nat} (hG : 0 < G) {l : List RowV} {i : Nat} (hi : i < l.length) : (i % G = 0 → (List.range (cntG G i)).map (fun i => (l.getD (i * G) []).take K) ++ [(l.getD i []).take K] = (List.range (cntG G (i + 1))).map (fun i => (l.getD (i * G) []).take K)) ∧ (i % G ≠ 0 → cntG G (i + 1) = cntG G i) := by
  have h1 := Nat.div_add_mod i G
  rw [Nat.mul_comm] at h1
  have hm := Nat.mod_lt i hG
  have c1 : cntG G (i + 1) = i / G + 1 := by
    refine Nat.le_antisymm ?_ ?_
    · by_cases hq : cntG G (i + 1) ≤ i / G + 1
      · exact hq
      · have := (cnt_lt hG).1 (show i / G + 1 < cntG G (i + 1) by omega)
        rw [Nat.add_mul, Nat.one_mul] at this
        omega
    · exact (cnt_lt hG).2 (by omega)
  constructor
  · intro h0
    have c2 : cntG G i = i / G := by
      refine Nat.le_antisymm ?_ ?_
      · by_cases hq : cntG G i ≤ i / G
        · exact hq
        · have := (cnt_lt hG).1 (show i / G < cntG G i by omega)
          omega
      · by_cases hz : i / G = 0
        · omega
        · have := (cnt_lt (n := i) (i := i / G - 1) hG).2 (by rw [Nat.sub_mul, Nat.one_mul]; have : G ≤ i / G * G := Nat.le_mul_of_pos_left G (Nat.pos_of_ne_zero hz); omega)
          omega
    rw [c1, c2, List.range_succ, List.map_append, List.map_cons, List.map_nil, show i / G * G = i by omega]
  · intro h0
    rw [c1]
    refine (Nat.le_antisymm ?_ ?_).symm
    · by_cases hq : cntG G i ≤ i / G + 1
      · exact hq
      · have := (cnt_lt hG).1 (show i / G + 1 < cntG G i by omega)
        rw [Nat.add_mul, Nat.one_mul] at this
        omega
    · exact (cnt_lt hG).2 (by omega)
/-- a column: none, if a row has no such place -/
def colL (l : List RowV) (k : Int) : List (Int × ByteArray) := if ∀ r ∈ l, 0 ≤ k ∧ k < (r.length : Int) then l.map fun r => r.getD k.toNat v0 else []
theorem colL_yes {l : List RowV} {k : Int} (h : ∀ r ∈ l, 0 ≤ k ∧ k < (r.length : Int)) : colL l k = l.map fun r => r.getD k.toNat v0 := by unfold colL; rw [if_pos h]
theorem colL_no {l : List RowV} {k : Int} {r : RowV} (hr : r ∈ l) (h : ¬ (0 ≤ k ∧ k < (r.length : Int))) : colL l k = [] := by unfold colL; rw [if_neg (fun q => h (q r hr))]
/-- the rows of columns that have all n values -/
def rowsC (cols : List (List (Int × ByteArray))) (n : Nat) : List RowV := (List.range n).map fun i => cols.map fun c => c.getD i v0
/-- columns of rows are these rows again -/
theorem rows_back {l : List RowV} {T : Nat} (h : ∀ r ∈ l, r.length = T) : rowsC ((List.range T).map fun (k : Nat) => colL l (k : Int)) l.length = l := by
  refine List.ext_getElem (by simp [rowsC]) (fun i h1 h2 => ?_)
  have hr := h _ (List.getElem_mem h2)
  refine List.ext_getElem (by simp [rowsC, hr]) (fun k h3 h4 => ?_)
  have hk : k < T := by rw [← hr]; exact h4
  have e := colL_yes (l := l) (k := (k : Int)) (fun r hr => by rw [h r hr]; omega)
  simp only [rowsC, List.getElem_map, List.getElem_range]
  rw [e]
  simp [List.getD, h2, h4]
end Go.Proofs.YtbfihajgjbpmaaaGreat
/- What a value is in memory, and in which blocks it lies: rows, slices of whatever lies so, slices of the call's own. -/
namespace Go.Proofs.YtbfihajgjbpmaaaGreat
open Go.ChangeShapes Go.WideShapes Go.ChangeAt Go.RowKit
set_option linter.unusedVariables false
set_option maxRecDepth 4000

/-- v is x in memory w, in blocks of F alone -/
structure Rep (α : Type) where
  rep : World → Value → α → (Nat → Prop) → Prop
  frame : ∀ {w w' : World} {v : Value} {x : α} {F : Nat → Prop}, rep w v x F → (∀ b, F b → b < w.heap.size → w'.heap[b]? = w.heap[b]?) → rep w' v x F
  shrink : ∀ {w : World} {v : Value} {x : α} {F : Nat → Prop}, rep w v x F → rep w v x (fun b => F b ∧ b < w.heap.size)
  wider : ∀ {w : World} {v : Value} {x : α} {F F' : Nat → Prop}, rep w v x F → (∀ b, F b → F' b) → rep w v x F'
  one : ∀ {w : World} {v : Value} {x : α} {F : Nat → Prop}, rep w v x F → v.oneCell' = true
theorem Rep.below {α : Type} (R : Rep α) {w w' : World} {v : Value} {x : α} {F : Nat → Prop} (h : R.rep w v x F) (hb : Below w.heap.size w w') : R.rep w' v x F := R.frame h (fun b _ hl => hb.block b hl)
theorem Rep.low {α : Type} (R : Rep α) {w w' : World} {v : Value} {x : α} {F : Nat → Prop} {base : Nat} (h : R.rep w v x F) (hb : Below base w w') (hF : ∀ b, F b → b < base) : R.rep w' v x F := R.frame h (fun b hf _ => hb.block b (hF b hf))
theorem Rep.old {α : Type} (R : Rep α) {w : World} {v : Value} {x : α} {F : Nat → Prop} (h : R.rep w v x F) : R.rep w v x (fun b => b < w.heap.size) := R.wider (R.shrink h) (fun b q => q.2)

/-- a row -/
def rowRep : Rep (List (Int × ByteArray)) where
  rep := fun w v vs F => RowAt w v vs ∧ ∀ A L C, v = .slice A L C → L = 0 ∨ ∀ x, A = some x → F x.block
  frame := fun {w w' v vs F} h hs => by
    obtain ⟨⟨A, L, C, hv, h1, h2, h3, h4, h5⟩, ho⟩ := h
    refine ⟨⟨A, L, C, hv, h1, h2, h3, ?_, h5⟩, ho⟩
    obtain ⟨q1, q2, q3⟩ := h4
    refine ⟨q1, q2, ?_⟩
    rcases q3 with q3 | ⟨b, off, rfl, hc⟩
    · exact .inl q3
    · rcases ho _ _ _ hv with h0 | hne
      · exact .inl h0
      · refine .inr ⟨b, off, rfl, fun i u hi => ?_⟩
        have hcell := hc i u hi
        exact cell_block (hs b (hne _ rfl) (cell_lt hcell)) hcell
  shrink := fun {w v vs F} h => by
    obtain ⟨⟨A, L, C, hv, h1, h2, h3, h4, h5⟩, ho⟩ := h
    refine ⟨⟨A, L, C, hv, h1, h2, h3, h4, h5⟩, fun A' L' C' hv' => ?_⟩
    rcases ho A' L' C' hv' with h0 | hne
    · exact .inl h0
    · by_cases hL : L' = 0
      · exact .inl hL
      · refine .inr fun x hx => ⟨hne x hx, ?_⟩
        rw [hv] at hv'
        cases hv'
        rcases h4.2.2 with q | ⟨b, off, rfl, hc⟩
        · exact absurd q hL
        · cases hx
          have : 0 < (vcells vs).length := by rw [h4.1]; omega
          exact cell_lt (hc 0 _ (List.getElem?_eq_getElem this))
  wider := fun {w v vs F F'} h hF => ⟨h.1, fun A L C hv => (h.2 A L C hv).elim .inl (fun q => .inr fun x hx => hF _ (q x hx))⟩
  one := fun {w v vs F} h => by obtain ⟨⟨A, L, C, rfl, _⟩, _⟩ := h; rfl
theorem rowRep.any {w : World} {v : Value} {vs : List (Int × ByteArray)} (h : RowAt w v vs) : rowRep.rep w v vs (fun _ => True) := ⟨h, fun A L C _ => .inr fun x _ => trivial⟩
theorem rowRep.row {w : World} {v : Value} {vs : List (Int × ByteArray)} {F : Nat → Prop} (h : rowRep.rep w v vs F) : RowAt w v vs := h.1
/-- a row of the call's own -/
theorem rowRep.own {w : World} {base : Nat} {v : Value} {n : Nat} {vs : List (Int × ByteArray)} (h : OS 2 w base v n (vcells vs)) : rowRep.rep w v vs (fun b => base ≤ b) := by
  have hl : vs.length = n := by have := h.1; rw [vcells_len] at this; omega
  obtain ⟨a, c, rfl, h1, h2, h3, h4, h5⟩ := h.sv
  refine ⟨⟨a, n, c, rfl, h1, h2, hl, h3, fun ha => ?_⟩, fun A L C hv => ?_⟩
  · subst ha
    rcases h.2.2 with ⟨h6, _⟩ | ⟨g, cap, cur, T, h6, _⟩
    · cases h6; rfl
    · cases h6
  · cases hv
    exact .inr fun x hx => h4 x hx

/-- the slice at A of L things -/
def SlR {α : Type} (R : Rep α) (d : α) (w : World) (A : Option Addr) (L : Nat) (xs : List α) (F : Nat → Prop) : Prop :=
  xs.length = L ∧ (L = 0 ∨ ∃ b off, A = some ⟨b, off, none⟩ ∧ F b ∧ ∀ i, i < L → ∃ u, w.cell? ⟨b, off + i, none⟩ = some u ∧ R.rep w u (xs.getD i d) F)
theorem SlR.frame {α : Type} {R : Rep α} {d : α} {w w' : World} {A : Option Addr} {L : Nat} {xs : List α} {F : Nat → Prop} (h : SlR R d w A L xs F) (hs : ∀ b, F b → b < w.heap.size → w'.heap[b]? = w.heap[b]?) : SlR R d w' A L xs F := by
  obtain ⟨h1, h2⟩ := h
  refine ⟨h1, ?_⟩
  rcases h2 with h2 | ⟨b, off, rfl, hF, hr⟩
  · exact .inl h2
  · exact .inr ⟨b, off, rfl, hF, fun i hi => by obtain ⟨u, e1, e2⟩ := hr i hi; exact ⟨u, cell_block (hs b hF (cell_lt e1)) e1, R.frame e2 hs⟩⟩
theorem SlR.below {α : Type} {R : Rep α} {d : α} {w w' : World} {A : Option Addr} {L : Nat} {xs : List α} {F : Nat → Prop} (h : SlR R d w A L xs F) (hb : Below w.heap.size w w') : SlR R d w' A L xs F := h.frame (fun b _ hl => hb.block b hl)
theorem SlR.wider {α : Type} {R : Rep α} {d : α} {w : World} {A : Option Addr} {L : Nat} {xs : List α} {F F' : Nat → Prop} (h : SlR R d w A L xs F) (hF : ∀ b, F b → F' b) : SlR R d w A L xs F' := by
  obtain ⟨h1, h2⟩ := h
  refine ⟨h1, ?_⟩
  rcases h2 with h2 | ⟨b, off, rfl, hf, hr⟩
  · exact .inl h2
  · exact .inr ⟨b, off, rfl, hF _ hf, fun i hi => by obtain ⟨u, e1, e2⟩ := hr i hi; exact ⟨u, e1, R.wider e2 hF⟩⟩
theorem SlR.shrink {α : Type} {R : Rep α} {d : α} {w : World} {A : Option Addr} {L : Nat} {xs : List α} {F : Nat → Prop} (h : SlR R d w A L xs F) : SlR R d w A L xs (fun b => F b ∧ b < w.heap.size) := by
  obtain ⟨h1, h2⟩ := h
  refine ⟨h1, ?_⟩
  rcases h2 with h2 | ⟨b, off, rfl, hf, hr⟩
  · exact .inl h2
  · by_cases hL : L = 0
    · exact .inl hL
    · obtain ⟨u, e1, -⟩ := hr 0 (by omega)
      exact .inr ⟨b, off, rfl, ⟨hf, cell_lt e1⟩, fun i hi => by obtain ⟨u, e1, e2⟩ := hr i hi; exact ⟨u, e1, R.shrink e2⟩⟩
theorem SlR.nil {α : Type} (R : Rep α) (d : α) (w : World) (A : Option Addr) (F : Nat → Prop) : SlR R d w A 0 [] F := ⟨rfl, .inl rfl⟩
/-- one of them -/
theorem SlR.at {α : Type} {R : Rep α} {d : α} {w : World} {A : Option Addr} {L : Nat} {xs : List α} {F : Nat → Prop} (h : SlR R d w A L xs F) (i : Nat) (hi : i < L) : ∃ b off u, A = some ⟨b, off, none⟩ ∧ w.cell? ⟨b, off + i, none⟩ = some u ∧ R.rep w u (xs.getD i d) F := by
  rcases h.2 with h2 | ⟨b, off, rfl, hf, hr⟩
  · omega
  · obtain ⟨u, e1, e2⟩ := hr i hi
    exact ⟨b, off, u, rfl, e1, e2⟩
/-- some of them, one behind the other -/
theorem SlR.cut {α : Type} {R : Rep α} {d : α} {w : World} {b off L : Nat} {xs : List α} {F : Nat → Prop} (h : SlR R d w (some ⟨b, off, none⟩) L xs F) (i m : Nat) (him : i + m ≤ L) : SlR R d w (some ⟨b, off + i, none⟩) m ((xs.drop i).take m) F := by
  obtain ⟨h1, h2⟩ := h
  refine ⟨by rw [List.length_take, List.length_drop]; omega, ?_⟩
  rcases h2 with h2 | ⟨b', off', e, hf, hr⟩
  · exact .inl (by omega)
  · cases e
    refine .inr ⟨b, off + i, rfl, hf, fun k hk => ?_⟩
    obtain ⟨u, e1, e2⟩ := hr (i + k) (by omega)
    refine ⟨u, by rw [Nat.add_assoc]; exact e1, ?_⟩
    have e : ((xs.drop i).take m).getD k d = xs.getD (i + k) d := by
      rw [List.getD_eq_getElem?_getD, List.getElem?_take_of_lt hk, List.getElem?_drop, ← List.getD_eq_getElem?_getD]
    rw [e]; exact e2
/-- a slice of things, as a thing -/
def sliceRep {α : Type} (R : Rep α) (d : α) : Rep (List α) where
  rep := fun w v xs F => ∃ A L C, v = .slice A L C ∧ L ≤ C ∧ C ≤ maxLen ∧ (A = none → C = 0) ∧ SlR R d w A L xs F
  frame := fun {w w' v xs F} h hs => by
    obtain ⟨A, L, C, h1, h2, h3, h4, h5⟩ := h
    exact ⟨A, L, C, h1, h2, h3, h4, h5.frame hs⟩
  shrink := fun {w v xs F} h => by
    obtain ⟨A, L, C, h1, h2, h3, h4, h5⟩ := h
    exact ⟨A, L, C, h1, h2, h3, h4, h5.shrink⟩
  wider := fun {w v xs F F'} h hF => by
    obtain ⟨A, L, C, h1, h2, h3, h4, h5⟩ := h
    exact ⟨A, L, C, h1, h2, h3, h4, h5.wider hF⟩
  one := fun {w v xs F} h => by obtain ⟨A, L, C, rfl, _⟩ := h; rfl
/-- rows, as they are known elsewhere -/
theorem SlR.rvs {w : World} {A : Option Addr} {L : Nat} {vss : List (List (Int × ByteArray))} {F : Nat → Prop} (h : SlR rowRep [] w A L vss F) : RVs w A L vss := by
  obtain ⟨h1, h2⟩ := h
  refine ⟨h1, ?_⟩
  rcases h2 with h2 | ⟨b, off, rfl, hf, hr⟩
  · exact .inl h2
  · exact .inr ⟨b, off, rfl, fun i hi => by obtain ⟨u, e1, e2⟩ := hr i hi; exact ⟨u, e1, e2.1⟩⟩
theorem RVs.slR {w : World} {A : Option Addr} {L : Nat} {vss : List (List (Int × ByteArray))} (h : RVs w A L vss) : SlR rowRep [] w A L vss (fun _ => True) := by
  obtain ⟨h1, h2⟩ := h
  refine ⟨h1, ?_⟩
  rcases h2 with h2 | ⟨b, off, rfl, hr⟩
  · exact .inl h2
  · exact .inr ⟨b, off, rfl, trivial, fun i hi => by obtain ⟨u, e1, e2⟩ := hr i hi; exact ⟨u, e1, rowRep.any e2⟩⟩

/-- a slice of the call's own, of things that lie in F, its own block not -/
def OwnX {α : Type} (R : Rep α) (d : α) (w : World) (base : Nat) (v : Value) (xs : List α) (F : Nat → Prop) : Prop :=
  ∃ cs, OS 1 w base v xs.length cs ∧ (∀ b, v.ownBlock = some b → ¬ F b) ∧ ∀ i, i < xs.length → R.rep w (cs.getD i undef) (xs.getD i d) F
theorem OwnX.below {α : Type} {R : Rep α} {d : α} {w w' : World} {base : Nat} {v : Value} {xs : List α} {F : Nat → Prop} (h : OwnX R d w base v xs F) (hb : Below w.heap.size w w') : OwnX R d w' base v xs F := by
  obtain ⟨cs, h1, h2, h3⟩ := h
  exact ⟨cs, h1.below hb, h2, fun i hi => R.below (h3 i hi) hb⟩
theorem OwnX.lower {α : Type} {R : Rep α} {d : α} {w : World} {base base' : Nat} {v : Value} {xs : List α} {F : Nat → Prop} (h : OwnX R d w base v xs F) (hb : base' ≤ base) : OwnX R d w base' v xs F := by
  obtain ⟨cs, h1, h2, h3⟩ := h
  exact ⟨cs, h1.lower hb, h2, h3⟩
theorem OwnX.lt {α : Type} {R : Rep α} {d : α} {w : World} {base : Nat} {v : Value} {xs : List α} {F : Nat → Prop} (h : OwnX R d w base v xs F) : ∀ b, v.ownBlock = some b → base ≤ b ∧ b < w.heap.size := by
  obtain ⟨cs, h1, -, -⟩ := h
  intro b hb
  rcases h1.2.2 with ⟨rfl, _⟩ | ⟨g, cap, cur, T, rfl, hg, hh, _⟩
  · cases hb
  · cases hb
    exact ⟨hg, lt_of_block hh⟩
/-- what it is for others -/
theorem OwnX.slR {α : Type} {R : Rep α} {d : α} {w : World} {base : Nat} {v : Value} {xs : List α} {F : Nat → Prop} (h : OwnX R d w base v xs F) : ∃ A C, v = .slice A xs.length C ∧ xs.length ≤ C ∧ C ≤ maxLen ∧ (A = none → C = 0) ∧ SlR R d w A xs.length xs (fun b => F b ∨ base ≤ b) := by
  obtain ⟨cs, h1, h2, h3⟩ := h
  obtain ⟨a, c, rfl, q1, q2, q3, q4, q5⟩ := h1.sv
  refine ⟨a, c, rfl, q1, q2, fun ha => ?_, rfl, ?_⟩
  · subst ha
    rcases h1.2.2 with ⟨h6, _⟩ | ⟨g, cap, cur, T, h6, _⟩
    · exact (Value.slice.inj h6).2.2
    · cases (Value.slice.inj h6).1
  · rcases q3.2.2 with h0 | ⟨b, off, rfl, hc⟩
    · exact .inl h0
    · refine .inr ⟨b, off, rfl, .inr (q4 _ rfl), fun i hi => ⟨cs.getD i undef, ?_, R.wider (h3 i hi) (fun b q => .inl q)⟩⟩
      have hl : cs.length = xs.length := by have := h1.1; omega
      exact hc i _ (by simp [List.getD, show i < cs.length by omega])
theorem OwnX.rep {α : Type} {R : Rep α} {d : α} {w : World} {base : Nat} {v : Value} {xs : List α} {F : Nat → Prop} (h : OwnX R d w base v xs F) : (sliceRep R d).rep w v xs (fun b => F b ∨ base ≤ b) := by
  obtain ⟨A, C, rfl, q1, q2, q3, q4⟩ := h.slR
  exact ⟨A, _, C, rfl, q1, q2, q3, q4⟩
/-- one thing more, behind an append: what append_os2 tells -/
theorem OwnX.snoc {α : Type} {R : Rep α} {d : α} {w w' : World} {base : Nat} {v v' r : Value} {xs : List α} {x : α} {F : Nat → Prop} {cs : List Value} (h1 : OS 1 w' base v' (xs.length + 1) (cs ++ [r])) (hcl : cs.length = xs.length)
    (h2 : ∀ b, v.ownBlock = some b → ¬ F b) (h3 : ∀ i, i < xs.length → R.rep w (cs.getD i undef) (xs.getD i d) F) (hr : R.rep w r x F) (hk : v'.ownBlock = v.ownBlock ∨ v'.ownBlock = some w.heap.size) (hs : ∀ b, b < w.heap.size → v.ownBlock ≠ some b → w'.heap[b]? = w.heap[b]?) :
    OwnX R d w' base v' (xs ++ [x]) (fun b => F b ∧ b < w.heap.size) := by
  have keep : ∀ (u : Value) (y : α), R.rep w u y F → R.rep w' u y (fun b => F b ∧ b < w.heap.size) := fun u y h => R.frame (R.shrink h) (fun b hf hl => hs b hl (fun e => h2 b e hf.1))
  refine ⟨cs ++ [r], by rw [List.length_append]; exact h1, fun b hb hf => ?_, fun i hi => ?_⟩
  · rcases hk with hk | hk
    · exact h2 b (hk ▸ hb) hf.1
    · rw [hk] at hb
      have := Option.some.inj hb
      omega
  · rw [List.length_append, List.length_singleton] at hi
    by_cases hij : i < xs.length
    · have e1 : (cs ++ [r]).getD i undef = cs.getD i undef := by rw [List.getD_eq_getElem?_getD, List.getElem?_append_left (by omega), ← List.getD_eq_getElem?_getD]
      have e2 : (xs ++ [x]).getD i d = xs.getD i d := by rw [List.getD_eq_getElem?_getD, List.getElem?_append_left (by omega), ← List.getD_eq_getElem?_getD]
      rw [e1, e2]
      exact keep _ _ (h3 i hij)
    · obtain rfl : i = xs.length := by omega
      have e1 : (cs ++ [r]).getD xs.length undef = r := by simp [List.getD, ← hcl]
      have e2 : (xs ++ [x]).getD xs.length d = x := by simp [List.getD]
      rw [e1, e2]
      exact keep _ _ hr
end Go.Proofs.YtbfihajgjbpmaaaGreat
/- Rows that are shared, in blocks of F. -/
namespace Go.Proofs.YtbfihajgjbpmaaaGreat
open Go.ChangeShapes Go.WideShapes Go.ChangeAt Go.RowKit
set_option linter.unusedVariables false
set_option maxRecDepth 4000

/-- rows in a slice, in blocks of F -/
theorem slR_of {w : World} {a : Option Addr} {n : Nat} {ps : List P9} {F : Nat → Prop} (h : SV 1 w a n (pc ps)) (hp : ∀ p ∈ ps, rowRep.rep w (sV p.1) p.2 F) (ha : ∀ x, a = some x → F x.block) : SlR rowRep [] w a n (ps.map (·.2)) F := by
  have hl : ps.length = n := by have := h.1; rw [pc_len] at this; omega
  refine ⟨by rw [List.length_map, hl], ?_⟩
  rcases h.2.2 with h0 | ⟨b, off, rfl, hc⟩
  · exact .inl h0
  · refine .inr ⟨b, off, rfl, ha _ rfl, fun i hi => ⟨_, hc i _ (pc_at (by omega)), ?_⟩⟩
    have hi' : i < ps.length := by omega
    have e : (ps.map (·.2)).getD i [] = (ps.getD i p9).2 := by simp [List.getD, hi']
    have e2 : ps.getD i p9 = ps[i] := by simp [List.getD, hi']
    rw [e, e2]; exact hp _ (List.getElem_mem _)
end Go.Proofs.YtbfihajgjbpmaaaGreat
