/- Slices of ints, and of bytes, in memory: what they hold, how they stand stores into other blocks, how they are cut; slices that are made. -/
import Derived.Test.YtmoppmifhhnolaaH0
import Derived.Test.YtmoppmifhhnolaaG3
import Derived.Test.YtmoppmifhhnolaaG5
import Derived.Deep.OwnRows
namespace Go.Proofs.Ytmoppmifhhnolaa
open Go.ChangeShapes Go.WideShapes Go.ChangeAt Go.RowKit
set_option linter.unusedVariables false

/-- the slice at A of N ints is ts -/
abbrev IV (w : World) (A : Option Addr) (N : Nat) (ts : List Int) : Prop := SV 1 w A N (icells ts)
theorem IV.len {w : World} {A : Option Addr} {N : Nat} {ts : List Int} (h : IV w A N ts) : ts.length = N := by have := h.1; simpa [icells] using this
theorem IV.at {w : World} {A : Option Addr} {N : Nat} {ts : List Int} (h : IV w A N ts) (i : Nat) (hi : i < N) :
    ∃ b off, A = some ⟨b, off, none⟩ ∧ w.cell? ⟨b, off + i, none⟩ = some (.int .i64 (ts.getD i 0)) := by
  have hl := IV.len h
  obtain ⟨h1, h2, h3⟩ := h
  rcases h3 with h3 | ⟨b, off, rfl, hc⟩
  · omega
  · refine ⟨b, off, rfl, hc i _ ?_⟩
    simp [icells, show i < ts.length by omega]
/-- a slice of n elements that lies below block B -/
def Low (B : Nat) (a : Option Addr) (n : Nat) : Prop := n = 0 ∨ ∀ x, a = some x → x.block < B
theorem Low.of {w : World} {a : Option Addr} {n : Nat} {zs : List Int} (h : BV w a n zs) : Low w.heap.size a n := by
  rcases h.2.2 with h3 | ⟨b, off, rfl, hc⟩
  · exact .inl h3
  · by_cases hn : n = 0
    · exact .inl hn
    · exact .inr (fun x hx => by cases hx; exact cell_lt (hc 0 (by omega)))
theorem Low.mono {B B' : Nat} {a : Option Addr} {n : Nat} (h : Low B a n) (hb : B ≤ B') : Low B' a n := h.elim .inl (fun h => .inr (fun x hx => Nat.lt_of_lt_of_le (h x hx) hb))
theorem BV.set {w : World} {B i : Nat} {a : Option Addr} {n : Nat} {zs : List Int} (h : BV w a n zs) (hl : Low B a n) (u : Value) : BV (w.setCell ⟨B, i, none⟩ u) a n zs := by
  obtain ⟨h1, h2, h3⟩ := h
  refine ⟨h1, h2, ?_⟩
  rcases h3 with h3 | ⟨b, off, rfl, hc⟩
  · exact .inl h3
  · by_cases hn : n = 0
    · exact .inl hn
    refine .inr ⟨b, off, rfl, fun j hj => ?_⟩
    have hb : b < B := hl.resolve_left hn _ rfl
    rw [World.cell?_setCell_other _ _ _ _ (fun h => by cases h; omega)]
    exact hc j hj
/-- a slice that is cut from k on, as the walk writes it -/
theorem BV.cutA {w : World} {a : Option Addr} {n : Nat} {zs : List Int} (h : BV w a n zs) (k c : Nat) (hk : k ≤ n) (hc : n ≤ c) :
    BV w (if c = k then a else Option.map (fun x => x.add k) a) (n - k) (zs.drop k) := by
  obtain ⟨h1, h2, h3⟩ := id h
  rcases h3 with h3 | ⟨b, off, rfl, _⟩
  · have e : zs = [] := List.eq_nil_of_length_eq_zero (by omega)
    subst e
    exact ⟨by simp; omega, by simp, .inl (by omega)⟩
  · have := h.cut k c hk hc
    have ha : (⟨b, off, none⟩ : Addr).add k = ⟨b, off + k, none⟩ := by unfold Addr.add; split <;> simp_all
    simpa [ha] using this
theorem low_cut {B : Nat} {a : Option Addr} {n : Nat} (h : Low B a n) (p : Prop) [Decidable p] (k : Nat) : Low B (if p then a else Option.map (fun x => x.add k) a) (n - k) := by
  rcases h with h | h
  · exact .inl (by omega)
  · refine .inr fun x hx => ?_
    split at hx
    · exact h x hx
    · cases a with
      | none => cases hx
      | some y =>
        simp only [Option.map_some, Option.some.injEq] at hx
        have := h y rfl
        rw [← hx]
        unfold Addr.add
        split <;> exact this
theorem madeCells_int (n : Nat) : madeCells #[Value.int .i64 0] n = (icells (List.replicate n 0)).toArray := by
  refine Array.ext' ?_
  simp [madeCells, icells]
  refine List.ext_getElem (by simp) (fun i h1 h2 => ?_)
  simp [Nat.mod_one]
theorem set_fill (l : List Int) (N : Nat) (x : Int) (h : l.length < N) : (icells (l ++ List.replicate (N - l.length) 0)).set l.length (.int .i64 x) = icells ((l ++ [x]) ++ List.replicate (N - (l.length + 1)) 0) := by
  obtain ⟨m, hm⟩ : ∃ m, N - l.length = m + 1 := ⟨N - l.length - 1, by omega⟩
  rw [hm, show N - (l.length + 1) = m from by omega, List.replicate_succ]
  simp [icells]
theorem few_max' {n : Nat} (h : n ≤ 1000000) : n ≤ maxLen := by unfold maxLen; omega
theorem size_set (w : World) (a : Addr) (u : Value) : (w.setCell a u).heap.size = w.heap.size := by simp [World.setCell]
theorem OS.setN {k : Nat} {w : World} {base b i g c : Nat} {n : Nat} {cs : List Value} (h : OS k w base (.slice (some ⟨g, 0, none⟩) n c) n cs) (hb : g ≠ b) (u : Value) : OS k (w.setCell ⟨b, i, none⟩ u) base (.slice (some ⟨g, 0, none⟩) n c) n cs := by
  obtain ⟨h1, h2, h3⟩ := h
  refine ⟨h1, h2, ?_⟩
  rcases h3 with ⟨h3, _⟩ | ⟨g', cap, cur, T, hv, hg, hh, hr⟩
  · cases h3
  · cases hv
    exact .inr ⟨g, c, cur, T, rfl, hg, (Below.heap_setCell _ _ _ _ hb).trans hh, hr⟩
theorem list_getD {ts us : List Int} (hl : ts.length = us.length) (h : ∀ i, i < ts.length → ts.getD i 0 = us.getD i 0) : ts = us := by
  refine List.ext_getElem hl (fun i h1 h2 => ?_)
  have := h i h1
  simpa [List.getD, h1, h2] using this
theorem take_snocI (ts : List Int) (j : Nat) (h : j < ts.length) : ts.take (j + 1) = ts.take j ++ [ts.getD j 0] := by
  rw [List.take_succ_eq_append_getElem h]; simp [List.getD, h]
theorem SV.lit {k : Nat} (w : World) (cs : List Value) (n : Nat) (T : TypeId) (h1 : cs.length = n * k) (h2 : ∀ u ∈ cs, u.oneCell' = true) : SV k (w.alloc (.cells cs.toArray T)) (some ⟨w.heap.size, 0, none⟩) n cs :=
  ⟨h1, h2, .inr ⟨_, 0, rfl, fun i u hi => by rw [Nat.zero_add, World.cell?_alloc_new]; simpa using hi⟩⟩
theorem SV.lit' {k : Nat} (w : World) (cs : List Value) (n : Nat) (T : TypeId) (h1 : cs.length = n * k) (h2 : ∀ u ∈ cs, u.oneCell' = true) (g : Nat) (hg : g = w.heap.size) : SV k (w.alloc (.cells cs.toArray T)) (some ⟨g, 0, none⟩) n cs := by
  subst hg; exact SV.lit w cs n T h1 h2
theorem IV.take {w : World} {A : Option Addr} {n : Nat} {l : List Int} (h : IV w A n l) (m : Nat) (hm : m ≤ n) : IV w A m (l.take m) := by
  have := SV.take h m hm
  rwa [Nat.mul_one, icells, ← List.map_take] at this
end Go.Proofs.Ytmoppmifhhnolaa
