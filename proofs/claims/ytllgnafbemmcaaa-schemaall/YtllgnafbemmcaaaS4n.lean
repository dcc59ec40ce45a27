/- Contract of the statements' own few; slices of rows of the call's own. -/
import Derived.Test.YtllgnafbemmcaaaS4l
import Derived.Test.YtllgnafbemmcaaaG6
namespace Go.Proofs.Ytllgnafbemmcaaa
open Go.ChangeShapes Go.WideShapes Go.ChangeAt Go.RowKit
set_option linter.unusedVariables false

theorem el_rows : El 25 30 1 24 (.slice none 0 0) := ⟨Try.underlying25, by kernel_rfl, rfl, by omega⟩
/-- v is a row, and does not lie in block k -/
def RO (w : World) (k : Option Nat) (v : Value) (vs : List (Int × ByteArray)) : Prop :=
  RowAt w v vs ∧ ∀ A L C, v = .slice A L C → L = 0 ∨ ∀ x, A = some x → k ≠ some x.block
theorem row_keep {w w' : World} {v : Value} {vs : List (Int × ByteArray)} {k : Option Nat} (h : RO w k v vs) (hs : ∀ b, b < w.heap.size → k ≠ some b → w'.heap[b]? = w.heap[b]?) : RowAt w' v vs := by
  obtain ⟨⟨A, L, C, hv, h1, h2, h3, h4, h5⟩, ho⟩ := h
  refine ⟨A, L, C, hv, h1, h2, h3, ?_, h5⟩
  obtain ⟨q1, q2, q3⟩ := h4
  refine ⟨q1, q2, ?_⟩
  rcases q3 with q3 | ⟨b, off, rfl, hc⟩
  · exact .inl q3
  · rcases ho _ _ _ hv with h0 | hne
    · exact .inl h0
    · refine .inr ⟨b, off, rfl, fun i u hi => ?_⟩
      have hcell := hc i u hi
      exact cell_block (hs b (cell_lt hcell) (hne _ rfl)) hcell
theorem RO.keep {w w' : World} {v : Value} {vs : List (Int × ByteArray)} {k k' : Option Nat} (h : RO w k v vs) (hs : ∀ b, b < w.heap.size → k ≠ some b → w'.heap[b]? = w.heap[b]?) (hk : k' = k ∨ k' = some w.heap.size) : RO w' k' v vs := by
  refine ⟨row_keep h hs, fun A L C hv => ?_⟩
  obtain ⟨⟨A1, L1, C1, hv1, h1, h2, h3, h4, h5⟩, ho⟩ := h
  rcases ho A L C hv with h0 | hne
  · exact .inl h0
  · rcases hk with rfl | rfl
    · exact .inr hne
    · by_cases hL : L = 0
      · exact .inl hL
      · refine .inr fun x hx h => ?_
        rw [hv1] at hv
        cases hv
        rcases h4.2.2 with q | ⟨b, off, rfl, hc⟩
        · exact hL q
        · cases hx
          have hl := h4.1
          have : 0 < (vcells vs).length := by rw [hl]; omega
          have hlt := cell_lt (hc 0 _ (List.getElem?_eq_getElem this))
          simp at h
          omega
theorem RO.below {w w' : World} {v : Value} {vs : List (Int × ByteArray)} {k : Option Nat} (h : RO w k v vs) (hb : Below w.heap.size w w') : RO w' k v vs := ⟨h.1.below hb, h.2⟩
/-- a row of the call's own that is younger than block k -/
theorem RO.own {w : World} {base : Nat} {v : Value} {n : Nat} {vs : List (Int × ByteArray)} {k : Option Nat} (h : OS 2 w base v n (vcells vs)) (hk : ∀ b, k = some b → b < base) : RO w k v vs := by
  have hl : vs.length = n := by have := h.1; rw [vcells_len] at this; omega
  obtain ⟨a, c, rfl, h1, h2, h3, h4, h5⟩ := h.sv
  refine ⟨⟨a, n, c, rfl, h1, h2, hl, h3, fun ha => ?_⟩, fun A L C hv => ?_⟩
  · subst ha
    rcases h.2.2 with ⟨h6, _⟩ | ⟨g, cap, cur, T, h6, _⟩
    · cases h6; rfl
    · cases h6
  · cases hv
    refine .inr fun x hx hkx => ?_
    have := hk _ hkx
    have := h4 x hx
    omega
/-- v holds the rows vss, in memory of the call's own -/
def OwnRows (w : World) (base : Nat) (v : Value) (j : Nat) (vss : List (List (Int × ByteArray))) : Prop :=
  ∃ cs, OS 1 w base v j cs ∧ vss.length = j ∧ ∀ i, i < j → RO w v.ownBlock (cs.getD i undef) (vss.getD i [])
theorem OwnRows.below {w w' : World} {base : Nat} {v : Value} {j : Nat} {vss : List (List (Int × ByteArray))} (h : OwnRows w base v j vss) (hb : Below w.heap.size w w') : OwnRows w' base v j vss := by
  obtain ⟨cs, h1, h2, h3⟩ := h
  exact ⟨cs, h1.below hb, h2, fun i hi => (h3 i hi).below hb⟩
theorem OwnRows.lt {w : World} {base : Nat} {v : Value} {j : Nat} {vss : List (List (Int × ByteArray))} (h : OwnRows w base v j vss) : ∀ b, v.ownBlock = some b → b < w.heap.size := by
  obtain ⟨cs, ⟨_, _, h3⟩, _⟩ := h
  intro b hb
  rcases h3 with ⟨rfl, _⟩ | ⟨g, cap, cur, T, rfl, hg, hh, _⟩
  · cases hb
  · cases hb; exact heap_lt hh
theorem OwnRows.rvs {w : World} {base : Nat} {v : Value} {j : Nat} {vss : List (List (Int × ByteArray))} (h : OwnRows w base v j vss) : ∃ a c, v = .slice a j c ∧ RVs w a j vss := by
  obtain ⟨cs, h1, h2, h3⟩ := h
  obtain ⟨a, c, rfl, q1, q2, q3, q4, q5⟩ := h1.sv
  refine ⟨a, c, rfl, h2, ?_⟩
  rcases q3.2.2 with q | ⟨b, off, rfl, hc⟩
  · exact .inl q
  · refine .inr ⟨b, off, rfl, fun i hi => ?_⟩
    have hl : i < cs.length := by rw [h1.1]; omega
    refine ⟨cs.getD i undef, hc i _ (by simp [List.getD, hl]), (h3 i hi).1⟩
/-- one more row behind them -/
theorem OwnRows.snoc {w w' : World} {base : Nat} {v v' r : Value} {j : Nat} {vss : List (List (Int × ByteArray))} {cs : List Value} {vs : List (Int × ByteArray)} (h1 : OS 1 w' base v' (j + 1) (cs ++ [r])) (hl : vss.length = j) (hcl : cs.length = j)
    (h3 : ∀ i, i < j → RO w v.ownBlock (cs.getD i undef) (vss.getD i [])) (hr : RO w v.ownBlock r vs) (hk : v'.ownBlock = v.ownBlock ∨ v'.ownBlock = some w.heap.size) (hs : ∀ b, b < w.heap.size → v.ownBlock ≠ some b → w'.heap[b]? = w.heap[b]?) : OwnRows w' base v' (j + 1) (vss ++ [vs]) := by
  refine ⟨cs ++ [r], h1, by simp [hl], fun i hi => ?_⟩
  by_cases hij : i < j
  · have e1 : (cs ++ [r]).getD i undef = cs.getD i undef := by rw [List.getD_eq_getElem?_getD, List.getElem?_append_left (by omega), ← List.getD_eq_getElem?_getD]
    have e2 : (vss ++ [vs]).getD i [] = vss.getD i [] := by rw [List.getD_eq_getElem?_getD, List.getElem?_append_left (by omega), ← List.getD_eq_getElem?_getD]
    rw [e1, e2]
    exact (h3 i hij).keep hs hk
  · obtain rfl : i = j := by omega
    have e1 : (cs ++ [r]).getD i undef = r := by simp [List.getD, ← hcl]
    have e2 : (vss ++ [vs]).getD i [] = vs := by simp [List.getD, ← hl]
    rw [e1, e2]
    exact hr.keep hs hk
/-- what few tells -/
def FewE (w w' : World) (A : Option Addr) (N C : Nat) (k m g : Int) (e : Ending) : Prop :=
  ∃ M, e = .returned (SS A M C k m g) ∧ M ≤ 70 ∧ M ≤ N ∧ Below w.heap.size w w'
theorem IV.takes {w : World} {A : Option Addr} {N : Nat} {ts : List Int} (h : IV w A N ts) (k : Nat) (hk : k ≤ N) : IV w A k (ts.take k) := by
  have := SV.take h k hk
  have e : (icells ts).take (k * 1) = icells (ts.take k) := by simp [icells, List.map_take]
  rwa [e] at this
set_option maxHeartbeats 1000000 in
theorem few_any (A : Option Addr) (N C : Nat) (ts : List Int) (k m g : Int) (w : World) (hv : IV w A N ts) (hC : N ≤ C) (hN : N ≤ maxLen) :
    Calls Try.prog 10 #[SS A N C k m g] w fun e w' => FewE w w' A N C k m g e := by
  unfold maxLen at hN
  by_cases h : (N : Int) ≤ 70
  · go_enter Try.func10, Try.ntmps10
    go_wp2_with fail
    exact bodyPost_ret (res_ss rfl _ _ rfl (by have := Bk.new (w.alloc (.cells #[.slice A N C, .int .i64 k, .int .i64 m, .int .i64 g] 24)) #[.slice A N C, .int .i64 k, .int .i64 m, .int .i64 g] 24; rw [heap_alloc] at this; exact this.sx)) rfl ⟨N, rfl, by omega, by omega, Joins.below_alloc2 _ _ _⟩
  · have h7 : (70 : Int) ≤ (C : Int) := by omega
    have h7c : 70 ≤ C := by omega
    go_enter Try.func10, Try.ntmps10
    go_wp2_with fail
    exact bodyPost_ret (res_ss rfl _ _ rfl (by have := Bk.new (w.alloc (.cells #[.slice A 70 C, .int .i64 k, .int .i64 m, .int .i64 g] 24)) #[.slice A 70 C, .int .i64 k, .int .i64 m, .int .i64 g] 24; rw [heap_alloc] at this; exact this.sx)) rfl ⟨70, rfl, by omega, by omega, Joins.below_alloc2 _ _ _⟩
end Go.Proofs.Ytllgnafbemmcaaa
