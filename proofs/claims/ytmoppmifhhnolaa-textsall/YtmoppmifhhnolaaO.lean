/- Bytes that the call itself gathers: slices of its own that it appends to. -/
import Derived.Test.YtmoppmifhhnolaaR
import Derived.OwnWalk
import Derived.Laws.OwnMore
namespace Go.Proofs.Ytmoppmifhhnolaa
open Go.ChangeShapes Go.WideShapes Go.ChangeAt Go.RowKit
set_option linter.unusedVariables false

/-- v holds the bytes bs, in memory of the call's own, from block number base on -/
def OB (w : World) (base : Nat) (v : Value) (bs : List Int) : Prop := w.ownsRow base 5 1 v bs.length (bs.map (Value.int .u8))

theorem info5 : (Try.prog.info? 5).map (fun i => (i.zero, i.size, i.bytes)) = some (some (.int .u8 0), 1, 1) := by kernel_rfl

theorem heap_alloc (w : World) (o : Obj) : (w.alloc o).heap.size = w.heap.size + 1 := by show (w.heap.push o).size = _; simp
theorem OB.empty (w : World) (base : Nat) (hb : base ≤ w.heap.size) (g : Nat) (hg : g = w.heap.size) : OB (w.alloc (.cells #[] 5)) base (.slice (some ⟨g, 0, none⟩) 0 0) [] := by
  subst hg
  refine ⟨rfl, .inr ⟨w.heap.size, 0, #[], rfl, hb, ?_, Nat.le_refl _, Nat.zero_le _, rfl, rfl⟩⟩
  show (w.heap.push _)[w.heap.size]? = _
  simp
theorem OB.alloc {w : World} {base : Nat} {v : Value} {bs : List Int} (h : OB w base v bs) (o : Obj) : OB (w.alloc o) base v bs := World.ownsRow.alloc h o
theorem OB.drew {w : World} {base : Nat} {v : Value} {bs : List Int} (h : OB w base v bs) : OB w.drew base v bs := h
theorem OB.lt {w : World} {base : Nat} {v : Value} {bs : List Int} (h : OB w base v bs) : ∀ k, v.ownBlock = some k → base ≤ k := fun k hk => (World.ownsRow.lt h k hk).1

/-- what is owned is a slice of bytes -/
theorem OB.bv {w : World} {base : Nat} {v : Value} {bs : List Int} (h : OB w base v bs) (hb : ∀ z ∈ bs, 0 ≤ z ∧ z ≤ 255) :
    ∃ a cap, v = .slice a bs.length cap ∧ bs.length ≤ cap ∧ BV w a bs.length bs ∧ ∀ x, a = some x → base ≤ x.block := by
  have h' := h
  rcases h.2 with ⟨rfl, h0⟩ | ⟨g, cap, cur, rfl, hg, hh, hl, hm, hs, ht⟩
  · refine ⟨none, 0, by rw [h0], by omega, ⟨rfl, hb, .inl h0⟩, fun x hx => by cases hx⟩
  · refine ⟨_, cap, rfl, hl, ⟨rfl, hb, .inr ⟨g, 0, rfl, fun i hi => ?_⟩⟩, fun x hx => by cases hx; exact hg⟩
    unfold OB at h'
    rw [Nat.zero_add, World.ownsRow.cellAt h' i (by omega)]
    simp [hi]

theorem OB.bvn {w : World} {base : Nat} {v : Value} {bs : List Int} (h : OB w base v bs) (hb : ∀ z ∈ bs, 0 ≤ z ∧ z ≤ 255) (n : Nat) (hn : bs.length = n) :
    ∃ a cap, v = .slice a n cap ∧ n ≤ cap ∧ BV w a n bs ∧ (∀ x, a = some x → base ≤ x.block) := by
  subst hn; exact h.bv hb
theorem BV.cells {w : World} {b n : Nat} {zs : List Int} (h : BV w (some ⟨b, 0, none⟩) n zs) : ∀ j u, (zs.map (Value.int .u8))[j]? = some u → w.cell? ((⟨b, 0, none⟩ : Addr).add j) = some u := by
  intro j u hj
  obtain ⟨h1, h2, h3⟩ := h
  have hjl : j < zs.length := by
    rcases Nat.lt_or_ge j zs.length with h | h
    · exact h
    · simp [List.getElem?_eq_none h] at hj
  rcases h3 with h3 | ⟨b', off, hb, hcell⟩
  · omega
  · cases hb
    have ha : (⟨b, 0, none⟩ : Addr).add j = ⟨b, 0 + j, none⟩ := by unfold Addr.add; split <;> simp_all
    rw [ha, hcell j (by omega)]
    simp [hjl] at hj ⊢
    exact hj
theorem oneCells (zs : List Int) : ∀ u ∈ zs.map (Value.int .u8), u.oneCell' = true := by
  intro u hu
  obtain ⟨z, _, rfl⟩ := List.mem_map.1 hu
  rfl
theorem BV.drop {w : World} {b off n : Nat} {zs : List Int} (h : BV w (some ⟨b, off, none⟩) n zs) (k : Nat) (hk : k ≤ n) : BV w (some ⟨b, off + k, none⟩) (n - k) (zs.drop k) := by
  obtain ⟨h1, h2, h3⟩ := h
  refine ⟨by simp; omega, fun z hz => h2 z (List.mem_of_mem_drop hz), ?_⟩
  rcases h3 with h3 | ⟨b', off', hb, hcell⟩
  · exact .inl (by omega)
  · cases hb
    refine .inr ⟨b, off + k, rfl, fun i hi => ?_⟩
    have := hcell (k + i) (by omega)
    rw [show off + k + i = off + (k + i) from by omega, this]
    simp [List.getD]
/-- a slice that is cut from k on, as the walk writes it -/
theorem BV.cut {w : World} {b off n : Nat} {zs : List Int} (h : BV w (some ⟨b, off, none⟩) n zs) (k c : Nat) (hk : k ≤ n) (hc : n ≤ c) :
    BV w (if c = k then some ⟨b, off, none⟩ else some ⟨b, off + k, none⟩) (n - k) (zs.drop k) := by
  split
  · have := h.drop k hk
    exact ⟨this.1, this.2.1, .inl (by omega)⟩
  · exact h.drop k hk
end Go.Proofs.Ytmoppmifhhnolaa
