/- Slices of bytes: how they stand the growth of memory, how they are cut, and turned into texts; the contract of 'short'. -/
import Derived.Test.YtmoppmifhhnolaaB
import Derived.Laws.BytesArg
namespace Go.Proofs.Ytmoppmifhhnolaa
open Go.ChangeShapes Go.WideShapes Go.ChangeAt Go.RowKit
set_option linter.unusedVariables false

theorem BV.mono {w w' : World} {a : Option Addr} {n : Nat} {zs : List Int} (h : BV w a n zs) (hc : ∀ b o v, w.cell? ⟨b, o, none⟩ = some v → w'.cell? ⟨b, o, none⟩ = some v) : BV w' a n zs := by
  obtain ⟨h1, h2, h3⟩ := h
  refine ⟨h1, h2, ?_⟩
  rcases h3 with h3 | ⟨b, off, rfl, hcell⟩
  · exact .inl h3
  · exact .inr ⟨b, off, rfl, fun i hi => hc _ _ _ (hcell i hi)⟩
theorem cell_lt {w : World} {b o : Nat} {v : Value} (h : w.cell? ⟨b, o, none⟩ = some v) : b < w.heap.size := by
  rcases Nat.lt_or_ge b w.heap.size with h' | h'
  · exact h'
  · simp [World.cell?, Array.getElem?_eq_none h'] at h
theorem cell_alloc (w : World) (o : Obj) {b i : Nat} {v : Value} (h : w.cell? ⟨b, i, none⟩ = some v) : (w.alloc o).cell? ⟨b, i, none⟩ = some v := by
  have := cell_lt h
  rw [World.cell?_of_block (w := w) (a := ⟨b, i, none⟩)]
  · exact h
  · show (w.heap.push o)[b]? = _
    rw [Array.getElem?_push]; simp; omega
theorem BV.alloc {w : World} {a : Option Addr} {n : Nat} {zs : List Int} (h : BV w a n zs) (o : Obj) : BV (w.alloc o) a n zs := h.mono fun _ _ _ hc => cell_alloc w o hc
theorem BV.drew {w : World} {a : Option Addr} {n : Nat} {zs : List Int} (h : BV w a n zs) : BV w.drew a n zs := h
theorem BV.drewN {w : World} {a : Option Addr} {n : Nat} {zs : List Int} (h : BV w a n zs) (k : Nat) : BV (w.drewN k) a n zs := h
theorem BV.below {w w' : World} {a : Option Addr} {n : Nat} {zs : List Int} (h : BV w a n zs) (hb : Below w.heap.size w w') : BV w' a n zs :=
  h.mono fun b o v hc => by rw [hb.cell (p := ⟨b, o, none⟩) (cell_lt hc)]; exact hc
theorem BV.take {w : World} {a : Option Addr} {n : Nat} {zs : List Int} (h : BV w a n zs) (m : Nat) (hm : m ≤ n) : BV w a m (zs.take m) := by
  obtain ⟨h1, h2, h3⟩ := h
  refine ⟨by simp; omega, fun z hz => h2 z (List.mem_of_mem_take hz), ?_⟩
  rcases h3 with h3 | ⟨b, off, rfl, hcell⟩
  · exact .inl (by omega)
  · refine .inr ⟨b, off, rfl, fun i hi => ?_⟩
    rw [hcell i (by omega)]
    simp [hi]
theorem pv_range : ∀ (m : Nat) (x : Int), x.toNat < m → 0 ≤ x → ∀ z ∈ pv x, 0 ≤ z ∧ z ≤ 255
  | 0, x, hm, h0, z, hz => by omega
  | m + 1, x, hm, h0, z, hz => by
    by_cases h : x < 128
    · rw [pv_small h] at hz; simp at hz; omega
    · rw [pv_big h] at hz
      rcases List.mem_cons.1 hz with hz | hz
      · omega
      · exact pv_range m (x / 128) (by omega) (by omega) z hz
theorem pv_bytes {x : Int} (h0 : 0 ≤ x) : ∀ z ∈ pv x, 0 ≤ z ∧ z ≤ 255 := pv_range _ x (Nat.lt_succ_self _) h0
theorem BV.pv {x : Int} (w : World) (h0 : 0 ≤ x) : BV (w.alloc (pvObj x)) (some ⟨w.heap.size, 0, none⟩) (Go.Proofs.Ytmoppmifhhnolaa.pv x).length (Go.Proofs.Ytmoppmifhhnolaa.pv x) :=
  ⟨rfl, pv_bytes h0, .inr ⟨_, _, rfl, fun i hi => by rw [Nat.zero_add]; exact pvObj_cell x w i hi⟩⟩
/-- a slice of bytes that came in -/
theorem bv_of {w : World} {a : Option Addr} {len cap : Nat} {zs : List Int}
    (h : (a = none ∧ len = 0 ∧ cap = 0 ∧ zs = []) ∨ ∃ x, a = some x ∧ len ≤ cap ∧ cap ≤ maxLen ∧ zs.length = cap ∧ (∀ i, i < zs.length → w.cell? (x.add i) = some (.int .u8 (zs.getD i 0))) ∧ ∀ n ∈ zs, (Lit.int .u8 n).wf = true) :
    BV w a len (zs.take len) ∧ len ≤ cap ∧ cap ≤ maxLen := by
  rcases h with ⟨rfl, rfl, rfl, rfl⟩ | ⟨x, rfl, hl, hm, hz, hcell, hwz⟩
  · exact ⟨⟨rfl, by simp, .inl rfl⟩, Nat.le_refl _, Nat.zero_le _⟩
  · refine ⟨⟨by simp; omega, fun z hz' => bounds_u8 (hwz z (List.mem_of_mem_take hz')), ?_⟩, hl, hm⟩
    by_cases h0 : len = 0
    · exact .inl h0
    · obtain ⟨b, off, spot⟩ := x
      have hc := hcell 0 (by omega)
      have hspot : spot = none := by simpa [Addr.add] using World.cell?_spot hc
      subst hspot
      refine .inr ⟨b, off, rfl, fun i hi => ?_⟩
      have := hcell i (by omega)
      have ha : (⟨b, off, none⟩ : Addr).add i = ⟨b, off + i, none⟩ := by unfold Addr.add; split <;> simp_all
      rw [ha] at this
      simp [hi]
      simpa using this

/-- a slice of bytes as a text -/
theorem conv_any {w : World} {a : Option Addr} {n : Nat} {zs : List Int} (h : BV w a n zs) (cap : Nat) : (convert 23 9 (.slice a n cap)).run Try.prog w = .ok (.string (strOfNums zs)) w := by
  obtain ⟨h1, h2, h3⟩ := h
  rcases h3 with h3 | ⟨b, off, rfl, hcell⟩
  · subst h3
    have hz : zs = [] := List.eq_nil_of_length_eq_zero h1
    subst hz
    cases a with
    | none => exact run_convert_bytes_nil w 23 5 Try.underlying23 Try.underlying5 0 cap 9 Try.underlying9
    | some x =>
      rw [run_convert_bytes_string w 23 9 5 _ 0 cap Try.underlying23 Try.underlying5 Try.underlying9, run_bytesToString w _ 0 cap []]
      · rfl
      · exact run_loadCells_list w x [] (by simp)
  · exact run_convert_bytes_arg w 23 5 Try.underlying23 Try.underlying5 b off n cap zs h1 hcell 9 Try.underlying9

end Go.Proofs.Ytmoppmifhhnolaa
