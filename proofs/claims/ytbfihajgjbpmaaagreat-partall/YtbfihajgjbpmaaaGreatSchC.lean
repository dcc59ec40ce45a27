/- Texts that belong together, one behind the other: S4h, S4i, S4q, S4l, S4n, S4t, S4tt. -/
import Derived.Test.YtbfihajgjbpmaaaGreatSchB
import Derived.Test.YtbfihajgjbpmaaaGreatBase
import Derived.Lib.SmallJoins
/- Contract of the statements' own short: a row of at most 70 values. -/
namespace Go.Proofs.YtbfihajgjbpmaaaGreat
open Go.ChangeShapes Go.WideShapes Go.ChangeAt Go.RowKit
set_option linter.unusedVariables false
set_option maxRecDepth 4000

def cut7 (v : Int × ByteArray) : Int × ByteArray := (v.1, cut 70 v.2)
/-- the first values of a row that is made short -/
def shortP (vs : List (Int × ByteArray)) (j : Nat) : List (Int × ByteArray) := (vs.take j).map cut7
def shortR (vs : List (Int × ByteArray)) : List (Int × ByteArray) := shortP vs 70
theorem shortP_snoc {vs : List (Int × ByteArray)} {j : Nat} (h : j < vs.length) : shortP vs (j + 1) = shortP vs j ++ [cut7 (vs.getD j v0)] := by
  rw [shortP, List.take_succ_eq_append_getElem h, List.map_append]; simp [shortP, List.getD, h]
theorem shortR_at {vs : List (Int × ByteArray)} {j : Nat} (h : j = 70 ∨ (j ≤ 70 ∧ vs.length ≤ j)) : shortP vs j = shortR vs := by
  rcases h with rfl | ⟨h1, h2⟩
  · rfl
  · rw [shortR, shortP, shortP, List.take_of_length_le h2, List.take_of_length_le (by omega)]
theorem shortR_rg {vs : List (Int × ByteArray)} (h : RgV vs) : RgV (shortR vs) := by
  intro v hv
  obtain ⟨x, hx, rfl⟩ := List.mem_map.1 hv
  exact h x (List.mem_of_mem_take hx)
end Go.Proofs.YtbfihajgjbpmaaaGreat
/- SchemaOrders: the walk. -/
namespace Go.Proofs.YtbfihajgjbpmaaaGreat
open Go.ChangeShapes Go.WideShapes Go.ChangeAt Go.RowKit
set_option linter.unusedVariables false
set_option maxRecDepth 4000

theorem few_max {n : Nat} (h : n ≤ 1000000) : n ≤ maxLen := by unfold maxLen; omega
/-- a schema that may be was made -/
def MadeG (w w' : World) (e : Ending) : Prop :=
  ∃ (A : Option Addr) (N C K : Nat) (m g : Int) (ts : List Int), e = .returned (SS A N C K m g) ∧ checkB ts (K : Int) m g = true ∧ N ≤ 8 ∧ OS 1 w' w.heap.size (.slice A N C) N (icells ts) ∧ Below w.heap.size w w'
theorem MadeG.keys {ts : List Int} {K : Nat} {m g : Int} (h : checkB ts (K : Int) m g = true) : 1 ≤ K ∧ K ≤ ts.length ∧ ts.length ≤ 64 := by
  have := check_is h; omega
/-- the cells of a shape -/
abbrev shC (l0 l1 l2 l3 l4 l5 l6 l7 n keys mode grain : Int) : Array Value := #[.int .u8 l0, .int .u8 l1, .int .u8 l2, .int .u8 l3, .int .u8 l4, .int .u8 l5, .int .u8 l6, .int .u8 l7, .int .u8 n, .int .u8 keys, .int .u8 mode, .int .u8 grain]
theorem Bk.shape {w : World} {b : Nat} {T : TypeId} {l0 l1 l2 l3 l4 l5 l6 l7 n keys mode grain : Int} (h : Bk w b (shC l0 l1 l2 l3 l4 l5 l6 l7 n keys mode grain) T) :
    (w.cell? ⟨b, 0, none⟩ = some (.int .u8 l0) ∧ w.cell? ⟨b, 1, none⟩ = some (.int .u8 l1) ∧ w.cell? ⟨b, 2, none⟩ = some (.int .u8 l2) ∧ w.cell? ⟨b, 3, none⟩ = some (.int .u8 l3)) ∧
    (w.cell? ⟨b, 4, none⟩ = some (.int .u8 l4) ∧ w.cell? ⟨b, 5, none⟩ = some (.int .u8 l5) ∧ w.cell? ⟨b, 6, none⟩ = some (.int .u8 l6) ∧ w.cell? ⟨b, 7, none⟩ = some (.int .u8 l7)) ∧
    (w.cell? ⟨b, 8, none⟩ = some (.int .u8 n) ∧ w.cell? ⟨b, 9, none⟩ = some (.int .u8 keys) ∧ w.cell? ⟨b, 10, none⟩ = some (.int .u8 mode) ∧ w.cell? ⟨b, 11, none⟩ = some (.int .u8 grain)) :=
  ⟨⟨h.cell 0 rfl, h.cell 1 rfl, h.cell 2 rfl, h.cell 3 rfl⟩, ⟨h.cell 4 rfl, h.cell 5 rfl, h.cell 6 rfl, h.cell 7 rfl⟩, ⟨h.cell 8 rfl, h.cell 9 rfl, h.cell 10 rfl, h.cell 11 rfl⟩⟩
end Go.Proofs.YtbfihajgjbpmaaaGreat
/- Plain facts on the order of rows that were made to fit. -/
namespace Go.Proofs.YtbfihajgjbpmaaaGreat
open Go.ChangeShapes Go.WideShapes Go.ChangeAt Go.RowKit
set_option linter.unusedVariables false
set_option maxRecDepth 4000

theorem cmpRow_anti' {α : Type} {ok : Int → α → Prop} {c : Int → α → α → Int} (hc : OrdC ok c) : ∀ ts l r, OkR ok ts l → OkR ok ts r → cmpRow c ts r l = - cmpRow c ts l r
  | [], l, r, _, _ => by simp [cmpRow]
  | t :: ts, [], r, h, _ => by simp [OkR] at h
  | t :: ts, a :: l, [], _, h => by simp [OkR] at h
  | t :: ts, a :: l, b :: r, ⟨oa, ol⟩, ⟨ob, or⟩ => by
    rw [cmpRow, cmpRow, hc.anti t a b oa ob]
    by_cases h : c t a b = 0
    · rw [if_pos (by omega), if_pos h, cmpRow_anti' hc ts l r ol or]
    · rw [if_neg (by omega), if_neg h]
theorem okR_of {α : Type} {ok : Int → α → Prop} (d : α) : ∀ (ts : List Int) (l : List α), (∀ i, i < ts.length → i < l.length ∧ ok (ts.getD i 0) (l.getD i d)) → OkR ok ts l
  | [], l, _ => trivial
  | t :: ts, [], h => by have := (h 0 (by simp)).1; simp at this
  | t :: ts, a :: l, h => ⟨(h 0 (by simp)).2, okR_of d ts l (fun i hi => by
      have := h (i + 1) (by simpa using hi)
      simpa using this)⟩
abbrev Ty (ts : List Int) : Prop := ∀ x ∈ ts, 1 ≤ x ∧ x ≤ 3
theorem Ty.at {ts : List Int} (h : Ty ts) {i : Nat} (hi : i < ts.length) : ts.getD i 0 = 1 ∨ ts.getD i 0 = 2 ∨ ts.getD i 0 = 3 := by
  have := h _ (List.getElem_mem hi)
  have e : ts.getD i 0 = ts[i] := by simp [List.getD, hi]
  rw [e]; omega
theorem fit_ok {t : Int} {v : Int × ByteArray} (ht : t = 1 ∨ t = 2 ∨ t = 3) (hv : -9223372036854775808 ≤ v.1 ∧ v.1 ≤ 9223372036854775807) : okV t (fitV t v) := by
  refine ⟨ht, fit_fits ht, ?_⟩
  unfold fitV fitN
  split
  · simp
  · exact hv
theorem fitR_ok {ts : List Int} {vs : List (Int × ByteArray)} (K : Nat) (hK : K ≤ ts.length) (ht : Ty ts) (hv : RgV vs) : OkR okV (ts.take K) (fitR ts vs) := by
  refine okR_of v0 _ _ (fun i hi => ?_)
  rw [List.length_take] at hi
  refine ⟨by rw [fitR_len]; omega, ?_⟩
  rw [take_getD _ _ _ (by omega), fitR_at (by omega)]
  exact fit_ok (ht.at (by omega)) (hv.get i)
/-- what is known of the order of three rows -/
structure OrdR3 (ts : List Int) (K : Nat) (a b c : List (Int × ByteArray)) : Prop where
  same : cR (ts.take K) a b = 0 ↔ a.take K = b.take K
  anti : cR (ts.take K) b a = - cR (ts.take K) a b
  own : cR (ts.take K) a (a.take K) = 0
  down : cR (ts.take K) a b ≤ 0 → cR (ts.take K) b c ≤ 0 → cR (ts.take K) a c ≤ 0
  up : 0 ≤ cR (ts.take K) a b → 0 ≤ cR (ts.take K) b c → 0 ≤ cR (ts.take K) a c
  zero : cR (ts.take K) a b = 0 → cR (ts.take K) a c = cR (ts.take K) b c
theorem okR_take {α : Type} {ok : Int → α → Prop} : ∀ (ts : List Int) (l : List α) (k : Nat), OkR ok ts l → OkR ok (ts.take k) l
  | [], l, k, _ => by simp [OkR]
  | t :: ts, l, 0, _ => by simp [OkR]
  | t :: ts, [], k + 1, h => by simp [OkR] at h
  | t :: ts, a :: l, k + 1, h => by rw [List.take_succ_cons]; exact ⟨h.1, okR_take ts l k h.2⟩
/-- what is known of two rows, one that is mixed of them, and a key of fewer values -/
structure KeyR (ts : List Int) (K k : Nat) (a b : List (Int × ByteArray)) : Prop where
  own : cR (ts.take K) a (a.take K ++ b.drop K) = 0
  mix : cR (ts.take K) (a.take K ++ b.drop K) b = cR (ts.take K) a b
  key : cR (ts.take K) b (a.take k) = 0 ↔ a.take k = b.take k
  nil : cR (ts.take K) a [] = 0
end Go.Proofs.YtbfihajgjbpmaaaGreat
/- Contract of schema.Batch. -/
namespace Go.Proofs.YtbfihajgjbpmaaaGreat
open Go.ChangeShapes Go.WideShapes Go.ChangeAt Go.RowKit
set_option linter.unusedVariables false
set_option maxRecDepth 4000

/-- a row of a slice of rows -/
theorem RVs.at {w : World} {a : Option Addr} {n : Nat} {vss : List (List (Int × ByteArray))} (h : RVs w a n vss) (i : Nat) (hi : i < n) :
    ∃ b off A L C, a = some ⟨b, off, none⟩ ∧ w.cell? ⟨b, off + i, none⟩ = some (.slice A L C) ∧ L ≤ maxLen ∧ WV w A L (vss.getD i []) := by
  obtain ⟨h1, h2⟩ := h
  rcases h2 with h2 | ⟨b, off, rfl, hr⟩
  · omega
  · obtain ⟨v, e1, A, L, C, rfl, q1, q2, q3, q4, q5⟩ := hr i hi
    exact ⟨b, off, A, L, C, rfl, e1, by omega, q4⟩
theorem RowAt.of {w : World} {A : Option Addr} {L C : Nat} {vs : List (Int × ByteArray)} (h : WV w A L vs) (hL : 1 ≤ L) (h1 : L ≤ C) (h2 : C ≤ maxLen) : RowAt w (.slice A L C) vs :=
  ⟨A, L, C, rfl, h1, h2, WV.len h, h, fun hA => by
    rcases h.2.2 with h0 | ⟨b, off, hs, _⟩
    · omega
    · rw [hA] at hs; cases hs⟩
theorem RVs.two {w : World} {v1 v2 : Value} {r1 r2 : List (Int × ByteArray)} {T : TypeId} (h1 : RowAt w v1 r1) (h2 : RowAt w v2 r2) : RVs (w.alloc (.cells #[v1, v2] T)) (some ⟨w.heap.size, 0, none⟩) 2 [r1, r2] := by
  have k1 := h1.mono (w' := w.alloc (.cells #[v1, v2] T)) fun _ _ _ hc => cell_alloc w _ hc
  have k2 := h2.mono (w' := w.alloc (.cells #[v1, v2] T)) fun _ _ _ hc => cell_alloc w _ hc
  refine ⟨rfl, .inr ⟨_, 0, rfl, fun i hi => ?_⟩⟩
  match i, hi with
  | 0, _ => exact ⟨v1, by rw [World.cell?_alloc_new]; rfl, k1⟩
  | 1, _ => exact ⟨v2, by rw [World.cell?_alloc_new]; rfl, k2⟩
theorem RVs.one {w : World} {v1 : Value} {r1 : List (Int × ByteArray)} {T : TypeId} (h1 : RowAt w v1 r1) : RVs (w.alloc (.cells #[v1] T)) (some ⟨w.heap.size, 0, none⟩) 1 [r1] := by
  have k1 := h1.mono (w' := w.alloc (.cells #[v1] T)) fun _ _ _ hc => cell_alloc w _ hc
  refine ⟨rfl, .inr ⟨_, 0, rfl, fun i hi => ?_⟩⟩
  match i, hi with
  | 0, _ => exact ⟨v1, by rw [World.cell?_alloc_new]; rfl, k1⟩
end Go.Proofs.YtbfihajgjbpmaaaGreat
/- Contract of the statements' own few; slices of rows of the call's own. -/
namespace Go.Proofs.YtbfihajgjbpmaaaGreat
open Go.ChangeShapes Go.WideShapes Go.ChangeAt Go.RowKit
set_option linter.unusedVariables false
set_option maxRecDepth 4000

theorem el_rows : El 25 46 1 24 (.slice none 0 0) := ⟨Tryz.underlying25, by kernel_rfl, rfl, by omega⟩
theorem IV.takes {w : World} {A : Option Addr} {N : Nat} {ts : List Int} (h : IV w A N ts) (k : Nat) (hk : k ≤ N) : IV w A k (ts.take k) := by
  have := SV.take h k hk
  have e : (icells ts).take (k * 1) = icells (ts.take k) := by simp [icells, List.map_take]
  rwa [e] at this
end Go.Proofs.YtbfihajgjbpmaaaGreat
/- How the statements' arguments come in: shapes, rows, arrays of rows, bytes. -/
namespace Go.Proofs.YtbfihajgjbpmaaaGreat
open Go.ChangeShapes Go.WideShapes Go.ChangeAt Go.RowKit
set_option linter.unusedVariables false
set_option maxRecDepth 4000

section
variable {H : Type} {enc : TypeId × Value → H} {w : World} {base fuel : Nat} {spare : Nat → Bool} {held : Bool}
end
end Go.Proofs.YtbfihajgjbpmaaaGreat
/- How schemas and lists of rows come in. -/
namespace Go.Proofs.YtbfihajgjbpmaaaGreat
open Go.ChangeShapes Go.WideShapes Go.ChangeAt Go.RowKit
set_option linter.unusedVariables false
set_option maxRecDepth 4000

section
variable {H : Type} {enc : TypeId × Value → H} {w : World} {base fuel : Nat} {spare : Nat → Bool} {held : Bool}
theorem int_of {t : TypeId} (ht : Tryz.prog.underlying t = some (.int .i64)) {c : Value} {y : DataW H × List MemPlace} (h : DataW.trod enc Tryz.prog w base spare held fuel t [c] = some y) : ∃ z : Int, c = .int .i64 z ∧ -9223372036854775808 ≤ z ∧ z ≤ 9223372036854775807 := by
  obtain ⟨z, hz, _, wz⟩ := DataW.trod_int ht h
  have := bounds_i64 wz
  exact ⟨z, by simpa using hz, this.1, this.2⟩
theorem open_schema {r : Reach} {b0 : Nat} {v : Value} {d : DataW H} {p : List MemPlace} (hv : Value.okWide Tryz.prog w r b0 24 v) (h : DataW.Trod enc Tryz.prog w base spare held 24 v d p) :
    ∃ (A : Option Addr) (n c : Nat) (ts : List Int) (k m g : Int), v = SS A n c k m g ∧ IV w A n ts ∧ n ≤ c ∧ n ≤ maxLen := by
  obtain ⟨v0, v1, v2, v3, y0, y1, y2, y3, f, rfl, -, -, h0, h1, h2, h3⟩ := Joins.open_agg4 Tryz.underlying24 (by kernel_rfl) (by kernel_rfl) hv h
  obtain ⟨A, n, c, ts, hc, q1, q2, q3, q4, q5, q6⟩ := open_intsS Tryz.underlying22 (by kernel_rfl) Tryz.underlying3 h0
  obtain ⟨k, rfl, -⟩ := int_of Tryz.underlying3 h1
  obtain ⟨m, rfl, -⟩ := int_of Tryz.underlying3 h2
  obtain ⟨g, rfl, -⟩ := int_of Tryz.underlying3 h3
  simp only [List.cons.injEq, and_true] at hc
  subst hc
  exact ⟨A, n, c, ts, k, m, g, rfl, q5, q1, by omega⟩
theorem open_rows4 {r : Reach} {b0 : Nat} {v : Value} {d : DataW H} {p : List MemPlace} (hv : Value.okWide Tryz.prog w r b0 25 v) (h : DataW.Trod enc Tryz.prog w base spare held 25 v d p) :
    ∃ (A : Option Addr) (n c : Nat) (vss : List (List (Int × ByteArray))), v = .slice A n c ∧ RVs w A n vss ∧ n ≤ maxLen ∧ (∀ vs ∈ vss, RgV vs) := by
  obtain ⟨a0, len0, cap0, rfl⟩ := okWide_slice Tryz.underlying25 hv
  obtain ⟨fuel, hf⟩ := h
  obtain ⟨A, n, c, vss, hc, q1, q2, q3, q4, q5⟩ := open_rows Tryz.underlying25 (by kernel_rfl) Tryz.underlying46 Tryz.underlying62 (by kernel_rfl) rfl rfl (by kernel_rfl) (by kernel_rfl) Tryz.underlying2 Tryz.underlying9 (show DataW.trod enc Tryz.prog w base spare held fuel 25 [.slice a0 len0 cap0] = some (d, p) by simpa [Value.cells] using hf)
  simp only [List.cons.injEq, and_true] at hc
  exact ⟨A, n, c, vss, hc, q4, by omega, q3⟩
end
end Go.Proofs.YtbfihajgjbpmaaaGreat
