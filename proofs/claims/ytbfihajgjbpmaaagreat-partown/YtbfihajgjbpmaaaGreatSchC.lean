/- Texts that belong together, one behind the other: S4h, S4i, S4q, S4l, S4n, S4t, S4tt. -/
import Derived.Test.YtbfihajgjbpmaaaGreatSchB
import Derived.Test.YtbfihajgjbpmaaaGreatBase
import Derived.Lib.SmallJoins
/- Contract of the statements' own short: a row of at most 70 values. -/
namespace Go.Proofs.YtbfihajgjbpmaaaGreat
open Go.ChangeShapes Go.WideShapes Go.ChangeAt Go.RowKit
set_option linter.unusedVariables false
set_option maxRecDepth 4000

def cut7 (v : Int × ByteArray) : Int × ByteArray := (v.1, cut 70 v.2)
/-- the first values of a row that is made short -/
def shortP (vs : List (Int × ByteArray)) (j : Nat) : List (Int × ByteArray) := (vs.take j).map cut7
def shortR (vs : List (Int × ByteArray)) : List (Int × ByteArray) := shortP vs 70
theorem shortP_snoc {vs : List (Int × ByteArray)} {j : Nat} (h : j < vs.length) : shortP vs (j + 1) = shortP vs j ++ [cut7 (vs.getD j v0)] := by
  rw [shortP, List.take_succ_eq_append_getElem h, List.map_append]; simp [shortP, List.getD, h]
theorem shortR_len (vs : List (Int × ByteArray)) : (shortR vs).length = min 70 vs.length := by simp [shortR, shortP]
theorem shortR_at {vs : List (Int × ByteArray)} {j : Nat} (h : j = 70 ∨ (j ≤ 70 ∧ vs.length ≤ j)) : shortP vs j = shortR vs := by
  rcases h with rfl | ⟨h1, h2⟩
  · rfl
  · rw [shortR, shortP, shortP, List.take_of_length_le h2, List.take_of_length_le (by omega)]
theorem shortR_rg {vs : List (Int × ByteArray)} (h : RgV vs) : RgV (shortR vs) := by
  intro v hv
  obtain ⟨x, hx, rfl⟩ := List.mem_map.1 hv
  exact h x (List.mem_of_mem_take hx)
/-- what short tells -/
def ShortE (w w' : World) (vs : List (Int × ByteArray)) (e : Ending) : Prop :=
  ∃ (M : Nat) (a : Option Addr) (c : Nat), e = .returned (.slice a M c) ∧ M ≤ 70 ∧ OS 2 w' w.heap.size (.slice a M c) M (vcells (shortR vs)) ∧ Below w.heap.size w w'
end Go.Proofs.YtbfihajgjbpmaaaGreat
/- SchemaOrders: the walk. -/
namespace Go.Proofs.YtbfihajgjbpmaaaGreat
open Go.ChangeShapes Go.WideShapes Go.ChangeAt Go.RowKit
set_option linter.unusedVariables false
set_option maxRecDepth 4000

theorem few_max {n : Nat} (h : n ≤ 1000000) : n ≤ maxLen := by unfold maxLen; omega
/-- a schema that may be was made -/
def MadeG (w w' : World) (e : Ending) : Prop :=
  ∃ (A : Option Addr) (N C K : Nat) (m g : Int) (ts : List Int), e = .returned (SS A N C K m g) ∧ checkB ts (K : Int) m g = true ∧ N ≤ 8 ∧ OS 1 w' w.heap.size (.slice A N C) N (icells ts) ∧ Below w.heap.size w w'
theorem MadeE.good {w w' : World} {ls : List Int} {n keys mode grain : Int} {e : Ending} (h : MadeE w w' ls n keys mode grain e) (hls : ls.length = 8) (hn : 0 ≤ n) (hk : 0 ≤ keys) (hm : 0 ≤ mode) (hg : 0 ≤ grain) : MadeG w w' e := by
  obtain ⟨A, C, rfl, ho, hb⟩ := h
  have h1 : 0 ≤ keys % (1 + n % 8) := Int.emod_nonneg _ (by omega)
  have h2 : keys % (1 + n % 8) < 1 + n % 8 := Int.emod_lt_of_pos _ (by omega)
  have hlen := madeT_len ls (1 + n % 8).toNat (by omega)
  refine ⟨A, (1 + n % 8).toNat, C, (1 + keys % (1 + n % 8)).toNat, 1 + mode % 3, 1 + grain % 8, madeT ls (1 + n % 8).toNat, ?_, ?_, by omega, ho, hb⟩
  · rw [Int.toNat_of_nonneg (by omega)]
  · refine decide_eq_true ?_
    rw [hlen, Int.toNat_of_nonneg (a := 1 + keys % (1 + n % 8)) (by omega), Int.toNat_of_nonneg (a := 1 + n % 8) (by omega)]
    exact ⟨by omega, by omega, by omega, by omega, by omega, by omega, by omega, by omega, madeT_mem⟩
theorem MadeG.keys {ts : List Int} {K : Nat} {m g : Int} (h : checkB ts (K : Int) m g = true) : 1 ≤ K ∧ K ≤ ts.length ∧ ts.length ≤ 64 := by
  have := check_is h; omega
/-- numbers of one byte each -/
abbrev ShW (l0 l1 l2 l3 l4 l5 l6 l7 n keys mode grain : Int) : Prop := U8s [l0, l1, l2, l3, l4, l5, l6, l7] ∧ (0 ≤ n ∧ n ≤ 255) ∧ (0 ≤ keys ∧ keys ≤ 255) ∧ (0 ≤ mode ∧ mode ≤ 255) ∧ (0 ≤ grain ∧ grain ≤ 255)
/-- the cells of a shape -/
abbrev shC (l0 l1 l2 l3 l4 l5 l6 l7 n keys mode grain : Int) : Array Value := #[.int .u8 l0, .int .u8 l1, .int .u8 l2, .int .u8 l3, .int .u8 l4, .int .u8 l5, .int .u8 l6, .int .u8 l7, .int .u8 n, .int .u8 keys, .int .u8 mode, .int .u8 grain]
theorem Bk.shape {w : World} {b : Nat} {T : TypeId} {l0 l1 l2 l3 l4 l5 l6 l7 n keys mode grain : Int} (h : Bk w b (shC l0 l1 l2 l3 l4 l5 l6 l7 n keys mode grain) T) :
    (w.cell? ⟨b, 0, none⟩ = some (.int .u8 l0) ∧ w.cell? ⟨b, 1, none⟩ = some (.int .u8 l1) ∧ w.cell? ⟨b, 2, none⟩ = some (.int .u8 l2) ∧ w.cell? ⟨b, 3, none⟩ = some (.int .u8 l3)) ∧
    (w.cell? ⟨b, 4, none⟩ = some (.int .u8 l4) ∧ w.cell? ⟨b, 5, none⟩ = some (.int .u8 l5) ∧ w.cell? ⟨b, 6, none⟩ = some (.int .u8 l6) ∧ w.cell? ⟨b, 7, none⟩ = some (.int .u8 l7)) ∧
    (w.cell? ⟨b, 8, none⟩ = some (.int .u8 n) ∧ w.cell? ⟨b, 9, none⟩ = some (.int .u8 keys) ∧ w.cell? ⟨b, 10, none⟩ = some (.int .u8 mode) ∧ w.cell? ⟨b, 11, none⟩ = some (.int .u8 grain)) :=
  ⟨⟨h.cell 0 rfl, h.cell 1 rfl, h.cell 2 rfl, h.cell 3 rfl⟩, ⟨h.cell 4 rfl, h.cell 5 rfl, h.cell 6 rfl, h.cell 7 rfl⟩, ⟨h.cell 8 rfl, h.cell 9 rfl, h.cell 10 rfl, h.cell 11 rfl⟩⟩
end Go.Proofs.YtbfihajgjbpmaaaGreat
/- Plain facts on the order of rows that were made to fit. -/
namespace Go.Proofs.YtbfihajgjbpmaaaGreat
open Go.ChangeShapes Go.WideShapes Go.ChangeAt Go.RowKit
set_option linter.unusedVariables false
set_option maxRecDepth 4000

theorem cmpRow_anti' {α : Type} {ok : Int → α → Prop} {c : Int → α → α → Int} (hc : OrdC ok c) : ∀ ts l r, OkR ok ts l → OkR ok ts r → cmpRow c ts r l = - cmpRow c ts l r
  | [], l, r, _, _ => by simp [cmpRow]
  | t :: ts, [], r, h, _ => by simp [OkR] at h
  | t :: ts, a :: l, [], _, h => by simp [OkR] at h
  | t :: ts, a :: l, b :: r, ⟨oa, ol⟩, ⟨ob, or⟩ => by
    rw [cmpRow, cmpRow, hc.anti t a b oa ob]
    by_cases h : c t a b = 0
    · rw [if_pos (by omega), if_pos h, cmpRow_anti' hc ts l r ol or]
    · rw [if_neg (by omega), if_neg h]
theorem cmpRow_cut {α : Type} {c : Int → α → α → Int} : ∀ (ts : List Int) (l r : List α) (n m : Nat), ts.length ≤ n → ts.length ≤ m → cmpRow c ts (l.take n) (r.take m) = cmpRow c ts l r
  | [], l, r, n, m, _, _ => by simp [cmpRow]
  | t :: ts, l, r, 0, m, h, _ => by simp at h
  | t :: ts, l, r, n + 1, 0, _, h => by simp at h
  | t :: ts, [], r, n + 1, m + 1, _, _ => by simp [cmpRow]
  | t :: ts, a :: l, [], n + 1, m + 1, _, _ => by simp [cmpRow]
  | t :: ts, a :: l, b :: r, n + 1, m + 1, h1, h2 => by
    rw [List.take_succ_cons, List.take_succ_cons, cmpRow, cmpRow, cmpRow_cut ts l r n m (by simpa using h1) (by simpa using h2)]
theorem okR_of {α : Type} {ok : Int → α → Prop} (d : α) : ∀ (ts : List Int) (l : List α), (∀ i, i < ts.length → i < l.length ∧ ok (ts.getD i 0) (l.getD i d)) → OkR ok ts l
  | [], l, _ => trivial
  | t :: ts, [], h => by have := (h 0 (by simp)).1; simp at this
  | t :: ts, a :: l, h => ⟨(h 0 (by simp)).2, okR_of d ts l (fun i hi => by
      have := h (i + 1) (by simpa using hi)
      simpa using this)⟩
theorem cmpRow_refl {α : Type} {ok : Int → α → Prop} {c : Int → α → α → Int} (hc : OrdC ok c) : ∀ ts l, OkR ok ts l → cmpRow c ts l l = 0 := fun ts l h => by
  have := cmpRow_anti' hc ts l l h h; omega
/-- rows that are as far as their keys go are the same to the order -/
theorem cmpRow_key {α : Type} {ok : Int → α → Prop} {c : Int → α → α → Int} (hc : OrdC ok c) (he : ∀ t a b, ok t a → ok t b → (c t a b = 0 ↔ a = b)) : ∀ ts (l r : List α), OkR ok ts l → OkR ok ts r → (cmpRow c ts l r = 0 ↔ l.take ts.length = r.take ts.length)
  | [], l, r, _, _ => by simp [cmpRow]
  | t :: ts, [], r, h, _ => by simp [OkR] at h
  | t :: ts, a :: l, [], _, h => by simp [OkR] at h
  | t :: ts, a :: l, b :: r, ⟨oa, ol⟩, ⟨ob, or⟩ => by
    have ih := cmpRow_key hc he ts l r ol or
    have h0 := he t a b oa ob
    rw [cmpRow, List.length_cons, List.take_succ_cons, List.take_succ_cons, List.cons.injEq]
    by_cases h : c t a b = 0
    · rw [if_pos h, ih]; exact ⟨fun e => ⟨h0.1 h, e⟩, fun e => e.2⟩
    · rw [if_neg h]; exact ⟨fun e => absurd e h, fun e => absurd (h0.2 e.1) h⟩
abbrev Ty (ts : List Int) : Prop := ∀ x ∈ ts, 1 ≤ x ∧ x ≤ 3
theorem Ty.at {ts : List Int} (h : Ty ts) {i : Nat} (hi : i < ts.length) : ts.getD i 0 = 1 ∨ ts.getD i 0 = 2 ∨ ts.getD i 0 = 3 := by
  have := h _ (List.getElem_mem hi)
  have e : ts.getD i 0 = ts[i] := by simp [List.getD, hi]
  rw [e]; omega
theorem fit_ok {t : Int} {v : Int × ByteArray} (ht : t = 1 ∨ t = 2 ∨ t = 3) (hv : -9223372036854775808 ≤ v.1 ∧ v.1 ≤ 9223372036854775807) : okV t (fitV t v) := by
  refine ⟨ht, fit_fits ht, ?_⟩
  unfold fitV fitN
  split
  · simp
  · exact hv
theorem fitR_ok {ts : List Int} {vs : List (Int × ByteArray)} (K : Nat) (hK : K ≤ ts.length) (ht : Ty ts) (hv : RgV vs) : OkR okV (ts.take K) (fitR ts vs) := by
  refine okR_of v0 _ _ (fun i hi => ?_)
  rw [List.length_take] at hi
  refine ⟨by rw [fitR_len]; omega, ?_⟩
  rw [take_getD _ _ _ (by omega), fitR_at (by omega)]
  exact fit_ok (ht.at (by omega)) (hv.get i)
/-- what is known of the order of three rows -/
structure OrdR3 (ts : List Int) (K : Nat) (a b c : List (Int × ByteArray)) : Prop where
  same : cR (ts.take K) a b = 0 ↔ a.take K = b.take K
  anti : cR (ts.take K) b a = - cR (ts.take K) a b
  own : cR (ts.take K) a (a.take K) = 0
  down : cR (ts.take K) a b ≤ 0 → cR (ts.take K) b c ≤ 0 → cR (ts.take K) a c ≤ 0
  up : 0 ≤ cR (ts.take K) a b → 0 ≤ cR (ts.take K) b c → 0 ≤ cR (ts.take K) a c
  zero : cR (ts.take K) a b = 0 → cR (ts.take K) a c = cR (ts.take K) b c
theorem ordR3 {ts : List Int} {K : Nat} {a b c : List (Int × ByteArray)} (hK : K ≤ ts.length) (ha : OkR okV (ts.take K) a) (hb : OkR okV (ts.take K) b) (hc : OkR okV (ts.take K) c) : OrdR3 ts K a b c := by
  have hl : (ts.take K).length = K := by rw [List.length_take]; omega
  have e1 := cmpRow_anti' cV_ord _ _ _ ha hb
  have e2 := cmpRow_anti' cV_ord _ _ _ hb hc
  have e3 := cmpRow_anti' cV_ord _ _ _ ha hc
  refine ⟨?_, e1, ?_, cmpRow_down cV_ord _ _ _ _ ha hb hc, ?_, cmpRow_same cV_ord _ _ _ _ ha hb hc⟩
  · have := cmpRow_key cV_ord (fun t a b => cV_eq) _ _ _ ha hb
    rwa [hl] at this
  · have h1 := cmpRow_cut (c := cV) (ts.take K) a a a.length K
    by_cases hal : K ≤ a.length
    · have := h1 (by omega) (by omega)
      rw [List.take_length] at this
      exact this.trans (cmpRow_refl cV_ord _ _ ha)
    · rw [List.take_of_length_le (l := a) (by omega)]
      exact cmpRow_refl cV_ord _ _ ha
  · intro h1 h2
    have := cmpRow_down cV_ord _ _ _ _ hc hb ha (by rw [e2]; exact Int.neg_nonpos_of_nonneg h2) (by rw [e1]; exact Int.neg_nonpos_of_nonneg h1)
    rw [e3] at this
    unfold cR; omega
theorem cmpRow_short {α : Type} {c : Int → α → α → Int} : ∀ (ts : List Int) (l r : List α) (k : Nat), cmpRow c ts l (r.take k) = cmpRow c (ts.take k) l r
  | [], l, r, k => by simp [cmpRow]
  | t :: ts, l, r, 0 => by cases l <;> simp [cmpRow]
  | t :: ts, [], r, k + 1 => by simp [cmpRow]
  | t :: ts, a :: l, [], k + 1 => by simp [cmpRow]
  | t :: ts, a :: l, b :: r, k + 1 => by
    rw [List.take_succ_cons, List.take_succ_cons, cmpRow, cmpRow, cmpRow_short ts l r k]
theorem okR_take {α : Type} {ok : Int → α → Prop} : ∀ (ts : List Int) (l : List α) (k : Nat), OkR ok ts l → OkR ok (ts.take k) l
  | [], l, k, _ => by simp [OkR]
  | t :: ts, l, 0, _ => by simp [OkR]
  | t :: ts, [], k + 1, h => by simp [OkR] at h
  | t :: ts, a :: l, k + 1, h => by rw [List.take_succ_cons]; exact ⟨h.1, okR_take ts l k h.2⟩
/-- what is known of two rows, one that is mixed of them, and a key of fewer values -/
structure KeyR (ts : List Int) (K k : Nat) (a b : List (Int × ByteArray)) : Prop where
  own : cR (ts.take K) a (a.take K ++ b.drop K) = 0
  mix : cR (ts.take K) (a.take K ++ b.drop K) b = cR (ts.take K) a b
  key : cR (ts.take K) b (a.take k) = 0 ↔ a.take k = b.take k
  nil : cR (ts.take K) a [] = 0
theorem keyR {ts : List Int} {K k : Nat} {a b : List (Int × ByteArray)} (hK : K ≤ ts.length) (hk : k ≤ K) (hal : a.length = ts.length) (ha : OkR okV (ts.take K) a) (hb : OkR okV (ts.take K) b) : KeyR ts K k a b := by
  have hl : (ts.take K).length = K := by rw [List.length_take]; omega
  have hm : (a.take K ++ b.drop K).take K = a.take K := by
    rw [List.take_append_of_le_length (by rw [List.length_take]; omega), List.take_take, Nat.min_self]
  refine ⟨?_, ?_, ?_, ?_⟩
  · have h1 := cmpRow_cut (c := cV) (ts.take K) a (a.take K ++ b.drop K) K K (by omega) (by omega)
    have h2 := cmpRow_cut (c := cV) (ts.take K) a a K K (by omega) (by omega)
    rw [hm] at h1
    rw [cR, ← h1, h2]
    exact cmpRow_refl cV_ord _ _ ha
  · have h1 := cmpRow_cut (c := cV) (ts.take K) (a.take K ++ b.drop K) b K K (by omega) (by omega)
    have h2 := cmpRow_cut (c := cV) (ts.take K) a b K K (by omega) (by omega)
    rw [hm] at h1
    rw [cR, cR, ← h1, h2]
  · have h1 := cmpRow_short (c := cV) (ts.take K) b a k
    have h2 := cmpRow_key cV_ord (fun t a b => cV_eq) _ _ _ (okR_take _ _ k hb) (okR_take _ _ k ha)
    rw [List.length_take, hl, Nat.min_eq_left hk] at h2
    rw [cR, h1, h2]
    exact eq_comm
  · cases ts.take K <;> cases a <;> rfl
/-- whether two rows are the same in their first j values -/
def sameTo (a b : List (Int × ByteArray)) (j : Nat) : Bool := decide (a.take j = b.take j)
theorem sameTo_step {a b : List (Int × ByteArray)} {j : Nat} (ha : j < a.length) (hb : j < b.length) : sameTo a b (j + 1) = (sameTo a b j && decide (a.getD j v0 = b.getD j v0)) := by
  unfold sameTo
  rw [List.take_succ_eq_append_getElem ha, List.take_succ_eq_append_getElem hb, Bool.eq_iff_iff]
  simp only [decide_eq_true_eq, Bool.and_eq_true]
  have e1 : a.getD j v0 = a[j] := by simp [List.getD, ha]
  have e2 : b.getD j v0 = b[j] := by simp [List.getD, hb]
  rw [e1, e2]
  constructor
  · intro h
    have := List.append_inj h (by simp; omega)
    exact ⟨this.1, by simpa using this.2⟩
  · intro h
    rw [h.1, h.2]
abbrev arr2 (R0 : Option Addr) (n0 c0 : Nat) (R1 : Option Addr) (n1 c1 : Nat) : Array Value := #[.slice R0 n0 c0, .slice R1 n1 c1]
abbrev arr3 (R0 : Option Addr) (n0 c0 : Nat) (R1 : Option Addr) (n1 c1 : Nat) (R2 : Option Addr) (n2 c2 : Nat) : Array Value := #[.slice R0 n0 c0, .slice R1 n1 c1, .slice R2 n2 c2]
end Go.Proofs.YtbfihajgjbpmaaaGreat
/- Contract of schema.Batch. -/
namespace Go.Proofs.YtbfihajgjbpmaaaGreat
open Go.ChangeShapes Go.WideShapes Go.ChangeAt Go.RowKit
set_option linter.unusedVariables false
set_option maxRecDepth 4000

/-- a row of a slice of rows -/
theorem RVs.at {w : World} {a : Option Addr} {n : Nat} {vss : List (List (Int × ByteArray))} (h : RVs w a n vss) (i : Nat) (hi : i < n) :
    ∃ b off A L C, a = some ⟨b, off, none⟩ ∧ w.cell? ⟨b, off + i, none⟩ = some (.slice A L C) ∧ L ≤ maxLen ∧ WV w A L (vss.getD i []) := by
  obtain ⟨h1, h2⟩ := h
  rcases h2 with h2 | ⟨b, off, rfl, hr⟩
  · omega
  · obtain ⟨v, e1, A, L, C, rfl, q1, q2, q3, q4, q5⟩ := hr i hi
    exact ⟨b, off, A, L, C, rfl, e1, by omega, q4⟩
theorem RowAt.of {w : World} {A : Option Addr} {L C : Nat} {vs : List (Int × ByteArray)} (h : WV w A L vs) (hL : 1 ≤ L) (h1 : L ≤ C) (h2 : C ≤ maxLen) : RowAt w (.slice A L C) vs :=
  ⟨A, L, C, rfl, h1, h2, WV.len h, h, fun hA => by
    rcases h.2.2 with h0 | ⟨b, off, hs, _⟩
    · omega
    · rw [hA] at hs; cases hs⟩
theorem RVs.two {w : World} {v1 v2 : Value} {r1 r2 : List (Int × ByteArray)} {T : TypeId} (h1 : RowAt w v1 r1) (h2 : RowAt w v2 r2) : RVs (w.alloc (.cells #[v1, v2] T)) (some ⟨w.heap.size, 0, none⟩) 2 [r1, r2] := by
  have k1 := h1.mono (w' := w.alloc (.cells #[v1, v2] T)) fun _ _ _ hc => cell_alloc w _ hc
  have k2 := h2.mono (w' := w.alloc (.cells #[v1, v2] T)) fun _ _ _ hc => cell_alloc w _ hc
  refine ⟨rfl, .inr ⟨_, 0, rfl, fun i hi => ?_⟩⟩
  match i, hi with
  | 0, _ => exact ⟨v1, by rw [World.cell?_alloc_new]; rfl, k1⟩
  | 1, _ => exact ⟨v2, by rw [World.cell?_alloc_new]; rfl, k2⟩
theorem RVs.one {w : World} {v1 : Value} {r1 : List (Int × ByteArray)} {T : TypeId} (h1 : RowAt w v1 r1) : RVs (w.alloc (.cells #[v1] T)) (some ⟨w.heap.size, 0, none⟩) 1 [r1] := by
  have k1 := h1.mono (w' := w.alloc (.cells #[v1] T)) fun _ _ _ hc => cell_alloc w _ hc
  refine ⟨rfl, .inr ⟨_, 0, rfl, fun i hi => ?_⟩⟩
  match i, hi with
  | 0, _ => exact ⟨v1, by rw [World.cell?_alloc_new]; rfl, k1⟩
/-- what Batch tells -/
def batE (ts : List Int) (vss : List (List (Int × ByteArray))) : Int := if upB 64 vss.length = true then (if vss.all (rowB ts) = true then 0 else 21) else 22
theorem bat_size {ts : List Int} {vss : List (List (Int × ByteArray))} (h : upB 64 vss.length = false) : batE ts vss = 22 := by rw [batE, if_neg (by rw [h]; simp)]
theorem bat_row {ts : List Int} {vss : List (List (Int × ByteArray))} {i : Nat} (h : upB 64 vss.length = true) (hi : i < vss.length) (hr : rowB ts (vss.getD i []) = false) : batE ts vss = 21 := by
  rw [batE, if_pos h, if_neg]
  intro ha
  have := List.all_eq_true.1 ha (vss[i]) (List.getElem_mem hi)
  rw [List.getD_eq_getElem?_getD, List.getElem?_eq_getElem hi, Option.getD_some, this] at hr
  cases hr
theorem bat_ok {ts : List Int} {vss : List (List (Int × ByteArray))} (h : upB 64 vss.length = true) (hr : ∀ i, i < vss.length → rowB ts (vss.getD i []) = true) : batE ts vss = 0 := by
  rw [batE, if_pos h, if_pos]
  refine List.all_eq_true.2 fun x hx => ?_
  obtain ⟨i, hi, rfl⟩ := List.mem_iff_getElem.1 hx
  have := hr i hi
  rwa [List.getD_eq_getElem?_getD, List.getElem?_eq_getElem hi, Option.getD_some] at this
end Go.Proofs.YtbfihajgjbpmaaaGreat
/- Contract of the statements' own few; slices of rows of the call's own. -/
namespace Go.Proofs.YtbfihajgjbpmaaaGreat
open Go.ChangeShapes Go.WideShapes Go.ChangeAt Go.RowKit
set_option linter.unusedVariables false
set_option maxRecDepth 4000

theorem el_rows : El 25 46 1 24 (.slice none 0 0) := ⟨Tryz.underlying25, by kernel_rfl, rfl, by omega⟩
/-- what few tells -/
def FewE (w w' : World) (A : Option Addr) (N C : Nat) (k m g : Int) (e : Ending) : Prop :=
  ∃ M, e = .returned (SS A M C k m g) ∧ M ≤ 70 ∧ M ≤ N ∧ Below w.heap.size w w'
theorem IV.takes {w : World} {A : Option Addr} {N : Nat} {ts : List Int} (h : IV w A N ts) (k : Nat) (hk : k ≤ N) : IV w A k (ts.take k) := by
  have := SV.take h k hk
  have e : (icells ts).take (k * 1) = icells (ts.take k) := by simp [icells, List.map_take]
  rwa [e] at this
end Go.Proofs.YtbfihajgjbpmaaaGreat
/- How the statements' arguments come in: shapes, rows, arrays of rows, bytes. -/
namespace Go.Proofs.YtbfihajgjbpmaaaGreat
open Go.ChangeShapes Go.WideShapes Go.ChangeAt Go.RowKit
set_option linter.unusedVariables false
set_option maxRecDepth 4000

section
variable {H : Type} {enc : TypeId × Value → H} {w : World} {base fuel : Nat} {spare : Nat → Bool} {held : Bool}
/-- a shape that came in -/
theorem open_shape {r : Reach} {b0 : Nat} {v : Value} {d : DataW H} {p : List MemPlace} (hv : Value.okWide Tryz.prog w r b0 40 v) (h : DataW.Trod enc Tryz.prog w base spare held 40 v d p) :
    ∃ l0 l1 l2 l3 l4 l5 l6 l7 n keys mode grain : Int, v = ShV l0 l1 l2 l3 l4 l5 l6 l7 n keys mode grain ∧ ShW l0 l1 l2 l3 l4 l5 l6 l7 n keys mode grain := by
  obtain ⟨cs, rfl, hsz⟩ := okWide_struct Tryz.underlying40 hv
  obtain ⟨fuel, hf⟩ := h
  have hl : cs.toList.length = 12 := by rw [Array.length_toList, hsz]; kernel_rfl
  have hf' : DataW.trod enc Tryz.prog w base spare held fuel 40 cs.toList = some (d, p) := by simpa [Value.cells] using hf
  obtain ⟨xs, n, _, -, -, hlen, hfl⟩ := DataW.trod_struct Tryz.underlying40 hf'
  have c8 : Tryz.prog.cellsOf 38 = 8 := by kernel_rfl
  have c1 : Tryz.prog.cellsOf 5 = 1 := by kernel_rfl
  obtain ⟨cs⟩ := cs
  match cs, hl with
  | [q0, q1, q2, q3, q4, q5, q6, q7, q8, q9, q10, q11], _ =>
    have e0 := hfl 0 _ rfl
    have e1 := hfl 1 _ rfl
    have e2 := hfl 2 _ rfl
    have e3 := hfl 3 _ rfl
    have e4 := hfl 4 _ rfl
    obtain ⟨y0, g0⟩ := some_at (i := 0) hlen (by decide)
    obtain ⟨y1, g1⟩ := some_at (i := 1) hlen (by decide)
    obtain ⟨y2, g2⟩ := some_at (i := 2) hlen (by decide)
    obtain ⟨y3, g3⟩ := some_at (i := 3) hlen (by decide)
    obtain ⟨y4, g4⟩ := some_at (i := 4) hlen (by decide)
    rw [g0] at e0
    obtain ⟨zs, m1, rfl, -, -, hn3, hel⟩ := DataW.trod_array Tryz.underlying38 e0
    rw [c1] at hel
    have a0 := hel 0 (by decide)
    have a1 := hel 1 (by decide)
    have a2 := hel 2 (by decide)
    have a3 := hel 3 (by decide)
    have a4 := hel 4 (by decide)
    have a5 := hel 5 (by decide)
    have a6 := hel 6 (by decide)
    have a7 := hel 7 (by decide)
    obtain ⟨z0, k0⟩ := some_at (i := 0) hn3 (by decide)
    obtain ⟨z1, k1⟩ := some_at (i := 1) hn3 (by decide)
    obtain ⟨z2, k2⟩ := some_at (i := 2) hn3 (by decide)
    obtain ⟨z3, k3⟩ := some_at (i := 3) hn3 (by decide)
    obtain ⟨z4, k4⟩ := some_at (i := 4) hn3 (by decide)
    obtain ⟨z5, k5⟩ := some_at (i := 5) hn3 (by decide)
    obtain ⟨z6, k6⟩ := some_at (i := 6) hn3 (by decide)
    obtain ⟨z7, k7⟩ := some_at (i := 7) hn3 (by decide)
    obtain ⟨l0, rfl, r0, s0⟩ := u8_of (c := q0) a0 k0
    obtain ⟨l1, rfl, r1, s1⟩ := u8_of (c := q1) a1 k1
    obtain ⟨l2, rfl, r2, s2⟩ := u8_of (c := q2) a2 k2
    obtain ⟨l3, rfl, r3, s3⟩ := u8_of (c := q3) a3 k3
    obtain ⟨l4, rfl, r4, s4⟩ := u8_of (c := q4) a4 k4
    obtain ⟨l5, rfl, r5, s5⟩ := u8_of (c := q5) a5 k5
    obtain ⟨l6, rfl, r6, s6⟩ := u8_of (c := q6) a6 k6
    obtain ⟨l7, rfl, r7, s7⟩ := u8_of (c := q7) a7 k7
    obtain ⟨n1, rfl, v1, w1⟩ := u8_of (c := q8) e1 g1
    obtain ⟨n2, rfl, v2, w2⟩ := u8_of (c := q9) e2 g2
    obtain ⟨n3, rfl, v3, w3⟩ := u8_of (c := q10) e3 g3
    obtain ⟨n4, rfl, v4, w4⟩ := u8_of (c := q11) e4 g4
    refine ⟨l0, l1, l2, l3, l4, l5, l6, l7, n1, n2, n3, n4, rfl, ?_, ⟨v1, w1⟩, ⟨v2, w2⟩, ⟨v3, w3⟩, ⟨v4, w4⟩⟩
    intro x hx
    simp only [List.mem_cons, List.not_mem_nil, or_false] at hx
    rcases hx with rfl | rfl | rfl | rfl | rfl | rfl | rfl | rfl <;> omega
/-- a row that came in, by its cells -/
theorem row_of {cs : List Value} {x : DataW H × List MemPlace} (h : DataW.trod enc Tryz.prog w base spare held fuel 46 cs = some x) :
    ∃ (A : Option Addr) (n c : Nat) (vs : List (Int × ByteArray)), cs = [.slice A n c] ∧ WV w A n vs ∧ n ≤ maxLen ∧ RgV vs := by
  obtain ⟨A, n, c, vs, hc, h1, h2, h3, h4, h5, h6⟩ := open_vals Tryz.underlying46 Tryz.underlying62 (by kernel_rfl) rfl rfl (by kernel_rfl) (by kernel_rfl) Tryz.underlying2 Tryz.underlying9 h
  exact ⟨A, n, c, vs, hc, h5, by omega, h4⟩
theorem open_row {r : Reach} {b0 : Nat} {v : Value} {d : DataW H} {p : List MemPlace} (hv : Value.okWide Tryz.prog w r b0 46 v) (h : DataW.Trod enc Tryz.prog w base spare held 46 v d p) :
    ∃ (A : Option Addr) (n c : Nat) (vs : List (Int × ByteArray)), v = .slice A n c ∧ WV w A n vs ∧ n ≤ maxLen ∧ RgV vs := by
  obtain ⟨a0, len0, cap0, rfl⟩ := okWide_slice Tryz.underlying46 hv
  obtain ⟨fuel, hf⟩ := h
  obtain ⟨A, n, c, vs, hc, h1, h2, h3⟩ := row_of (by simpa [Value.cells] using hf)
  simp only [List.cons.injEq, and_true] at hc
  exact ⟨A, n, c, vs, hc, h1, h2, h3⟩
end
end Go.Proofs.YtbfihajgjbpmaaaGreat
/- How schemas and lists of rows come in. -/
namespace Go.Proofs.YtbfihajgjbpmaaaGreat
open Go.ChangeShapes Go.WideShapes Go.ChangeAt Go.RowKit
set_option linter.unusedVariables false
set_option maxRecDepth 4000

section
variable {H : Type} {enc : TypeId × Value → H} {w : World} {base fuel : Nat} {spare : Nat → Bool} {held : Bool}
theorem int_of {t : TypeId} (ht : Tryz.prog.underlying t = some (.int .i64)) {c : Value} {y : DataW H × List MemPlace} (h : DataW.trod enc Tryz.prog w base spare held fuel t [c] = some y) : ∃ z : Int, c = .int .i64 z ∧ -9223372036854775808 ≤ z ∧ z ≤ 9223372036854775807 := by
  obtain ⟨z, hz, _, wz⟩ := DataW.trod_int ht h
  have := bounds_i64 wz
  exact ⟨z, by simpa using hz, this.1, this.2⟩
theorem open_schema {r : Reach} {b0 : Nat} {v : Value} {d : DataW H} {p : List MemPlace} (hv : Value.okWide Tryz.prog w r b0 24 v) (h : DataW.Trod enc Tryz.prog w base spare held 24 v d p) :
    ∃ (A : Option Addr) (n c : Nat) (ts : List Int) (k m g : Int), v = SS A n c k m g ∧ IV w A n ts ∧ n ≤ c ∧ n ≤ maxLen := by
  obtain ⟨v0, v1, v2, v3, y0, y1, y2, y3, f, rfl, -, -, h0, h1, h2, h3⟩ := Joins.open_agg4 Tryz.underlying24 (by kernel_rfl) (by kernel_rfl) hv h
  obtain ⟨A, n, c, ts, hc, q1, q2, q3, q4, q5, q6⟩ := open_intsS Tryz.underlying22 (by kernel_rfl) Tryz.underlying3 h0
  obtain ⟨k, rfl, -⟩ := int_of Tryz.underlying3 h1
  obtain ⟨m, rfl, -⟩ := int_of Tryz.underlying3 h2
  obtain ⟨g, rfl, -⟩ := int_of Tryz.underlying3 h3
  simp only [List.cons.injEq, and_true] at hc
  subst hc
  exact ⟨A, n, c, ts, k, m, g, rfl, q5, q1, by omega⟩
theorem open_rows4 {r : Reach} {b0 : Nat} {v : Value} {d : DataW H} {p : List MemPlace} (hv : Value.okWide Tryz.prog w r b0 25 v) (h : DataW.Trod enc Tryz.prog w base spare held 25 v d p) :
    ∃ (A : Option Addr) (n c : Nat) (vss : List (List (Int × ByteArray))), v = .slice A n c ∧ RVs w A n vss ∧ n ≤ maxLen ∧ (∀ vs ∈ vss, RgV vs) := by
  obtain ⟨a0, len0, cap0, rfl⟩ := okWide_slice Tryz.underlying25 hv
  obtain ⟨fuel, hf⟩ := h
  obtain ⟨A, n, c, vss, hc, q1, q2, q3, q4, q5⟩ := open_rows Tryz.underlying25 (by kernel_rfl) Tryz.underlying46 Tryz.underlying62 (by kernel_rfl) rfl rfl (by kernel_rfl) (by kernel_rfl) Tryz.underlying2 Tryz.underlying9 (show DataW.trod enc Tryz.prog w base spare held fuel 25 [.slice a0 len0 cap0] = some (d, p) by simpa [Value.cells] using hf)
  simp only [List.cons.injEq, and_true] at hc
  exact ⟨A, n, c, vss, hc, q4, by omega, q3⟩
end
end Go.Proofs.YtbfihajgjbpmaaaGreat
