/- Plain facts on the order of rows that were made to fit. -/
import Derived.Test.YtllgnafbemmcaaaS4h
namespace Go.Proofs.Ytllgnafbemmcaaa
open Go.ChangeShapes Go.WideShapes Go.ChangeAt Go.RowKit
set_option linter.unusedVariables false

theorem cmpRow_anti' {α : Type} {ok : Int → α → Prop} {c : Int → α → α → Int} (hc : OrdC ok c) : ∀ ts l r, OkR ok ts l → OkR ok ts r → cmpRow c ts r l = - cmpRow c ts l r
  | [], l, r, _, _ => by simp [cmpRow]
  | t :: ts, [], r, h, _ => by simp [OkR] at h
  | t :: ts, a :: l, [], _, h => by simp [OkR] at h
  | t :: ts, a :: l, b :: r, ⟨oa, ol⟩, ⟨ob, or⟩ => by
    rw [cmpRow, cmpRow, hc.anti t a b oa ob]
    by_cases h : c t a b = 0
    · rw [if_pos (by omega), if_pos h, cmpRow_anti' hc ts l r ol or]
    · rw [if_neg (by omega), if_neg h]
theorem cmpRow_cut {α : Type} {c : Int → α → α → Int} : ∀ (ts : List Int) (l r : List α) (n m : Nat), ts.length ≤ n → ts.length ≤ m → cmpRow c ts (l.take n) (r.take m) = cmpRow c ts l r
  | [], l, r, n, m, _, _ => by simp [cmpRow]
  | t :: ts, l, r, 0, m, h, _ => by simp at h
  | t :: ts, l, r, n + 1, 0, _, h => by simp at h
  | t :: ts, [], r, n + 1, m + 1, _, _ => by simp [cmpRow]
  | t :: ts, a :: l, [], n + 1, m + 1, _, _ => by simp [cmpRow]
  | t :: ts, a :: l, b :: r, n + 1, m + 1, h1, h2 => by
    rw [List.take_succ_cons, List.take_succ_cons, cmpRow, cmpRow, cmpRow_cut ts l r n m (by simpa using h1) (by simpa using h2)]
theorem okR_of {α : Type} {ok : Int → α → Prop} (d : α) : ∀ (ts : List Int) (l : List α), (∀ i, i < ts.length → i < l.length ∧ ok (ts.getD i 0) (l.getD i d)) → OkR ok ts l
  | [], l, _ => trivial
  | t :: ts, [], h => by have := (h 0 (by simp)).1; simp at this
  | t :: ts, a :: l, h => ⟨(h 0 (by simp)).2, okR_of d ts l (fun i hi => by
      have := h (i + 1) (by simpa using hi)
      simpa using this)⟩
theorem cmpRow_refl {α : Type} {ok : Int → α → Prop} {c : Int → α → α → Int} (hc : OrdC ok c) : ∀ ts l, OkR ok ts l → cmpRow c ts l l = 0 := fun ts l h => by
  have := cmpRow_anti' hc ts l l h h; omega
/-- rows that are as far as their keys go are the same to the order -/
theorem cmpRow_key {α : Type} {ok : Int → α → Prop} {c : Int → α → α → Int} (hc : OrdC ok c) (he : ∀ t a b, ok t a → ok t b → (c t a b = 0 ↔ a = b)) : ∀ ts (l r : List α), OkR ok ts l → OkR ok ts r → (cmpRow c ts l r = 0 ↔ l.take ts.length = r.take ts.length)
  | [], l, r, _, _ => by simp [cmpRow]
  | t :: ts, [], r, h, _ => by simp [OkR] at h
  | t :: ts, a :: l, [], _, h => by simp [OkR] at h
  | t :: ts, a :: l, b :: r, ⟨oa, ol⟩, ⟨ob, or⟩ => by
    have ih := cmpRow_key hc he ts l r ol or
    have h0 := he t a b oa ob
    rw [cmpRow, List.length_cons, List.take_succ_cons, List.take_succ_cons, List.cons.injEq]
    by_cases h : c t a b = 0
    · rw [if_pos h, ih]; exact ⟨fun e => ⟨h0.1 h, e⟩, fun e => e.2⟩
    · rw [if_neg h]; exact ⟨fun e => absurd e h, fun e => absurd (h0.2 e.1) h⟩
abbrev Ty (ts : List Int) : Prop := ∀ x ∈ ts, 1 ≤ x ∧ x ≤ 3
theorem Ty.at {ts : List Int} (h : Ty ts) {i : Nat} (hi : i < ts.length) : ts.getD i 0 = 1 ∨ ts.getD i 0 = 2 ∨ ts.getD i 0 = 3 := by
  have := h _ (List.getElem_mem hi)
  have e : ts.getD i 0 = ts[i] := by simp [List.getD, hi]
  rw [e]; omega
theorem fit_ok {t : Int} {v : Int × ByteArray} (ht : t = 1 ∨ t = 2 ∨ t = 3) (hv : -9223372036854775808 ≤ v.1 ∧ v.1 ≤ 9223372036854775807) : okV t (fitV t v) := by
  refine ⟨ht, fit_fits ht, ?_⟩
  unfold fitV fitN
  split
  · simp
  · exact hv
theorem RgV.get {vs : List (Int × ByteArray)} (h : RgV vs) (i : Nat) : -9223372036854775808 ≤ (vs.getD i v0).1 ∧ (vs.getD i v0).1 ≤ 9223372036854775807 := by
  by_cases hi : i < vs.length
  · exact h.at hi
  · simp [List.getD, List.getElem?_eq_none (Nat.le_of_not_lt hi)]
theorem fitR_ok {ts : List Int} {vs : List (Int × ByteArray)} (K : Nat) (hK : K ≤ ts.length) (ht : Ty ts) (hv : RgV vs) : OkR okV (ts.take K) (fitR ts vs) := by
  refine okR_of v0 _ _ (fun i hi => ?_)
  rw [List.length_take] at hi
  refine ⟨by rw [fitR_len]; omega, ?_⟩
  rw [take_getD _ _ _ (by omega), fitR_at (by omega)]
  exact fit_ok (ht.at (by omega)) (hv.get i)
/-- what is known of the order of three rows -/
structure OrdR3 (ts : List Int) (K : Nat) (a b c : List (Int × ByteArray)) : Prop where
  same : cR (ts.take K) a b = 0 ↔ a.take K = b.take K
  anti : cR (ts.take K) b a = - cR (ts.take K) a b
  own : cR (ts.take K) a (a.take K) = 0
  down : cR (ts.take K) a b ≤ 0 → cR (ts.take K) b c ≤ 0 → cR (ts.take K) a c ≤ 0
  up : 0 ≤ cR (ts.take K) a b → 0 ≤ cR (ts.take K) b c → 0 ≤ cR (ts.take K) a c
  zero : cR (ts.take K) a b = 0 → cR (ts.take K) a c = cR (ts.take K) b c
theorem ordR3 {ts : List Int} {K : Nat} {a b c : List (Int × ByteArray)} (hK : K ≤ ts.length) (ha : OkR okV (ts.take K) a) (hb : OkR okV (ts.take K) b) (hc : OkR okV (ts.take K) c) : OrdR3 ts K a b c := by
  have hl : (ts.take K).length = K := by rw [List.length_take]; omega
  have e1 := cmpRow_anti' cV_ord _ _ _ ha hb
  have e2 := cmpRow_anti' cV_ord _ _ _ hb hc
  have e3 := cmpRow_anti' cV_ord _ _ _ ha hc
  refine ⟨?_, e1, ?_, cmpRow_down cV_ord _ _ _ _ ha hb hc, ?_, cmpRow_same cV_ord _ _ _ _ ha hb hc⟩
  · have := cmpRow_key cV_ord (fun t a b => cV_eq) _ _ _ ha hb
    rwa [hl] at this
  · have h1 := cmpRow_cut (c := cV) (ts.take K) a a a.length K
    by_cases hal : K ≤ a.length
    · have := h1 (by omega) (by omega)
      rw [List.take_length] at this
      exact this.trans (cmpRow_refl cV_ord _ _ ha)
    · rw [List.take_of_length_le (l := a) (by omega)]
      exact cmpRow_refl cV_ord _ _ ha
  · intro h1 h2
    have := cmpRow_down cV_ord _ _ _ _ hc hb ha (by rw [e2]; exact Int.neg_nonpos_of_nonneg h2) (by rw [e1]; exact Int.neg_nonpos_of_nonneg h1)
    rw [e3] at this
    unfold cR; omega
theorem cmpRow_short {α : Type} {c : Int → α → α → Int} : ∀ (ts : List Int) (l r : List α) (k : Nat), cmpRow c ts l (r.take k) = cmpRow c (ts.take k) l r
  | [], l, r, k => by simp [cmpRow]
  | t :: ts, l, r, 0 => by cases l <;> simp [cmpRow]
  | t :: ts, [], r, k + 1 => by simp [cmpRow]
  | t :: ts, a :: l, [], k + 1 => by simp [cmpRow]
  | t :: ts, a :: l, b :: r, k + 1 => by
    rw [List.take_succ_cons, List.take_succ_cons, cmpRow, cmpRow, cmpRow_short ts l r k]
theorem okR_take {α : Type} {ok : Int → α → Prop} : ∀ (ts : List Int) (l : List α) (k : Nat), OkR ok ts l → OkR ok (ts.take k) l
  | [], l, k, _ => by simp [OkR]
  | t :: ts, l, 0, _ => by simp [OkR]
  | t :: ts, [], k + 1, h => by simp [OkR] at h
  | t :: ts, a :: l, k + 1, h => by rw [List.take_succ_cons]; exact ⟨h.1, okR_take ts l k h.2⟩
/-- what is known of two rows, one that is mixed of them, and a key of fewer values -/
structure KeyR (ts : List Int) (K k : Nat) (a b : List (Int × ByteArray)) : Prop where
  own : cR (ts.take K) a (a.take K ++ b.drop K) = 0
  mix : cR (ts.take K) (a.take K ++ b.drop K) b = cR (ts.take K) a b
  key : cR (ts.take K) b (a.take k) = 0 ↔ a.take k = b.take k
  nil : cR (ts.take K) a [] = 0
theorem keyR {ts : List Int} {K k : Nat} {a b : List (Int × ByteArray)} (hK : K ≤ ts.length) (hk : k ≤ K) (hal : a.length = ts.length) (ha : OkR okV (ts.take K) a) (hb : OkR okV (ts.take K) b) : KeyR ts K k a b := by
  have hl : (ts.take K).length = K := by rw [List.length_take]; omega
  have hm : (a.take K ++ b.drop K).take K = a.take K := by
    rw [List.take_append_of_le_length (by rw [List.length_take]; omega), List.take_take, Nat.min_self]
  refine ⟨?_, ?_, ?_, ?_⟩
  · have h1 := cmpRow_cut (c := cV) (ts.take K) a (a.take K ++ b.drop K) K K (by omega) (by omega)
    have h2 := cmpRow_cut (c := cV) (ts.take K) a a K K (by omega) (by omega)
    rw [hm] at h1
    rw [cR, ← h1, h2]
    exact cmpRow_refl cV_ord _ _ ha
  · have h1 := cmpRow_cut (c := cV) (ts.take K) (a.take K ++ b.drop K) b K K (by omega) (by omega)
    have h2 := cmpRow_cut (c := cV) (ts.take K) a b K K (by omega) (by omega)
    rw [hm] at h1
    rw [cR, cR, ← h1, h2]
  · have h1 := cmpRow_short (c := cV) (ts.take K) b a k
    have h2 := cmpRow_key cV_ord (fun t a b => cV_eq) _ _ _ (okR_take _ _ k hb) (okR_take _ _ k ha)
    rw [List.length_take, hl, Nat.min_eq_left hk] at h2
    rw [cR, h1, h2]
    exact eq_comm
  · cases ts.take K <;> cases a <;> rfl
theorem eqv_run (y z : Int × ByteArray) (w : World) : (if y.1 = z.1 then if y.2.toList = z.2.toList then Result.ok (Next.value (.bool true)) w else Result.ok (Next.value (.bool false)) w else Result.ok (Next.value (.bool false)) w) = Result.ok (Next.value (.bool (decide (y = z)))) w := by
  obtain ⟨a, s⟩ := y
  obtain ⟨b, t⟩ := z
  by_cases h1 : a = b
  · by_cases h2 : s = t
    · simp [h1, h2]
    · have : ¬ s.toList = t.toList := fun h => h2 (toList_inj h)
      simp [h1, h2, this]
  · simp [h1]
theorem vcells_take : ∀ (l : List (Int × ByteArray)) (k : Nat), vcells (l.take k) = (vcells l).take (k * 2)
  | [], k => by simp [vcells]
  | v :: l, 0 => by simp [vcells]
  | v :: l, k + 1 => by rw [List.take_succ_cons, vcells, vcells, vcells_take l k, show (k + 1) * 2 = k * 2 + 1 + 1 from by omega]; rfl
theorem WV.takes {w : World} {A : Option Addr} {n : Nat} {vs : List (Int × ByteArray)} (h : WV w A n vs) (k : Nat) (hk : k ≤ n) : WV w A k (vs.take k) := by
  have := SV.take h k hk
  rwa [← vcells_take] at this
theorem vcells_drop : ∀ (l : List (Int × ByteArray)) (k : Nat), vcells (l.drop k) = (vcells l).drop (k * 2)
  | [], k => by simp [vcells]
  | v :: l, 0 => by simp [vcells]
  | v :: l, k + 1 => by rw [List.drop_succ_cons, vcells, vcells_drop l k, show (k + 1) * 2 = k * 2 + 1 + 1 from by omega]; rfl
theorem WV.drops {w : World} {b off n : Nat} {vs : List (Int × ByteArray)} (h : WV w (some ⟨b, off, none⟩) n vs) (k : Nat) (hk : k ≤ n) : WV w (some ⟨b, off + k * 2, none⟩) (n - k) (vs.drop k) := by
  have := SV.drop h k hk
  rwa [← vcells_drop] at this
theorem WV.drops' {w : World} {b off n : Nat} {vs : List (Int × ByteArray)} (h : WV w (some ⟨b, off, none⟩) n vs) (k s : Nat) (hk : k ≤ n) (hs : n ≤ s) : WV w (if s = k then some ⟨b, off, none⟩ else some ⟨b, off + k * 2, none⟩) (n - k) (vs.drop k) := by
  split
  · have hl := WV.len h
    have e : vs.drop k = [] := List.drop_eq_nil_of_le (by omega)
    have e2 : n - k = 0 := by omega
    rw [e, e2]; exact SV.zero _ _
  · exact WV.drops h k hk
/-- whether two rows are the same in their first j values -/
def sameTo (a b : List (Int × ByteArray)) (j : Nat) : Bool := decide (a.take j = b.take j)
theorem sameTo_step {a b : List (Int × ByteArray)} {j : Nat} (ha : j < a.length) (hb : j < b.length) : sameTo a b (j + 1) = (sameTo a b j && decide (a.getD j v0 = b.getD j v0)) := by
  unfold sameTo
  rw [List.take_succ_eq_append_getElem ha, List.take_succ_eq_append_getElem hb, Bool.eq_iff_iff]
  simp only [decide_eq_true_eq, Bool.and_eq_true]
  have e1 : a.getD j v0 = a[j] := by simp [List.getD, ha]
  have e2 : b.getD j v0 = b[j] := by simp [List.getD, hb]
  rw [e1, e2]
  constructor
  · intro h
    have := List.append_inj h (by simp; omega)
    exact ⟨this.1, by simpa using this.2⟩
  · intro h
    rw [h.1, h.2]
abbrev arr2 (R0 : Option Addr) (n0 c0 : Nat) (R1 : Option Addr) (n1 c1 : Nat) : Array Value := #[.slice R0 n0 c0, .slice R1 n1 c1]
abbrev arr3 (R0 : Option Addr) (n0 c0 : Nat) (R1 : Option Addr) (n1 c1 : Nat) (R2 : Option Addr) (n2 c2 : Nat) : Array Value := #[.slice R0 n0 c0, .slice R1 n1 c1, .slice R2 n2 c2]
end Go.Proofs.Ytllgnafbemmcaaa
