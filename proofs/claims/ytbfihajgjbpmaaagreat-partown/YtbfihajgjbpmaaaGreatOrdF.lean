/- Texts that belong together, one behind the other: Q9n. -/
import Derived.Test.YtbfihajgjbpmaaaGreatOrdL
/- Plain facts of stage 9's statements: what a key cuts, where a row is put in. -/
namespace Go.Proofs.YtbfihajgjbpmaaaGreat
set_option linter.unusedVariables false
set_option maxRecDepth 4000

/-- a key of a row that may be: its first values -/
structure KeyV (ts : List Int) (K : Nat) (key u : RowV) (kk : Nat) : Prop where
  fr : FR ts u
  is : ∀ a, cR (ts.take K) a key = cR (ts.take (min kk K)) a u
theorem KeyV.cut {ts : List Int} {u : RowV} (K kk : Nat) (h : FR ts u) : KeyV ts K (u.take kk) u kk := ⟨h, fun a => cR_key ts K kk a u⟩
theorem KeyV.whole {ts : List Int} {u : RowV} (K : Nat) (h : FR ts u) : KeyV ts K u u K := ⟨h, fun a => by rw [Nat.min_self]⟩
theorem KeyV.nil {ts : List Int} (ht : Ty ts) (K : Nat) : KeyV ts K [] (nrm ts []) 0 := by
  have := KeyV.cut K 0 (nrm_fr ht [])
  rwa [List.take_zero] at this
theorem KeyV.c {ts : List Int} {K kk : Nat} {key u a : RowV} (h : KeyV ts K key u kk) (ha : FR ts a) : cR (ts.take K) a key = cN ts (min kk K) a u := by
  rw [h.is, cN_ok _ ha h.fr]
theorem inA_at {α : Type} {c : α → α → Int} {d : α} {l : List α} (h : InA c l) {x y : Nat} (hxy : x < y) (hy : y < l.length) : c (l.getD x d) (l.getD y d) ≤ 0 := by
  have := List.pairwise_iff_getElem.1 (inA_pw.1 h) x y (by omega) hy hxy
  simpa [List.getD, hy, show x < l.length by omega] using this
theorem up_key {ts : List Int} {K kk : Nat} {key u : RowV} {l : List RowV} (ht : Ty ts) (hk : KeyV ts K key u kk) (hl : InA (cN ts K) l) (hF : ∀ v ∈ l, FR ts v) (x y : Nat) (h1 : x ≤ y) (h2 : y < l.length) :
    (0 ≤ cR (ts.take K) (l.getD x []) key → 0 ≤ cR (ts.take K) (l.getD y []) key) ∧ (0 < cR (ts.take K) (l.getD x []) key → 0 < cR (ts.take K) (l.getD y []) key) := by
  by_cases e : x = y
  · subst e; exact ⟨id, id⟩
  · have h3 := cN_less (Nat.min_le_right kk K) (inA_at (d := ([] : RowV)) hl (show x < y by omega) h2)
    rw [hk.c (fr_at hF (by omega)), hk.c (fr_at hF h2)]
    have ho := cN_ord ht (min kk K)
    have n1 := ho.neg (l.getD x []) u
    have n2 := ho.neg (l.getD y []) u
    have t1 := ho.trans (l.getD x []) (l.getD y []) u h3
    have t2 := ho.trans u (l.getD x []) (l.getD y [])
    refine ⟨fun h => ?_, fun h => ?_⟩
    · have := t2 (by omega) h3; omega
    · by_cases h4 : 0 < cN ts (min kk K) (l.getD y []) u
      · exact h4
      · have := t1 (by omega); omega
/-- those that hold p are the first ones -/
theorem cut_at {α : Type} (p : α → Bool) (d : α) (l : List α) (h : ∀ x y, x ≤ y → y < l.length → p (l.getD y d) = true → p (l.getD x d) = true) (i : Nat) (hi : i < l.length) : p (l.getD i d) = decide (i < countA p l) := by
  have := countA_cut p (l := l) (List.pairwise_iff_getElem.2 (fun x y hx hy hxy => by
    have := h x y (by omega) hy
    simpa [List.getD, hx, hy] using this)) i hi
  have e : l.getD i d = l[i] := by simp [List.getD, hi]
  rw [e, Bool.eq_iff_iff, this, decide_eq_true_iff]
theorem countA_all {α : Type} (p : α → Bool) : ∀ l : List α, (∀ y ∈ l, p y = true) → countA p l = l.length
  | [], _ => rfl
  | x :: l, h => by rw [countA, if_pos (h x (List.mem_cons_self ..)), countA_all p l (fun y hy => h y (List.mem_cons_of_mem _ hy)), List.length_cons]; omega
theorem countA_none {α : Type} (p : α → Bool) : ∀ l : List α, (∀ y ∈ l, p y = false) → countA p l = 0
  | [], _ => rfl
  | x :: l, h => by rw [countA, if_neg (by rw [h x (List.mem_cons_self ..)]; simp), countA_none p l (fun y hy => h y (List.mem_cons_of_mem _ hy))]
theorem countA_mono {α : Type} (p q : α → Bool) : ∀ l : List α, (∀ y ∈ l, p y = true → q y = true) → countA p l ≤ countA q l
  | [], _ => Nat.le_refl _
  | x :: l, h => by
    have ih := countA_mono p q l (fun y hy => h y (List.mem_cons_of_mem _ hy))
    have := h x (List.mem_cons_self ..)
    rw [countA, countA]
    by_cases hp : p x = true
    · rw [if_pos hp, if_pos (this hp)]; omega
    · rw [if_neg hp]; split <;> omega
/-- what a key cuts rows in order into -/
structure CutK (ts : List Int) (K : Nat) (l : List RowV) (key : RowV) (n m : Nat) : Prop where
  le : n ≤ m ∧ m ≤ l.length
  lt : ∀ i, i < l.length → decide (cR (ts.take K) (l.getD i []) key < 0) = decide (i < n)
  upto : ∀ i, i < l.length → decide (cR (ts.take K) (l.getD i []) key ≤ 0) = decide (i < m)
theorem cutK {ts : List Int} {K kk : Nat} {key u : RowV} {l : List RowV} (ht : Ty ts) (hk : KeyV ts K key u kk) (hl : InA (cN ts K) l) (hF : ∀ v ∈ l, FR ts v) :
    CutK ts K l key (countA (fun r => decide (cR (ts.take K) r key < 0)) l) (countA (fun r => decide (cR (ts.take K) r key ≤ 0)) l) := by
  refine ⟨⟨countA_mono _ _ l (fun y _ h => ?_), countA_le _ l⟩, fun i hi => ?_, fun i hi => ?_⟩
  · have := of_decide_eq_true h
    exact decide_eq_true (by omega)
  · exact cut_at (fun r => decide (cR (ts.take K) r key < 0)) [] l (fun x y h1 h2 h3 => by
      have h3 := of_decide_eq_true h3
      have := (up_key ht hk hl hF x y h1 h2).1
      exact decide_eq_true (by omega)) i hi
  · exact cut_at (fun r => decide (cR (ts.take K) r key ≤ 0)) [] l (fun x y h1 h2 h3 => by
      have h3 := of_decide_eq_true h3
      have := (up_key ht hk hl hF x y h1 h2).2
      exact decide_eq_true (by omega)) i hi
theorem cR_nil (ts : List Int) (K : Nat) (a : RowV) : cR (ts.take K) a [] = 0 := by
  unfold cR
  cases ts.take K <;> cases a <;> rfl
theorem cut_nil_below (ts : List Int) (K : Nat) (l : List RowV) : countA (fun r => decide (cR (ts.take K) r [] < 0)) l = 0 := countA_none _ l (fun y _ => by rw [cR_nil]; rfl)
theorem cut_nil_upto (ts : List Int) (K : Nat) (l : List RowV) : countA (fun r => decide (cR (ts.take K) r [] ≤ 0)) l = l.length := countA_all _ l (fun y _ => by rw [cR_nil]; rfl)
theorem fitsL_fr {ts : List Int} (ht : Ty ts) {vss : List RowV} (hg : ∀ v ∈ vss, RgV v) (most : Nat) : ∀ v ∈ fitsL ts vss most, FR ts v := by
  intro v hv
  obtain ⟨x, hx, rfl⟩ := List.mem_map.1 hv
  exact FR.fit ht (hg x (List.mem_of_mem_take hx))
theorem sorted_fr {ts : List Int} {K : Nat} {l : List RowV} (h : ∀ v ∈ l, FR ts v) : ∀ v ∈ sortA (cN ts K) l, FR ts v := fun v hv => h v (sortA_mem.1 hv)
theorem fitsL_len (ts : List Int) (vss : List RowV) (most : Nat) : (fitsL ts vss most).length ≤ most := by
  unfold fitsL; rw [List.length_map, List.length_take]; omega
/-- a row that is put in ahead of those of its key -/
theorem sortA_ahead {α : Type} {c : α → α → Int} (ho : OrdG c) {l : List α} {x : α} {n : Nat} (hl : InA c l) (h1 : ∀ y ∈ l.take n, c y x < 0) (h2 : ∀ y ∈ l.drop n, 0 ≤ c y x) : sortA c (x :: l) = l.take n ++ x :: l.drop n := by
  have hsp : l.take n ++ l.drop n = l := List.take_append_drop n l
  symm
  refine sortA_of ho.a ?_ (fun a => ?_)
  · rw [inA_pw, List.pairwise_append]
    have hp := inA_pw.1 hl
    rw [← hsp, List.pairwise_append] at hp
    refine ⟨hp.1, List.pairwise_cons.2 ⟨fun y hy => ?_, hp.2.1⟩, fun y hy z hz => ?_⟩
    · have := h2 y hy
      have := ho.neg y x
      omega
    · rcases List.mem_cons.1 hz with rfl | hz
      · have := h1 y hy; omega
      · exact hp.2.2 y hy z hz
  · have e : l.filter (eqA c a) = (l.take n).filter (eqA c a) ++ (l.drop n).filter (eqA c a) := by rw [← List.filter_append, hsp]
    by_cases hx : eqA c a x = true
    · have hno : (l.take n).filter (eqA c a) = [] := by
        rw [List.filter_eq_nil_iff]
        intro y hy hya
        have k1 := of_decide_eq_true hx
        have k2 := of_decide_eq_true hya
        have := ho.trans x a y k1.1 k2.2
        have := ho.neg y x
        have := h1 y hy
        omega
      rw [List.filter_append, hno, List.nil_append, List.filter_cons, if_pos hx, List.filter_cons, if_pos hx, e, hno, List.nil_append]
    · rw [List.filter_append, List.filter_cons, if_neg hx, List.filter_cons, if_neg hx, e]
theorem sortA_behind {α : Type} {c : α → α → Int} {l : List α} {x : α} {m : Nat} (hl : InA c l) (h1 : ∀ y ∈ l.take m, c y x ≤ 0) (h2 : ∀ y ∈ l.drop m, 0 < c y x) : sortA c (l ++ [x]) = l.take m ++ x :: l.drop m := by
  rw [sortA_snoc, sortA_id l hl]
  have := insA_at (c := c) (x := x) (l.take m) (l.drop m) h1 (fun y hy => by
    cases hd : l.drop m with
    | nil => rw [hd] at hy; cases hy
    | cons z t =>
      rw [hd, List.head?_cons] at hy
      obtain rfl := Option.some.inj hy
      exact h2 z (by rw [hd]; exact List.mem_cons_self ..))
  rwa [List.take_append_drop] at this
/-- a row that is put in where Upto says, or Below -/
structure PlaceK (ts : List Int) (K : Nat) (l : List RowV) (u : RowV) (n m : Nat) : Prop where
  behind : sortA (cN ts K) (l ++ [u]) = l.take m ++ u :: l.drop m
  ahead : sortA (cN ts K) (u :: l) = l.take n ++ u :: l.drop n
theorem placeK {ts : List Int} {K : Nat} {l : List RowV} {u : RowV} {n m : Nat} (ht : Ty ts) (hu : FR ts u) (hl : InA (cN ts K) l) (hF : ∀ v ∈ l, FR ts v) (hc : CutK ts K l u n m) : PlaceK ts K l u n m := by
  have tk : ∀ (k : Nat) (y : RowV), y ∈ l.take k → ∃ i, i < k ∧ i < l.length ∧ y = l.getD i [] := fun k y hy => by
    obtain ⟨i, hi, rfl⟩ := List.mem_iff_getElem.1 hy
    rw [List.length_take] at hi
    refine ⟨i, by omega, by omega, ?_⟩
    rw [List.getElem_take]; simp [List.getD, show i < l.length by omega]
  have dk : ∀ (k : Nat) (y : RowV), y ∈ l.drop k → ∃ i, k ≤ i ∧ i < l.length ∧ y = l.getD i [] := fun k y hy => by
    obtain ⟨i, hi, rfl⟩ := List.mem_iff_getElem.1 hy
    rw [List.length_drop] at hi
    refine ⟨k + i, by omega, by omega, ?_⟩
    rw [List.getElem_drop]; simp [List.getD, show k + i < l.length by omega]
  refine ⟨sortA_behind hl (fun y hy => ?_) (fun y hy => ?_), sortA_ahead (cN_ord ht K) hl (fun y hy => ?_) (fun y hy => ?_)⟩
  · obtain ⟨i, h1, h2, rfl⟩ := tk m y hy
    have := hc.upto i h2
    rw [decide_eq_true h1] at this
    rw [cN_ok K (fr_at hF h2) hu]; exact of_decide_eq_true this
  · obtain ⟨i, h1, h2, rfl⟩ := dk m y hy
    have := hc.upto i h2
    rw [decide_eq_false (show ¬ i < m by omega)] at this
    have := of_decide_eq_false this
    rw [cN_ok K (fr_at hF h2) hu]; omega
  · obtain ⟨i, h1, h2, rfl⟩ := tk n y hy
    have := hc.lt i h2
    rw [decide_eq_true h1] at this
    rw [cN_ok K (fr_at hF h2) hu]; exact of_decide_eq_true this
  · obtain ⟨i, h1, h2, rfl⟩ := dk n y hy
    have := hc.lt i h2
    rw [decide_eq_false (show ¬ i < n by omega)] at this
    have := of_decide_eq_false this
    rw [cN_ok K (fr_at hF h2) hu]; omega
end Go.Proofs.YtbfihajgjbpmaaaGreat
