/- Texts that belong together, one behind the other: Q9p, Q9q, Q9r, Q9f. -/
import Derived.Laws.BitsAll
import Derived.Test.YtbfihajgjbpmaaaGreatSchC
/- Rows in order, as plain data: each put behind those that are not above it; what holds of it. No memory in sight. -/
namespace Go.Proofs.YtbfihajgjbpmaaaGreat
set_option linter.unusedVariables false
set_option maxRecDepth 4000

section
variable {α : Type} (c : α → α → Int)
/-- x behind those that are not above it -/
def insA (x : α) : List α → List α
  | [] => [x]
  | y :: l => if 0 < c y x then x :: y :: l else y :: insA x l
def sortA (l : List α) : List α := l.foldl (fun out x => insA c x out) []
/-- none is above a later one -/
def InA : List α → Prop
  | [] => True
  | x :: l => (∀ y ∈ l, c x y ≤ 0) ∧ InA l
/-- an order, of which some may be the same -/
structure OrdA : Prop where
  anti : ∀ a b, c a b ≤ 0 ∨ c b a ≤ 0
  turn : ∀ a b, 0 < c a b → c b a ≤ 0
  trans : ∀ a b d, c a b ≤ 0 → c b d ≤ 0 → c a d ≤ 0
variable {c}
theorem insA_mem {x y : α} : ∀ {l : List α}, y ∈ insA c x l ↔ y = x ∨ y ∈ l
  | [] => by simp [insA]
  | z :: l => by
    rw [insA]
    split
    · simp
    · rw [List.mem_cons, insA_mem, List.mem_cons, ← or_assoc, ← or_assoc, or_comm (a := y = z)]
theorem insA_len (x : α) : ∀ l : List α, (insA c x l).length = l.length + 1
  | [] => rfl
  | z :: l => by rw [insA]; split <;> simp [insA_len x l]
theorem insA_perm (x : α) : ∀ l : List α, (insA c x l).Perm (x :: l)
  | [] => List.Perm.refl _
  | z :: l => by
    rw [insA]
    split
    · exact List.Perm.refl _
    · exact ((insA_perm x l).cons z).trans (List.Perm.swap x z l)
theorem insA_in (h : OrdA c) {x : α} : ∀ {l : List α}, InA c l → InA c (insA c x l)
  | [], _ => ⟨(fun y hy => by cases hy), trivial⟩
  | z :: l, hl => by
    rw [insA]
    split
    · rename_i hz
      refine ⟨fun y hy => ?_, hl⟩
      have h1 := h.turn z x hz
      rcases List.mem_cons.1 hy with rfl | hy
      · exact h1
      · exact h.trans x z y h1 (hl.1 y hy)
    · rename_i hz
      refine ⟨fun y hy => ?_, insA_in h hl.2⟩
      rcases insA_mem.1 hy with rfl | hy
      · omega
      · exact hl.1 y hy
/-- behind all that are not above it: at the end, if none is -/
theorem insA_last {x : α} : ∀ {l : List α}, (∀ y ∈ l, c y x ≤ 0) → insA c x l = l ++ [x]
  | [], _ => rfl
  | z :: l, h => by
    rw [insA, if_neg (by have := h z (List.mem_cons_self ..); omega), insA_last (fun y hy => h y (List.mem_cons_of_mem _ hy))]
    rfl
/-- where it is put: behind as many as are not above it -/
theorem insA_at {x : α} : ∀ (l r : List α), (∀ y ∈ l, c y x ≤ 0) → (∀ y, r.head? = some y → 0 < c y x) → insA c x (l ++ r) = l ++ x :: r
  | [], [], _, _ => rfl
  | [], y :: r, _, h => by rw [List.nil_append, insA, if_pos (h y rfl)]; rfl
  | z :: l, r, h1, h2 => by
    rw [List.cons_append, insA, if_neg (by have := h1 z (List.mem_cons_self ..); omega), insA_at l r (fun y hy => h1 y (List.mem_cons_of_mem _ hy)) h2]
    rfl
theorem sortA_snoc (l : List α) (x : α) : sortA c (l ++ [x]) = insA c x (sortA c l) := by unfold sortA; rw [List.foldl_append]; rfl
theorem sortA_nil : sortA c [] = [] := rfl
/-- what holds of what is put one behind the other -/
theorem rev_ind {P : List α → Prop} (h0 : P []) (h1 : ∀ l x, P l → P (l ++ [x])) (l : List α) : P l := by
  have : ∀ n (l : List α), l.length = n → P l := by
    intro n
    induction n with
    | zero => intro l hl; rw [List.eq_nil_of_length_eq_zero hl]; exact h0
    | succ n ih =>
      intro l hl
      have hne : l ≠ [] := by rintro rfl; cases hl
      rw [← List.dropLast_concat_getLast hne]
      exact h1 _ _ (ih _ (by rw [List.length_dropLast]; omega))
  exact this _ l rfl
theorem sortA_in (h : OrdA c) (l : List α) : InA c (sortA c l) := by
  refine rev_ind (P := fun l => InA c (sortA c l)) trivial (fun l x ih => ?_) l
  show InA c (sortA c (l ++ [x])); rw [sortA_snoc]; exact insA_in h ih
theorem sortA_perm (l : List α) : (sortA c l).Perm l := by
  refine rev_ind (P := fun l => (sortA c l).Perm l) (List.Perm.refl _) (fun l x ih => ?_) l
  show (sortA c (l ++ [x])).Perm _
  rw [sortA_snoc]
  exact ((insA_perm x _).trans (ih.cons x)).trans (List.perm_append_comm (l₁ := [x]) (l₂ := l))
theorem sortA_len (l : List α) : (sortA c l).length = l.length := (sortA_perm l).length_eq
theorem inA_snoc {x : α} : ∀ {l : List α}, InA c (l ++ [x]) ↔ InA c l ∧ ∀ y ∈ l, c y x ≤ 0
  | [] => by simp [InA]
  | z :: l => by
    rw [List.cons_append, InA, InA, inA_snoc]
    constructor
    · rintro ⟨h1, h2, h3⟩
      refine ⟨⟨fun y hy => h1 y (List.mem_append_left _ hy), h2⟩, fun y hy => ?_⟩
      rcases List.mem_cons.1 hy with rfl | hy
      · exact h1 x (List.mem_append_right _ (List.mem_singleton.2 rfl))
      · exact h3 y hy
    · rintro ⟨⟨h1, h2⟩, h3⟩
      refine ⟨fun y hy => ?_, h2, fun y hy => h3 y (List.mem_cons_of_mem _ hy)⟩
      rcases List.mem_append.1 hy with hy | hy
      · exact h1 y hy
      · rw [List.mem_singleton.1 hy]; exact h3 z (List.mem_cons_self ..)
/-- what is in order stays -/
theorem sortA_id (l : List α) : InA c l → sortA c l = l := by
  refine rev_ind (P := fun l => InA c l → sortA c l = l) (fun _ => rfl) (fun l x ih h => ?_) l
  obtain ⟨h1, h2⟩ := inA_snoc.1 h
  rw [sortA_snoc, ih h1]
  exact insA_last h2
/-- how many hold p -/
def countA (p : α → Bool) : List α → Nat
  | [] => 0
  | x :: l => (if p x = true then 1 else 0) + countA p l
theorem countA_le (p : α → Bool) : ∀ l : List α, countA p l ≤ l.length
  | [] => Nat.le_refl _
  | x :: l => by have := countA_le p l; rw [countA, List.length_cons]; split <;> omega
/-- of rows in order those that hold p, if what is ahead of one that does holds it too, are the first ones -/
theorem countA_cut (p : α → Bool) : ∀ {l : List α}, l.Pairwise (fun a b => p b = true → p a = true) → ∀ i (hi : i < l.length), p l[i] = true ↔ i < countA p l
  | x :: l, h, 0, hi => by
    rw [countA]
    have h1 := (List.pairwise_cons.1 h).1
    by_cases hx : p x = true
    · simp [hx]; omega
    · simp only [List.getElem_cons_zero, hx]
      have h0 : countA p l = 0 := by
        have : ∀ (l : List α), (∀ y ∈ l, ¬ p y = true) → countA p l = 0 := by
          intro l
          induction l with
          | nil => intro _; rfl
          | cons y l ih =>
            intro h
            rw [countA, if_neg (h y (List.mem_cons_self ..)), ih (fun z hz => h z (List.mem_cons_of_mem _ hz))]
        exact this l (fun y hy hp => hx (h1 y hy hp))
      rw [h0]; simp
  | x :: l, h, i + 1, hi => by
    have h1 := (List.pairwise_cons.1 h)
    have ih := countA_cut p h1.2 i (by simpa using hi)
    rw [List.getElem_cons_succ, ih, countA]
    by_cases hx : p x = true
    · simp [hx]; omega
    · have hn : ¬ i < countA p l := fun hlt => by
        have hp := ih.2 hlt
        exact hx (h1.1 _ (List.getElem_mem _) hp)
      simp [hx]; omega
/-- those that are the same as a -/
def eqA (c : α → α → Int) (a y : α) : Bool := decide (c y a ≤ 0 ∧ c a y ≤ 0)
theorem eqA_self (h : OrdA c) (a : α) : eqA c a a = true := by
  unfold eqA
  rw [decide_eq_true_iff]
  rcases h.anti a a with h | h <;> exact ⟨h, h⟩
theorem insA_filter (h : OrdA c) (a x : α) : ∀ {l : List α}, InA c l → (insA c x l).filter (eqA c a) = (l ++ [x]).filter (eqA c a)
  | [], _ => rfl
  | y :: l, hl => by
    rw [insA]
    split
    · rename_i hy
      by_cases hx : eqA c a x = true
      · have hno : (y :: l).filter (eqA c a) = [] := by
          rw [List.filter_eq_nil_iff]
          intro z hz he
          unfold eqA at hx he
          rw [decide_eq_true_iff] at hx he
          have hzx : c z x ≤ 0 := h.trans z a x he.1 hx.2
          rcases List.mem_cons.1 hz with rfl | hz
          · omega
          · have := h.trans y z x (hl.1 z hz) hzx
            omega
        rw [List.filter_append, hno, List.filter_cons, if_pos hx, hno, List.nil_append, List.filter_cons, if_pos hx, List.filter_nil]
      · rw [List.filter_append, List.filter_cons (x := x) (xs := y :: l), if_neg hx, List.filter_cons (x := x) (xs := []), if_neg hx, List.filter_nil, List.append_nil]
    · rw [List.cons_append, List.filter_cons, List.filter_cons, insA_filter h a x hl.2]
/-- those of one key stand as they stood -/
theorem sortA_filter (h : OrdA c) (a : α) (l : List α) : (sortA c l).filter (eqA c a) = l.filter (eqA c a) := by
  refine rev_ind (P := fun l => (sortA c l).filter (eqA c a) = l.filter (eqA c a)) rfl (fun l x ih => ?_) l
  show (sortA c (l ++ [x])).filter _ = _
  rw [sortA_snoc, insA_filter h a x (sortA_in h l), List.filter_append, List.filter_append, ih]
theorem mem_of_filter (h : OrdA c) {r s : List α} (hf : ∀ a, r.filter (eqA c a) = s.filter (eqA c a)) {x : α} (hx : x ∈ r) : x ∈ s := by
  have : x ∈ r.filter (eqA c x) := List.mem_filter.2 ⟨hx, eqA_self h x⟩
  rw [hf x] at this
  exact (List.mem_filter.1 this).1
/-- rows in order, those of each key as in the other ones: there is but one such arrangement -/
theorem inA_one (h : OrdA c) : ∀ {r s : List α}, InA c r → InA c s → (∀ a, r.filter (eqA c a) = s.filter (eqA c a)) → r = s
  | [], [], _, _, _ => rfl
  | [], z :: s, _, _, hf => by have := mem_of_filter h (fun a => (hf a).symm) (List.mem_cons_self (a := z) (l := s)); cases this
  | x :: r, [], _, _, hf => by have := mem_of_filter h hf (List.mem_cons_self (a := x) (l := r)); cases this
  | x :: r, z :: s, hr, hs, hf => by
    have h1 : c x z ≤ 0 := by
      rcases List.mem_cons.1 (mem_of_filter h (fun a => (hf a).symm) (List.mem_cons_self (a := z) (l := s))) with e | e
      · rw [e]; rcases h.anti x x with h | h <;> exact h
      · exact hr.1 z e
    have h2 : c z x ≤ 0 := by
      rcases List.mem_cons.1 (mem_of_filter h hf (List.mem_cons_self (a := x) (l := r))) with e | e
      · rw [e]; rcases h.anti z z with h | h <;> exact h
      · exact hs.1 x e
    have e : x = z := by
      have h3 := hf x
      rw [List.filter_cons, if_pos (eqA_self h x), List.filter_cons, if_pos (show eqA c x z = true from decide_eq_true ⟨h2, h1⟩)] at h3
      exact (List.cons.inj h3).1
    subst e
    rw [inA_one h hr.2 hs.2 (fun a => by
      have h3 := hf a
      rw [List.filter_cons, List.filter_cons] at h3
      split at h3
      · exact (List.cons.inj h3).2
      · exact h3)]
theorem sortA_of (h : OrdA c) {r l : List α} (hr : InA c r) (hf : ∀ a, r.filter (eqA c a) = l.filter (eqA c a)) : r = sortA c l :=
  inA_one h hr (sortA_in h l) (fun a => (hf a).trans (sortA_filter h a l).symm)
end
end Go.Proofs.YtbfihajgjbpmaaaGreat
/- Rows that are put in order in place, as plain data: positions that change places, what stays as it was, and that those of one key stay as they stood. No memory in sight. -/
namespace Go.Proofs.YtbfihajgjbpmaaaGreat
set_option linter.unusedVariables false
set_option maxRecDepth 4000

/-- two positions change places -/
def swP (i j x : Nat) : Nat := if x = i then j else if x = j then i else x
/-- so many positions from a and from b on change places -/
def srP (a b k x : Nat) : Nat := if a ≤ x ∧ x < a + k then x - a + b else if b ≤ x ∧ x < b + k then x - b + a else x
/-- what stands from a on and what stands from m on, up to b, change places -/
def roP (a m b x : Nat) : Nat := if a ≤ x ∧ x < b then (if x < a + (b - m) then x + (m - a) else x - (b - m)) else x
theorem srP_zero (a b x : Nat) : srP a b 0 x = x := by
  unfold srP; rw [if_neg (by omega), if_neg (by omega)]
theorem srP_one (a b k x : Nat) (h : a + k < b ∨ b + k < a ∨ True) (hd : a + k + 1 ≤ b) : srP a b k (swP (a + k) (b + k) x) = srP a b (k + 1) x := by
  unfold srP swP
  repeat' split
  all_goals first | omega | (exfalso; omega)
theorem roP_left {i j m : Nat} (him : i ≤ m) (hj : 0 < j) (h : j < i) (x : Nat) : srP (m - i) m j (roP (m - (i - j)) m (m + j) x) = roP (m - i) m (m + j) x := by
  unfold srP roP
  repeat' split
  all_goals first | omega | (exfalso; omega)
theorem roP_right {i j m : Nat} (him : i ≤ m) (hi : 0 < i) (h : i < j) (x : Nat) : srP (m - i) (m + j - i) i (roP (m - i) m (m + (j - i)) x) = roP (m - i) m (m + j) x := by
  unfold srP roP
  repeat' split
  all_goals first | omega | (exfalso; omega)
theorem roP_same {i m : Nat} (him : i ≤ m) (x : Nat) : srP (m - i) m i x = roP (m - i) m (m + i) x := by
  unfold srP roP
  repeat' split
  all_goals first | omega | (exfalso; omega)
theorem roP_nil (m b x : Nat) : roP m m b x = x := by
  unfold roP
  repeat' split
  all_goals first | omega | (exfalso; omega)
theorem roP_nil' (a m x : Nat) : roP a m m x = x := by
  unfold roP
  repeat' split
  all_goals first | omega | (exfalso; omega)
theorem roP_up {a k : Nat} (h : a ≤ k) (x : Nat) : roP a (a + 1) (k + 1) (swP k (k + 1) x) = roP a (a + 1) (k + 2) x := by
  unfold swP roP
  repeat' split
  all_goals first | omega | (exfalso; omega)
theorem roP_down {k m : Nat} (h : k < m) (x : Nat) : roP (k + 1) m (m + 1) (swP (k + 1) k x) = roP k m (m + 1) x := by
  unfold swP roP
  repeat' split
  all_goals first | omega | (exfalso; omega)

/-- an order of numbers, of which some may be the same -/
structure OrdN (c : Nat → Nat → Int) : Prop where
  neg : ∀ a b, c b a = - c a b
  trans : ∀ a b d, c a b ≤ 0 → c b d ≤ 0 → c a d ≤ 0
theorem OrdN.lt {c : Nat → Nat → Int} (h : OrdN c) {a b d : Nat} (h1 : c a b ≤ 0) (h2 : c b d < 0) : c a d < 0 := by
  have h3 := h.trans a b d h1 (by omega)
  have h4 := h.neg a d
  have h5 := h.neg b d
  by_cases e : c a d < 0
  · exact e
  · have h6 := h.trans d a b (by omega) h1
    omega
theorem OrdN.lt' {c : Nat → Nat → Int} (h : OrdN c) {a b d : Nat} (h1 : c a b < 0) (h2 : c b d ≤ 0) : c a d < 0 := by
  have h3 := h.trans a b d (by omega) h2
  have h4 := h.neg a d
  have h5 := h.neg a b
  by_cases e : c a d < 0
  · exact e
  · have h6 := h.trans b d a h2 (by omega)
    omega
section
variable {c : Nat → Nat → Int} {n : Nat}
/-- an arrangement of the n first numbers in which those that are the same stand as they are numbered -/
structure StA (c : Nat → Nat → Int) (n : Nat) (s : Nat → Nat) : Prop where
  low : ∀ i, i < n → s i < n
  inj : ∀ i j, i < n → j < n → s i = s j → i = j
  st : ∀ i j, i < j → j < n → c (s i) (s j) = 0 → s i < s j
/-- from a up to b in order -/
def InS (c : Nat → Nat → Int) (s : Nat → Nat) (a b : Nat) : Prop := ∀ i j, a ≤ i → i < j → j < b → c (s i) (s j) ≤ 0
/-- moved about from a up to b alone -/
structure MvS (a b : Nat) (s s' : Nat → Nat) : Prop where
  out : ∀ x, x < a ∨ b ≤ x → s' x = s x
  mem : ∀ x, a ≤ x → x < b → ∃ y, a ≤ y ∧ y < b ∧ s' x = s y
theorem MvS.refl (a b : Nat) (s : Nat → Nat) : MvS a b s s := ⟨fun _ _ => rfl, fun x h1 h2 => ⟨x, h1, h2, rfl⟩⟩
theorem MvS.trans {a b : Nat} {s t u : Nat → Nat} (h : MvS a b s t) (k : MvS a b t u) : MvS a b s u :=
  ⟨fun x hx => (k.out x hx).trans (h.out x hx), fun x h1 h2 => by
    obtain ⟨y, y1, y2, e⟩ := k.mem x h1 h2
    obtain ⟨z, z1, z2, e2⟩ := h.mem y y1 y2
    exact ⟨z, z1, z2, e.trans e2⟩⟩
theorem MvS.mono {a b a' b' : Nat} {s t : Nat → Nat} (h : MvS a b s t) (ha : a' ≤ a) (hb : b ≤ b') : MvS a' b' s t :=
  ⟨fun x hx => h.out x (by omega), fun x h1 h2 => by
    by_cases hx : a ≤ x ∧ x < b
    · obtain ⟨y, y1, y2, e⟩ := h.mem x hx.1 hx.2
      exact ⟨y, by omega, by omega, e⟩
    · exact ⟨x, h1, h2, h.out x (by omega)⟩⟩
theorem InS.out {s t : Nat → Nat} {a b p q : Nat} (h : InS c s p q) (hm : MvS a b s t) (hq : q ≤ a ∨ b ≤ p) : InS c t p q := fun i j h1 h2 h3 => by
  rw [hm.out i (by omega), hm.out j (by omega)]; exact h i j h1 h2 h3
theorem InS.mono {s : Nat → Nat} {p q p' q' : Nat} (h : InS c s p q) (h1 : p ≤ p') (h2 : q' ≤ q) : InS c s p' q' := fun i j k1 k2 k3 => h i j (by omega) k2 (by omega)
theorem InS.none (c : Nat → Nat → Int) (s : Nat → Nat) {p q : Nat} (h : q ≤ p + 1) : InS c s p q := fun i j _ _ _ => by omega
theorem StA.of {s p : Nat → Nat} (h : StA c n s) (h1 : ∀ x, x < n → p x < n) (h2 : ∀ x y, x < n → y < n → p x = p y → x = y) (h3 : ∀ x y, x < y → y < n → p x < p y ∨ c (s (p x)) (s (p y)) ≠ 0) : StA c n (fun x => s (p x)) :=
  ⟨fun i hi => h.low _ (h1 i hi), fun i j hi hj e => h2 i j hi hj (h.inj _ _ (h1 i hi) (h1 j hj) e), fun i j hij hj e => by
    rcases h3 i j hij hj with h | h'
    · exact StA.st ‹_› _ _ h (h1 j hj) e
    · exact absurd e h'⟩
theorem swP_low {i j : Nat} (hi : i < n) (hj : j < n) : ∀ x, x < n → swP i j x < n := by
  intro x hx; unfold swP; repeat' split
  all_goals omega
theorem swP_inj (i j : Nat) : ∀ x y, swP i j x = swP i j y → x = y := by
  intro x y h; unfold swP at h; revert h; repeat' split
  all_goals omega
theorem StA.swap {s : Nat → Nat} {j : Nat} (h : StA c n s) (hj : j + 1 < n) (hl : c (s (j + 1)) (s j) < 0) : StA c n (fun x => s (swP j (j + 1) x)) := by
  refine h.of (swP_low (by omega) hj) (fun x y _ _ => swP_inj _ _ x y) (fun x y hxy hy => ?_)
  by_cases e : x = j ∧ y = j + 1
  · obtain ⟨rfl, rfl⟩ := e
    right
    have e1 : swP x (x + 1) x = x + 1 := by unfold swP; simp
    have e2 : swP x (x + 1) (x + 1) = x := by unfold swP; simp
    rw [e1, e2]; omega
  · left
    unfold swP; repeat' split
    all_goals omega
theorem MvS.swap {s : Nat → Nat} {a b i j : Nat} (hi : a ≤ i ∧ i < b) (hj : a ≤ j ∧ j < b) : MvS a b s (fun x => s (swP i j x)) := by
  refine ⟨fun x hx => ?_, fun x h1 h2 => ⟨swP i j x, ?_, ?_, rfl⟩⟩
  · have : swP i j x = x := by unfold swP; rw [if_neg (by omega), if_neg (by omega)]
    show s (swP i j x) = s x
    rw [this]
  · unfold swP; repeat' split
    all_goals omega
  · unfold swP; repeat' split
    all_goals omega
theorem roP_low {a m b : Nat} (h1 : a ≤ m) (h2 : m ≤ b) (hb : b ≤ n) : ∀ x, x < n → roP a m b x < n := by
  intro x hx; unfold roP; repeat' split
  all_goals omega
theorem roP_inj {a m b : Nat} (h1 : a ≤ m) (h2 : m ≤ b) : ∀ x y, roP a m b x = roP a m b y → x = y := by
  intro x y h; unfold roP at h; revert h; repeat' split
  all_goals omega
theorem StA.rot {s : Nat → Nat} {a m b : Nat} (h : StA c n s) (h1 : a ≤ m) (h2 : m ≤ b) (hb : b ≤ n) (hl : ∀ x y, a ≤ x → x < m → m ≤ y → y < b → c (s y) (s x) < 0) : StA c n (fun x => s (roP a m b x)) := by
  refine h.of (roP_low h1 h2 hb) (fun x y _ _ => roP_inj h1 h2 x y) (fun x y hxy hy => ?_)
  by_cases e : a ≤ x ∧ x < a + (b - m) ∧ a + (b - m) ≤ y ∧ y < b
  · right
    have e1 : roP a m b x = x + (m - a) := by unfold roP; rw [if_pos (by omega), if_pos (by omega)]
    have e2 : roP a m b y = y - (b - m) := by unfold roP; rw [if_pos (by omega), if_neg (by omega)]
    have := hl (y - (b - m)) (x + (m - a)) (by omega) (by omega) (by omega) (by omega)
    rw [e1, e2]; omega
  · left
    unfold roP; repeat' split
    all_goals omega
theorem MvS.rot {s : Nat → Nat} {a m b : Nat} (h1 : a ≤ m) (h2 : m ≤ b) : MvS a b s (fun x => s (roP a m b x)) := by
  refine ⟨fun x hx => ?_, fun x k1 k2 => ⟨roP a m b x, ?_, ?_, rfl⟩⟩
  · have : roP a m b x = x := by unfold roP; rw [if_neg (by omega)]
    show s (roP a m b x) = s x
    rw [this]
  · unfold roP; repeat' split
    all_goals omega
  · unfold roP; repeat' split
    all_goals omega

/-- an insertion under way: from a up to i in order, but what stands at j, which is not above what is behind it -/
structure InsJ (c : Nat → Nat → Int) (s : Nat → Nat) (a i j : Nat) : Prop where
  low : a ≤ j
  high : j ≤ i
  rest : ∀ x y, a ≤ x → x < y → y ≤ i → x ≠ j → y ≠ j → c (s x) (s y) ≤ 0
  own : ∀ y, j < y → y ≤ i → c (s j) (s y) ≤ 0
theorem InsJ.start {s : Nat → Nat} {a i : Nat} (h : InS c s a i) (ha : a ≤ i) : InsJ c s a i i :=
  ⟨ha, Nat.le_refl _, fun x y h1 h2 h3 h4 h5 => h x y h1 h2 (by omega), fun y h1 h2 => by omega⟩
theorem InsJ.step {s : Nat → Nat} {a i j : Nat} (h : InsJ c s a i (j + 1)) (hj : a ≤ j) (hl : c (s (j + 1)) (s j) < 0) : InsJ c (fun x => s (swP j (j + 1) x)) a i j := by
  have hh := h.high
  have e1 : swP j (j + 1) j = j + 1 := by unfold swP; simp
  have e2 : swP j (j + 1) (j + 1) = j := by unfold swP; simp
  have e3 : ∀ x, x ≠ j → x ≠ j + 1 → swP j (j + 1) x = x := fun x k1 k2 => by unfold swP; rw [if_neg k1, if_neg k2]
  refine ⟨hj, by omega, fun x y h1 h2 h3 h4 h5 => ?_, fun y h1 h2 => ?_⟩
  · show c (s (swP j (j + 1) x)) (s (swP j (j + 1) y)) ≤ 0
    by_cases hy : y = j + 1
    · subst hy
      rw [e2, e3 x h4 (by omega)]
      exact h.rest x j h1 (by omega) (by omega) (by omega) (by omega)
    · rw [e3 y h5 hy]
      by_cases hx : x = j + 1
      · subst hx
        rw [e2]
        exact h.rest j y (by omega) (by omega) h3 (by omega) (by omega)
      · rw [e3 x h4 hx]
        exact h.rest x y h1 h2 h3 hx hy
  · show c (s (swP j (j + 1) j)) (s (swP j (j + 1) y)) ≤ 0
    rw [e1]
    by_cases hy : y = j + 1
    · subst hy; rw [e2]; omega
    · rw [e3 y (by omega) hy]; exact h.own y (by omega) h2
theorem InsJ.stop {s : Nat → Nat} {a i j : Nat} (ho : OrdN c) (h : InsJ c s a i j) (hs : j = a ∨ ∃ k, j = k + 1 ∧ 0 ≤ c (s j) (s k)) : InS c s a (i + 1) := by
  intro x y h1 h2 h3
  by_cases hx : x = j
  · rw [hx]; exact h.own y (by omega) (by omega)
  · by_cases hy : y = j
    · rcases hs with hs | ⟨k, hk, hl⟩
      · omega
      · have q := ho.neg (s j) (s k)
        rw [hy]
        by_cases e : x = k
        · rw [e]; omega
        · exact ho.trans _ (s k) _ (h.rest x k h1 (by omega) (by omega) hx (by omega)) (by omega)
    · exact h.rest x y h1 h2 (by omega) hx hy

/-- what a merge in place makes of rows that are in order from a up to m, and from m up to b -/
structure SymS (c : Nat → Nat → Int) (n : Nat) (s s' : Nat → Nat) (a b : Nat) : Prop where
  st : StA c n s'
  mv : MvS a b s s'
  ins : InS c s' a b
/-- the one row at a, behind those of m up to i that are below it -/
theorem sym_left {s : Nat → Nat} {a b i : Nat} (ho : OrdN c) (h : StA c n s) (hb : b ≤ n) (hi : a + 1 ≤ i) (hib : i ≤ b) (hs : InS c s (a + 1) b) (h1 : ∀ x, a + 1 ≤ x → x < i → c (s x) (s a) < 0) (h2 : ∀ x, i ≤ x → x < b → 0 ≤ c (s x) (s a)) : SymS c n s (fun x => s (roP a (a + 1) i x)) a b := by
  refine ⟨h.rot (by omega) (by omega) (by omega) (fun x y k1 k2 k3 k4 => ?_), (MvS.rot (by omega) (by omega)).mono (by omega) hib, fun x y k1 k2 k3 => ?_⟩
  · obtain rfl : x = a := by omega
    exact h1 y k3 k4
  · have e1 : ∀ x, a ≤ x → x + 1 < i → roP a (a + 1) i x = x + 1 := fun x q1 q2 => by unfold roP; rw [if_pos (by omega), if_pos (by omega)]; omega
    have e2 : roP a (a + 1) i (i - 1) = a := by unfold roP; rw [if_pos (by omega), if_neg (by omega)]; omega
    have e3 : ∀ x, i ≤ x → roP a (a + 1) i x = x := fun x q1 => by unfold roP; rw [if_neg (by omega)]
    show c (s (roP a (a + 1) i x)) (s (roP a (a + 1) i y)) ≤ 0
    by_cases hy : i ≤ y
    · rw [e3 y hy]
      by_cases hx : i ≤ x
      · rw [e3 x hx]; exact hs x y (by omega) k2 k3
      · by_cases hx' : x + 1 < i
        · rw [e1 x k1 hx']; exact hs _ _ (by omega) (by omega) k3
        · obtain rfl : x = i - 1 := by omega
          rw [e2]
          have := ho.neg (s y) (s a)
          have := h2 y hy k3
          omega
    · by_cases hy' : y + 1 < i
      · rw [e1 y (by omega) hy', e1 x k1 (by omega)]; exact hs _ _ (by omega) (by omega) (by omega)
      · obtain rfl : y = i - 1 := by omega
        rw [e2, e1 x k1 (by omega)]
        have := h1 (x + 1) (by omega) (by omega)
        omega
/-- the one row at m, ahead of those from i on that are above it -/
theorem sym_right {s : Nat → Nat} {a m i : Nat} (ho : OrdN c) (h : StA c n s) (hb : m + 1 ≤ n) (hi : a ≤ i) (him : i ≤ m) (hs : InS c s a m) (h1 : ∀ x, a ≤ x → x < i → 0 ≤ c (s m) (s x)) (h2 : ∀ x, i ≤ x → x < m → c (s m) (s x) < 0) : SymS c n s (fun x => s (roP i m (m + 1) x)) a (m + 1) := by
  refine ⟨h.rot (by omega) (by omega) (by omega) (fun x y k1 k2 k3 k4 => ?_), (MvS.rot (by omega) (by omega)).mono hi (by omega), fun x y k1 k2 k3 => ?_⟩
  · obtain rfl : y = m := by omega
    exact h2 x k1 k2
  · have e1 : ∀ x, x < i → roP i m (m + 1) x = x := fun x q1 => by unfold roP; rw [if_neg (by omega)]
    have e2 : roP i m (m + 1) i = m := by unfold roP; rw [if_pos (by omega), if_pos (by omega)]; omega
    have e3 : ∀ x, i < x → x ≤ m → roP i m (m + 1) x = x - 1 := fun x q1 q2 => by unfold roP; rw [if_pos (by omega), if_neg (by omega)]; omega
    show c (s (roP i m (m + 1) x)) (s (roP i m (m + 1) y)) ≤ 0
    by_cases hx : x < i
    · rw [e1 x hx]
      by_cases hy : y < i
      · rw [e1 y hy]; exact hs x y k1 k2 (by omega)
      · by_cases hy' : y = i
        · subst hy'
          rw [e2]
          have := ho.neg (s m) (s x)
          have := h1 x k1 hx
          omega
        · rw [e3 y (by omega) (by omega)]; exact hs _ _ k1 (by omega) (by omega)
    · rw [e3 y (by omega) (by omega)]
      by_cases hx' : x = i
      · subst hx'
        rw [e2]
        have := h2 (y - 1) (by omega) (by omega)
        omega
      · rw [e3 x (by omega) (by omega)]; exact hs _ _ (by omega) (by omega) (by omega)
/-- where both halves are cut: k rows of the one, and as many of the other, change places -/
structure CutS (c : Nat → Nat → Int) (n : Nat) (s s' : Nat → Nat) (a t d e b : Nat) : Prop where
  st : StA c n s'
  mv : MvS a b s s'
  in1 : InS c s' a t
  in2 : InS c s' t d
  in3 : InS c s' d e
  in4 : InS c s' e b
  cross : ∀ x y, a ≤ x → x < d → d ≤ y → y < b → c (s' x) (s' y) ≤ 0
theorem sym_cut {s : Nat → Nat} {a m b t d e : Nat} (ho : OrdN c) (h : StA c n s) (hb : b ≤ n) (h1 : InS c s a m) (h2 : InS c s m b) (hat : a ≤ t) (htm : t ≤ m) (hme : m ≤ e) (heb : e ≤ b) (hd : t + e = d + m)
    (hlow : t < m → m < e → c (s (e - 1)) (s t) < 0) (hup : a < t → e < b → c (s (t - 1)) (s e) ≤ 0) : CutS c n s (fun x => s (roP t m e x)) a t d e b := by
  have e1 : ∀ x, x < t → roP t m e x = x := fun x q => by unfold roP; rw [if_neg (by omega)]
  have e2 : ∀ x, t ≤ x → x < d → roP t m e x = x + (m - t) := fun x q1 q2 => by unfold roP; rw [if_pos (by omega), if_pos (by omega)]
  have e3 : ∀ x, d ≤ x → x < e → roP t m e x = x - (e - m) := fun x q1 q2 => by unfold roP; rw [if_pos (by omega), if_neg (by omega)]
  have e4 : ∀ x, e ≤ x → roP t m e x = x := fun x q => by unfold roP; rw [if_neg (by omega)]
  have low : ∀ x y, t ≤ x → x < m → m ≤ y → y < e → c (s y) (s x) < 0 := fun x y k1 k2 k3 k4 => by
    have q := hlow (by omega) (by omega)
    have q1 : c (s y) (s t) < 0 := by
      by_cases hy : y = e - 1
      · rw [hy]; exact q
      · exact ho.lt (h2 y (e - 1) k3 (by omega) (by omega)) q
    by_cases hx : x = t
    · rw [hx]; exact q1
    · exact ho.lt' q1 (h1 t x hat (by omega) k2)
  have up : ∀ x y, a ≤ x → x < t → e ≤ y → y < b → c (s x) (s y) ≤ 0 := fun x y k1 k2 k3 k4 => by
    have q := hup (by omega) (by omega)
    have q1 : c (s x) (s e) ≤ 0 := by
      by_cases hx : x = t - 1
      · rw [hx]; exact q
      · exact ho.trans _ _ _ (h1 x (t - 1) k1 (by omega) (by omega)) q
    by_cases hy : y = e
    · rw [hy]; exact q1
    · exact ho.trans _ _ _ q1 (h2 e y hme (by omega) k4)
  refine ⟨h.rot htm hme (by omega) low, (MvS.rot htm hme).mono hat heb, ?_, ?_, ?_, ?_, ?_⟩
  · intro i j k1 k2 k3
    show c (s (roP t m e i)) (s (roP t m e j)) ≤ 0
    rw [e1 i (by omega), e1 j k3]; exact h1 i j k1 k2 (by omega)
  · intro i j k1 k2 k3
    show c (s (roP t m e i)) (s (roP t m e j)) ≤ 0
    rw [e2 i k1 (by omega), e2 j (by omega) k3]; exact h2 _ _ (by omega) (by omega) (by omega)
  · intro i j k1 k2 k3
    show c (s (roP t m e i)) (s (roP t m e j)) ≤ 0
    rw [e3 i k1 (by omega), e3 j (by omega) k3]; exact h1 _ _ (by omega) (by omega) (by omega)
  · intro i j k1 k2 k3
    show c (s (roP t m e i)) (s (roP t m e j)) ≤ 0
    rw [e4 i k1, e4 j (by omega)]; exact h2 _ _ (by omega) (by omega) (by omega)
  · intro x y k1 k2 k3 k4
    show c (s (roP t m e x)) (s (roP t m e y)) ≤ 0
    by_cases hx : x < t
    · rw [e1 x hx]
      by_cases hy : y < e
      · rw [e3 y k3 hy]; exact h1 _ _ k1 (by omega) (by omega)
      · rw [e4 y (by omega)]; exact up x y k1 hx (by omega) k4
    · rw [e2 x (by omega) k2]
      by_cases hy : y < e
      · rw [e3 y k3 hy]; have := low (y - (e - m)) (x + (m - t)) (by omega) (by omega) (by omega) (by omega); omega
      · rw [e4 y (by omega)]; exact h2 _ _ (by omega) (by omega) k4
/-- both halves in order, none of the first above one of the second -/
theorem sym_join {s s1 s2 s3 : Nat → Nat} {a t d e b : Nat} (hc : CutS c n s s1 a t d e b) (had : a ≤ d) (hdb : d ≤ b) (h2 : StA c n s2) (m2 : MvS a d s1 s2) (i2 : InS c s2 a d) (h3 : StA c n s3) (m3 : MvS d b s2 s3) (i3 : InS c s3 d b) : SymS c n s s3 a b := by
  refine ⟨h3, (hc.mv.trans (m2.mono (Nat.le_refl _) hdb)).trans (m3.mono had (Nat.le_refl _)), fun i j k1 k2 k3 => ?_⟩
  by_cases hi : d ≤ i
  · exact i3 i j hi k2 k3
  · by_cases hj : j < d
    · rw [m3.out i (by omega), m3.out j (by omega)]; exact i2 i j k1 k2 hj
    · rw [m3.out i (by omega)]
      obtain ⟨y, y1, y2, ey⟩ := m3.mem j (by omega) k3
      obtain ⟨x, x1, x2, ex⟩ := m2.mem i k1 (by omega)
      rw [ey, ex, m2.out y (by omega)]
      exact hc.cross x y x1 x2 y1 y2
end
end Go.Proofs.YtbfihajgjbpmaaaGreat
/- Halving, as plain data: between two places, below the one nothing holds P, from the other on all do. -/
namespace Go.Proofs.YtbfihajgjbpmaaaGreat
set_option linter.unusedVariables false
set_option maxRecDepth 4000

/-- P holds of all behind one of which it holds -/
def MonP (P : Nat → Prop) (lo hi : Nat) : Prop := ∀ x y, lo ≤ x → x ≤ y → y < hi → P x → P y
structure SchP (P : Nat → Prop) (lo hi i j : Nat) : Prop where
  l : lo ≤ i
  m : i ≤ j
  h : j ≤ hi
  no : ∀ x, lo ≤ x → x < i → ¬ P x
  yes : ∀ x, j ≤ x → x < hi → P x
theorem SchP.start {P : Nat → Prop} {lo hi : Nat} (h : lo ≤ hi) : SchP P lo hi lo hi := ⟨Nat.le_refl _, h, Nat.le_refl _, fun x h1 h2 => by omega, fun x h1 h2 => by omega⟩
theorem SchP.up {P : Nat → Prop} {lo hi i j k : Nat} (h : SchP P lo hi i j) (hm : MonP P lo hi) (h1 : i ≤ k) (h2 : k < j) (hk : ¬ P k) : SchP P lo hi (k + 1) j :=
  ⟨by have := h.l; omega, by omega, h.h, fun x q1 q2 hx => hk (hm x k q1 (by omega) (by have := h.h; omega) hx), h.yes⟩
theorem SchP.down {P : Nat → Prop} {lo hi i j k : Nat} (h : SchP P lo hi i j) (hm : MonP P lo hi) (h1 : i ≤ k) (h2 : k < j) (hk : P k) : SchP P lo hi i k :=
  ⟨h.l, h1, by have := h.h; omega, h.no, fun x q1 q2 => hm k x (by have := h.l; omega) q1 q2 hk⟩
/-- half of a sum, as the program reckons it -/
theorem half_of {x y h : Nat} (hh : (x + y) / 2 = h) (hxy : x < y) : x ≤ h ∧ h < y := by omega
section
variable {c : Nat → Nat → Int} {n : Nat}
theorem mon_left {s : Nat → Nat} {a m b : Nat} (ho : OrdN c) (h : InS c s m b) : MonP (fun x => 0 ≤ c (s x) (s a)) m b := fun x y h1 h2 h3 hx => by
  have hx : 0 ≤ c (s x) (s a) := hx
  show 0 ≤ c (s y) (s a)
  by_cases e : x = y
  · rw [← e]; exact hx
  · have h4 := h x y h1 (by omega) h3
    by_cases e2 : 0 ≤ c (s y) (s a)
    · exact e2
    · have := ho.lt h4 (show c (s y) (s a) < 0 by omega); omega
theorem mon_right {s : Nat → Nat} {a m : Nat} (ho : OrdN c) (h : InS c s a m) : MonP (fun x => c (s m) (s x) < 0) a m := fun x y h1 h2 h3 hx => by
  have hx : c (s m) (s x) < 0 := hx
  show c (s m) (s y) < 0
  by_cases e : x = y
  · rw [← e]; exact hx
  · exact ho.lt' hx (h x y h1 (by omega) h3)
/-- the place q - x of the one half goes down as x goes up -/
theorem mon_both {s : Nat → Nat} {a m b lo hi q : Nat} (ho : OrdN c) (h1 : InS c s a m) (h2 : InS c s m b) (hlo : a ≤ lo) (hhi : hi ≤ m) (hq : ∀ x, lo ≤ x → x < hi → m ≤ q - x ∧ q - x < b ∧ x ≤ q) : MonP (fun x => c (s (q - x)) (s x) < 0) lo hi := fun x y k1 k2 k3 hx => by
  have hx : c (s (q - x)) (s x) < 0 := hx
  show c (s (q - y)) (s y) < 0
  by_cases e : x = y
  · rw [← e]; exact hx
  · have e1 := hq x k1 (by omega)
    have e2 := hq y (by omega) k3
    exact ho.lt (h2 (q - y) (q - x) e2.1 (by omega) e1.2.1) (ho.lt' hx (h1 x y (by omega) (by omega) (by omega)))
/-- where the halving of two halves that mirror each other begins and ends -/
structure Mir (a m b d lo hi : Nat) : Prop where
  lo_hi : lo ≤ hi
  a_lo : a ≤ lo
  hi_m : hi ≤ m
  hi_d : hi ≤ d
  hi_q : hi ≤ d + m - 1
  lo_b : d + m ≤ lo + b
  far : ∀ x, lo ≤ x → x < hi → m ≤ d + m - 1 - x ∧ d + m - 1 - x < b ∧ x ≤ d + m - 1
  ends : (hi = m ∧ lo = a) ∨ (hi = d ∧ d + m = lo + b)
theorem mir_of {a m b d : Nat} (ham : a < m) (hmb : m < b) (hd : (a + b) / 2 = d) (lo hi : Nat) (h : (d < m ∧ lo = d + m - b ∧ hi = d) ∨ (m ≤ d ∧ lo = a ∧ hi = m)) : Mir a m b d lo hi := by
  rcases h with ⟨h1, rfl, rfl⟩ | ⟨h1, rfl, rfl⟩
  · exact ⟨by omega, by omega, by omega, by omega, by omega, by omega, fun x q1 q2 => by omega, .inr ⟨rfl, by omega⟩⟩
  · exact ⟨by omega, by omega, by omega, by omega, by omega, by omega, fun x q1 q2 => by omega, .inl ⟨rfl, rfl⟩⟩
/-- what is found: t, and its mirror place e -/
theorem cut_of {s : Nat → Nat} {a m b d lo hi t e : Nat} (ho : OrdN c) (hst : StA c n s) (hb : b ≤ n) (hmb : m < b) (h1 : InS c s a m) (h2 : InS c s m b) (hm : Mir a m b d lo hi) (h : SchP (fun x => c (s (d + m - 1 - x)) (s x) < 0) lo hi t t) (he : d + m - t = e) :
    CutS c n s (fun x => s (roP t m e x)) a t d e b ∧ a ≤ t ∧ t ≤ m ∧ m ≤ e ∧ e ≤ b ∧ t ≤ d ∧ d ≤ e := by
  have k1 := h.l; have k2 := h.h; have k3 := hm.lo_hi; have k4 := hm.a_lo; have k5 := hm.hi_m; have k6 := hm.hi_d
  have k7 := hm.ends; have k8 := hm.lo_b
  have hme : m ≤ e := by omega
  have heb : e ≤ b := by omega
  refine ⟨sym_cut ho hst hb h1 h2 (by omega) (by omega) hme heb (by omega) (fun q1 q2 => ?_) (fun q1 q2 => ?_), by omega, by omega, hme, heb, by omega, by omega⟩
  · by_cases e1 : t < hi
    · have := h.yes t (Nat.le_refl _) e1
      have : c (s (d + m - 1 - t)) (s t) < 0 := this
      rwa [show d + m - 1 - t = e - 1 by omega] at this
    · omega
  · by_cases e1 : lo < t
    · have := h.no (t - 1) (by omega) (by omega)
      have h3 : ¬ c (s (d + m - 1 - (t - 1))) (s (t - 1)) < 0 := this
      rw [show d + m - 1 - (t - 1) = e by omega] at h3
      have := ho.neg (s e) (s (t - 1))
      omega
    · omega
end
end Go.Proofs.YtbfihajgjbpmaaaGreat
/- Rows in order, as plain data: what an arrangement that is in order, and stable, is; the order of rows that may be, for any rows. -/
namespace Go.Proofs.YtbfihajgjbpmaaaGreat
set_option linter.unusedVariables false
set_option maxRecDepth 4000

/-- an order of which some may be the same -/
structure OrdG {α : Type} (c : α → α → Int) : Prop where
  neg : ∀ a b, c b a = - c a b
  trans : ∀ a b d, c a b ≤ 0 → c b d ≤ 0 → c a d ≤ 0
theorem OrdG.a {α : Type} {c : α → α → Int} (h : OrdG c) : OrdA c :=
  ⟨fun a b => by have := h.neg a b; omega, fun a b q => by have := h.neg a b; omega, h.trans⟩
theorem OrdG.n {α : Type} {c : α → α → Int} (h : OrdG c) (f : Nat → α) : OrdN (fun i j => c (f i) (f j)) := ⟨fun a b => h.neg _ _, fun a b d => h.trans _ _ _⟩
theorem OrdG.pull {α β : Type} {c : α → α → Int} (h : OrdG c) (f : β → α) : OrdG (fun x y => c (f x) (f y)) := ⟨fun a b => h.neg _ _, fun a b d => h.trans _ _ _⟩
theorem nodup_few : ∀ (n : Nat) (l : List Nat), l.Nodup → (∀ x ∈ l, x < n) → l.length ≤ n
  | 0, [], _, _ => Nat.le_refl _
  | 0, x :: l, _, h => by have := h x (List.mem_cons_self ..); omega
  | n + 1, l, hn, h => by
    by_cases hm : n ∈ l
    · have h1 := nodup_few n (l.erase n) (hn.erase n) (fun x hx => by
        have h2 := (List.Nodup.mem_erase_iff hn).1 hx
        have := h x h2.2
        omega)
      rw [List.length_erase_of_mem hm] at h1
      omega
    · have h1 := nodup_few n l hn (fun x hx => by
        have := h x hx
        have : x ≠ n := fun e => hm (e ▸ hx)
        omega)
      omega
theorem perm_onto {n : Nat} {s : Nat → Nat} (h1 : ∀ i, i < n → s i < n) (h2 : ∀ i j, i < n → j < n → s i = s j → i = j) {y : Nat} (hy : y < n) : ∃ x, x < n ∧ s x = y := by
  by_cases h : ∃ x, x < n ∧ s x = y
  · exact h
  · have hnd : ((List.range n).map s).Nodup := by
      unfold List.Nodup
      rw [List.pairwise_map, List.pairwise_iff_getElem]
      intro i j hi hj hij e
      rw [List.length_range] at hi hj
      rw [List.getElem_range, List.getElem_range] at e
      have := h2 i j hi hj e
      omega
    have h3 := nodup_few n (y :: (List.range n).map s) (List.nodup_cons.2 ⟨fun hm => by
      obtain ⟨x, hx, e⟩ := List.mem_map.1 hm
      exact h ⟨x, List.mem_range.1 hx, e⟩, hnd⟩) (fun x hx => by
      rcases List.mem_cons.1 hx with rfl | hx
      · exact hy
      · obtain ⟨z, hz, rfl⟩ := List.mem_map.1 hx
        exact h1 z (List.mem_range.1 hz))
    simp at h3
    omega
/-- two rows of numbers that go up, and have the same numbers, are the same -/
theorem up_ext : ∀ {a b : List Nat}, a.Pairwise (· < ·) → b.Pairwise (· < ·) → (∀ x, x ∈ a ↔ x ∈ b) → a = b
  | [], [], _, _, _ => rfl
  | [], y :: b, _, _, h => by have := (h y).2 (List.mem_cons_self ..); cases this
  | x :: a, [], _, _, h => by have := (h x).1 (List.mem_cons_self ..); cases this
  | x :: a, y :: b, ha, hb, h => by
    have ha' := List.pairwise_cons.1 ha
    have hb' := List.pairwise_cons.1 hb
    have e : x = y := by
      rcases List.mem_cons.1 ((h x).1 (List.mem_cons_self ..)) with e | e
      · exact e
      · rcases List.mem_cons.1 ((h y).2 (List.mem_cons_self ..)) with e2 | e2
        · exact e2.symm
        · have := ha'.1 y e2; have := hb'.1 x e; omega
    subst e
    rw [up_ext ha'.2 hb'.2 (fun z => by
      constructor
      · intro hz
        rcases List.mem_cons.1 ((h z).1 (List.mem_cons_of_mem _ hz)) with e | e
        · have := ha'.1 z hz; omega
        · exact e
      · intro hz
        rcases List.mem_cons.1 ((h z).2 (List.mem_cons_of_mem _ hz)) with e | e
        · have := hb'.1 z hz; omega
        · exact e)]
theorem inA_pw {α : Type} {c : α → α → Int} : ∀ {l : List α}, InA c l ↔ l.Pairwise (fun x y => c x y ≤ 0)
  | [] => by simp [InA]
  | x :: l => by rw [InA, List.pairwise_cons, inA_pw]
theorem range_map {α : Type} (l : List α) (d : α) : (List.range l.length).map (fun i => l.getD i d) = l := by
  refine List.ext_getElem (by simp) (fun i h1 h2 => ?_)
  simp [List.getD, h2]
/-- an arrangement that is in order, and stable, is what is put in order -/
theorem sorted_is {α : Type} {c : α → α → Int} (h : OrdG c) (l : List α) (d : α) (s : Nat → Nat) (hs : StA (fun i j => c (l.getD i d) (l.getD j d)) l.length s) (hi : InS (fun i j => c (l.getD i d) (l.getD j d)) s 0 l.length) : (List.range l.length).map (fun i => l.getD (s i) d) = sortA c l := by
  refine sortA_of h.a ?_ (fun a => ?_)
  · rw [inA_pw, List.pairwise_map, List.pairwise_iff_getElem]
    intro i j h1 h2 hij
    rw [List.length_range] at h1 h2
    rw [List.getElem_range, List.getElem_range]
    exact hi i j (Nat.zero_le _) hij h2
  · have e1 : (List.range l.length).map (fun i => l.getD (s i) d) = ((List.range l.length).map s).map (fun i => l.getD i d) := by rw [List.map_map]; rfl
    rw [e1, List.filter_map]
    conv => rhs; rw [← range_map l d, List.filter_map]
    refine congrArg _ (up_ext ?_ ?_ ?_)
    · rw [List.pairwise_filter, List.pairwise_map, List.pairwise_iff_getElem]
      intro i j h1 h2 hij q1 q2
      rw [List.length_range] at h1 h2
      rw [List.getElem_range] at q1 q2 ⊢
      rw [List.getElem_range]
      refine hs.st i j hij h2 ?_
      have k1 := of_decide_eq_true q1
      have k2 := of_decide_eq_true q2
      have k3 := h.trans _ _ _ k1.1 k2.2
      have k4 := h.trans _ _ _ k2.1 k1.2
      have k5 := h.neg (l.getD (s i) d) (l.getD (s j) d)
      have k6 : c (l.getD (s i) d) (l.getD (s j) d) ≤ 0 := k3
      have k7 : c (l.getD (s j) d) (l.getD (s i) d) ≤ 0 := k4
      show c (l.getD (s i) d) (l.getD (s j) d) = 0
      omega
    · rw [List.pairwise_filter, List.pairwise_iff_getElem]
      intro i j h1 h2 hij _ _
      rw [List.getElem_range, List.getElem_range]
      exact hij
    · intro x
      rw [List.mem_filter, List.mem_filter]
      have : x ∈ (List.range l.length).map s ↔ x ∈ List.range l.length := by
        rw [List.mem_range]
        constructor
        · intro hx
          obtain ⟨y, hy, rfl⟩ := List.mem_map.1 hx
          exact hs.low y (List.mem_range.1 hy)
        · intro hx
          obtain ⟨y, hy, e⟩ := perm_onto hs.low hs.inj hx
          exact List.mem_map.2 ⟨y, List.mem_range.2 hy, e⟩
      rw [this]
/-- the rows as they come are an arrangement -/
theorem StA.id (c : Nat → Nat → Int) (n : Nat) : StA c n (fun i => i) := ⟨fun i h => h, fun i j _ _ h => h, fun i j h _ _ => h⟩
theorem insA_congr {α : Type} {c c' : α → α → Int} {x : α} : ∀ {l : List α}, (∀ y ∈ l, c y x = c' y x) → insA c x l = insA c' x l
  | [], _ => rfl
  | y :: l, h => by rw [insA, insA, h y (List.mem_cons_self ..), insA_congr (fun z hz => h z (List.mem_cons_of_mem _ hz))]

abbrev RowV := List (Int × ByteArray)
/-- a row that may be -/
structure FR (ts : List Int) (a : RowV) : Prop where
  len : a.length = ts.length
  ok : OkR okV ts a
theorem okR_get {ts : List Int} {a : RowV} : OkR okV ts a → ∀ i, i < ts.length → okV (ts.getD i 0) (a.getD i v0) := by
  induction ts generalizing a with
  | nil => intro _ i hi; simp at hi
  | cons t ts ih =>
    intro h i hi
    cases a with
    | nil => cases h
    | cons x a =>
      cases i with
      | zero => exact h.1
      | succ i => exact ih h.2 i (by simpa using hi)
theorem FR.fit {ts : List Int} {vs : RowV} (ht : Ty ts) (hv : RgV vs) : FR ts (fitR ts vs) := ⟨fitR_len _ _, by
  have := fitR_ok ts.length (Nat.le_refl _) ht hv
  rwa [List.take_length] at this⟩
/-- a number that is one -/
def clI (x : Int) : Int := if -9223372036854775808 ≤ x ∧ x ≤ 9223372036854775807 then x else 0
/-- any row, made one that may be -/
def nrm (ts : List Int) (a : RowV) : RowV := fitR ts (a.map fun v => (clI v.1, v.2))
theorem nrm_fr {ts : List Int} (ht : Ty ts) (a : RowV) : FR ts (nrm ts a) := FR.fit ht (fun v hv => by
  obtain ⟨x, _, rfl⟩ := List.mem_map.1 hv
  show -9223372036854775808 ≤ clI x.1 ∧ clI x.1 ≤ 9223372036854775807
  unfold clI
  split <;> omega)
theorem fitV_id {t : Int} {v : Int × ByteArray} (h : okV t v) : fitV t v = v := by
  obtain ⟨h1, h2, h3⟩ := h
  obtain ⟨n, s⟩ := v
  unfold fitV fitN fitS
  unfold fitsB at h2
  rcases h1 with rfl | rfl | rfl
  · rw [if_pos (.inl rfl), empty_is] at h2
    have hs : s.size = 0 := by simpa using h2
    rw [if_neg (by decide), if_neg (by decide)]
    refine Prod.ext rfl (ByteArray.ext (Array.eq_empty_of_size_eq_zero hs).symm)
  · rw [if_pos (.inr rfl), empty_is] at h2
    have hs : s.size = 0 := by simpa using h2
    rw [if_neg (by decide), if_neg (by decide)]
    refine Prod.ext rfl (ByteArray.ext (Array.eq_empty_of_size_eq_zero hs).symm)
  · rw [if_neg (by omega), if_pos rfl, Bool.and_eq_true] at h2
    have k1 : n = 0 := of_decide_eq_true h2.1
    have k2 : (s.size : Int) ≤ 60 := of_decide_eq_true h2.2
    rw [if_pos rfl, if_pos rfl, k1, cut_all (show s.size ≤ 60 by omega)]
theorem nrm_id {ts : List Int} {a : RowV} (h : FR ts a) : nrm ts a = a := by
  refine List.ext_getElem (by rw [nrm, fitR_len, h.len]) (fun i h1 h2 => ?_)
  have hi : i < ts.length := by rw [← h.len]; exact h2
  have e1 : ∀ (l : RowV) (hl : i < l.length), l.getD i v0 = l[i] := fun l hl => by simp [List.getD, hl]
  rw [← e1 _ h1, ← e1 _ h2]
  unfold nrm
  rw [fitR_at hi]
  have e2 : (a.map fun v => (clI v.1, v.2)).getD i v0 = (clI (a.getD i v0).1, (a.getD i v0).2) := by
    simp [List.getD, h2]
  have ok := okR_get h.ok i hi
  rw [e2]
  have e3 : clI (a.getD i v0).1 = (a.getD i v0).1 := by unfold clI; rw [if_pos ok.2.2]
  rw [e3]
  exact fitV_id ok
/-- the order by the first k columns, of any rows -/
def cN (ts : List Int) (k : Nat) (a b : RowV) : Int := cR (ts.take k) (nrm ts a) (nrm ts b)
theorem cN_ok {ts : List Int} (k : Nat) {a b : RowV} (ha : FR ts a) (hb : FR ts b) : cN ts k a b = cR (ts.take k) a b := by
  unfold cN; rw [nrm_id ha, nrm_id hb]
theorem cN_ord {ts : List Int} (ht : Ty ts) (k : Nat) : OrdG (cN ts k) :=
  ⟨fun a b => cmpRow_anti' cV_ord _ _ _ (okR_take _ _ k (nrm_fr ht a).ok) (okR_take _ _ k (nrm_fr ht b).ok), fun a b d => cmpRow_down cV_ord _ _ _ _ (okR_take _ _ k (nrm_fr ht a).ok) (okR_take _ _ k (nrm_fr ht b).ok) (okR_take _ _ k (nrm_fr ht d).ok)⟩
/-- against a key of fewer values -/
theorem cR_key (ts : List Int) (K k : Nat) (a b : RowV) : cR (ts.take K) a (b.take k) = cR (ts.take (min k K)) a b := by
  unfold cR; rw [cmpRow_short, List.take_take]
/-- what is in order by more columns is by fewer -/
theorem cmpRow_less {α : Type} {c : Int → α → α → Int} : ∀ (ts : List Int) (l r : List α) (k : Nat), cmpRow c ts l r ≤ 0 → cmpRow c (ts.take k) l r ≤ 0
  | [], l, r, k, _ => by simp [cmpRow]
  | t :: ts, l, r, 0, _ => by simp [cmpRow]
  | t :: ts, [], r, k + 1, _ => by simp [cmpRow]
  | t :: ts, a :: l, [], k + 1, _ => by simp [cmpRow]
  | t :: ts, a :: l, b :: r, k + 1, h => by
    rw [List.take_succ_cons, cmpRow]
    rw [cmpRow] at h
    split
    · rename_i h0; rw [if_pos h0] at h; exact cmpRow_less ts l r k h
    · rename_i h0; rw [if_neg h0] at h; exact h
theorem cN_less {ts : List Int} {K k : Nat} (hk : k ≤ K) {a b : RowV} (h : cN ts K a b ≤ 0) : cN ts k a b ≤ 0 := by
  have := cmpRow_less (ts.take K) (nrm ts a) (nrm ts b) k h
  rw [List.take_take, Nat.min_eq_left hk] at this
  exact this
/-- how many rows hold p, if they are the first t -/
theorem countA_first {α : Type} (p : α → Bool) (d : α) : ∀ (l : List α) (t : Nat), t ≤ l.length → (∀ i, i < t → p (l.getD i d) = true) → (∀ i, t ≤ i → i < l.length → p (l.getD i d) = false) → countA p l = t
  | [], t, h, _, _ => by simp at h; rw [h]; rfl
  | x :: l, 0, _, _, h2 => by
    have h0 := h2 0 (Nat.le_refl _) (by simp)
    have := countA_first p d l 0 (Nat.zero_le _) (fun i hi => by omega) (fun i _ hi => h2 (i + 1) (by omega) (by simpa using hi))
    rw [countA, this]
    simp only [List.getD_cons_zero] at h0
    simp [h0]
  | x :: l, t + 1, h, h1, h2 => by
    have h0 := h1 0 (by omega)
    have := countA_first p d l t (by simpa using h) (fun i hi => h1 (i + 1) (by omega)) (fun i hi hl => h2 (i + 1) (by omega) (by simpa using hl))
    rw [countA, this]
    simp only [List.getD_cons_zero] at h0
    simp [h0]; omega
/-- whether no row is above the next one -/
def srtB {α : Type} (c : α → α → Int) (d : α) (l : List α) : Bool := decide (∀ i, i < l.length - 1 → c (l.getD i d) (l.getD (i + 1) d) ≤ 0)
theorem srtB_in {α : Type} {c : α → α → Int} (d : α) {l : List α} (h : InA c l) : srtB c d l = true := by
  refine decide_eq_true (fun i hi => ?_)
  have := List.pairwise_iff_getElem.1 (inA_pw.1 h) i (i + 1) (by omega) (by omega) (by omega)
  simpa [List.getD, show i < l.length by omega, show i + 1 < l.length by omega] using this
end Go.Proofs.YtbfihajgjbpmaaaGreat
