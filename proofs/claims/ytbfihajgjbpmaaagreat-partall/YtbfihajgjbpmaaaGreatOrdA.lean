/- Texts that belong together, one behind the other: Q9p, Q9q, Q9r, Q9f. -/
import Derived.Laws.BitsAll
import Derived.Test.YtbfihajgjbpmaaaGreatSchC
/- Rows in order, as plain data: each put behind those that are not above it; what holds of it. No memory in sight. -/
namespace Go.Proofs.YtbfihajgjbpmaaaGreat
set_option linter.unusedVariables false
set_option maxRecDepth 4000

section
variable {α : Type} (c : α → α → Int)
/-- an order, of which some may be the same -/
structure OrdA : Prop where
  anti : ∀ a b, c a b ≤ 0 ∨ c b a ≤ 0
  turn : ∀ a b, 0 < c a b → c b a ≤ 0
  trans : ∀ a b d, c a b ≤ 0 → c b d ≤ 0 → c a d ≤ 0
variable {c}
end
end Go.Proofs.YtbfihajgjbpmaaaGreat
/- Rows that are put in order in place, as plain data: positions that change places, what stays as it was, and that those of one key stay as they stood. No memory in sight. -/
namespace Go.Proofs.YtbfihajgjbpmaaaGreat
set_option linter.unusedVariables false
set_option maxRecDepth 4000

/-- two positions change places -/
def swP (i j x : Nat) : Nat := if x = i then j else if x = j then i else x
/-- an order of numbers, of which some may be the same -/
structure OrdN (c : Nat → Nat → Int) : Prop where
  neg : ∀ a b, c b a = - c a b
  trans : ∀ a b d, c a b ≤ 0 → c b d ≤ 0 → c a d ≤ 0
theorem OrdN.lt {c : Nat → Nat → Int} (h : OrdN c) {a b d : Nat} (h1 : c a b ≤ 0) (h2 : c b d < 0) : c a d < 0 := by
  have h3 := h.trans a b d h1 (by omega)
  have h4 := h.neg a d
  have h5 := h.neg b d
  by_cases e : c a d < 0
  · exact e
  · have h6 := h.trans d a b (by omega) h1
    omega
section
variable {c : Nat → Nat → Int} {n : Nat}
/-- an arrangement of the n first numbers in which those that are the same stand as they are numbered -/
structure StA (c : Nat → Nat → Int) (n : Nat) (s : Nat → Nat) : Prop where
  low : ∀ i, i < n → s i < n
  inj : ∀ i j, i < n → j < n → s i = s j → i = j
  st : ∀ i j, i < j → j < n → c (s i) (s j) = 0 → s i < s j
/-- from a up to b in order -/
def InS (c : Nat → Nat → Int) (s : Nat → Nat) (a b : Nat) : Prop := ∀ i j, a ≤ i → i < j → j < b → c (s i) (s j) ≤ 0
/-- moved about from a up to b alone -/
structure MvS (a b : Nat) (s s' : Nat → Nat) : Prop where
  out : ∀ x, x < a ∨ b ≤ x → s' x = s x
  mem : ∀ x, a ≤ x → x < b → ∃ y, a ≤ y ∧ y < b ∧ s' x = s y
theorem MvS.refl (a b : Nat) (s : Nat → Nat) : MvS a b s s := ⟨fun _ _ => rfl, fun x h1 h2 => ⟨x, h1, h2, rfl⟩⟩
theorem MvS.trans {a b : Nat} {s t u : Nat → Nat} (h : MvS a b s t) (k : MvS a b t u) : MvS a b s u :=
  ⟨fun x hx => (k.out x hx).trans (h.out x hx), fun x h1 h2 => by
    obtain ⟨y, y1, y2, e⟩ := k.mem x h1 h2
    obtain ⟨z, z1, z2, e2⟩ := h.mem y y1 y2
    exact ⟨z, z1, z2, e.trans e2⟩⟩
theorem MvS.mono {a b a' b' : Nat} {s t : Nat → Nat} (h : MvS a b s t) (ha : a' ≤ a) (hb : b ≤ b') : MvS a' b' s t :=
  ⟨fun x hx => h.out x (by omega), fun x h1 h2 => by
    by_cases hx : a ≤ x ∧ x < b
    · obtain ⟨y, y1, y2, e⟩ := h.mem x hx.1 hx.2
      exact ⟨y, by omega, by omega, e⟩
    · exact ⟨x, h1, h2, h.out x (by omega)⟩⟩
theorem InS.out {s t : Nat → Nat} {a b p q : Nat} (h : InS c s p q) (hm : MvS a b s t) (hq : q ≤ a ∨ b ≤ p) : InS c t p q := fun i j h1 h2 h3 => by
  rw [hm.out i (by omega), hm.out j (by omega)]; exact h i j h1 h2 h3
theorem InS.mono {s : Nat → Nat} {p q p' q' : Nat} (h : InS c s p q) (h1 : p ≤ p') (h2 : q' ≤ q) : InS c s p' q' := fun i j k1 k2 k3 => h i j (by omega) k2 (by omega)
theorem InS.none (c : Nat → Nat → Int) (s : Nat → Nat) {p q : Nat} (h : q ≤ p + 1) : InS c s p q := fun i j _ _ _ => by omega
theorem StA.of {s p : Nat → Nat} (h : StA c n s) (h1 : ∀ x, x < n → p x < n) (h2 : ∀ x y, x < n → y < n → p x = p y → x = y) (h3 : ∀ x y, x < y → y < n → p x < p y ∨ c (s (p x)) (s (p y)) ≠ 0) : StA c n (fun x => s (p x)) :=
  ⟨fun i hi => h.low _ (h1 i hi), fun i j hi hj e => h2 i j hi hj (h.inj _ _ (h1 i hi) (h1 j hj) e), fun i j hij hj e => by
    rcases h3 i j hij hj with h | h'
    · exact StA.st ‹_› _ _ h (h1 j hj) e
    · exact absurd e h'⟩
/-- an insertion under way: from a up to i in order, but what stands at j, which is not above what is behind it -/
structure InsJ (c : Nat → Nat → Int) (s : Nat → Nat) (a i j : Nat) : Prop where
  low : a ≤ j
  high : j ≤ i
  rest : ∀ x y, a ≤ x → x < y → y ≤ i → x ≠ j → y ≠ j → c (s x) (s y) ≤ 0
  own : ∀ y, j < y → y ≤ i → c (s j) (s y) ≤ 0
theorem InsJ.step {s : Nat → Nat} {a i j : Nat} (h : InsJ c s a i (j + 1)) (hj : a ≤ j) (hl : c (s (j + 1)) (s j) < 0) : InsJ c (fun x => s (swP j (j + 1) x)) a i j := by
  have hh := h.high
  have e1 : swP j (j + 1) j = j + 1 := by unfold swP; simp
  have e2 : swP j (j + 1) (j + 1) = j := by unfold swP; simp
  have e3 : ∀ x, x ≠ j → x ≠ j + 1 → swP j (j + 1) x = x := fun x k1 k2 => by unfold swP; rw [if_neg k1, if_neg k2]
  refine ⟨hj, by omega, fun x y h1 h2 h3 h4 h5 => ?_, fun y h1 h2 => ?_⟩
  · show c (s (swP j (j + 1) x)) (s (swP j (j + 1) y)) ≤ 0
    by_cases hy : y = j + 1
    · subst hy
      rw [e2, e3 x h4 (by omega)]
      exact h.rest x j h1 (by omega) (by omega) (by omega) (by omega)
    · rw [e3 y h5 hy]
      by_cases hx : x = j + 1
      · subst hx
        rw [e2]
        exact h.rest j y (by omega) (by omega) h3 (by omega) (by omega)
      · rw [e3 x h4 hx]
        exact h.rest x y h1 h2 h3 hx hy
  · show c (s (swP j (j + 1) j)) (s (swP j (j + 1) y)) ≤ 0
    rw [e1]
    by_cases hy : y = j + 1
    · subst hy; rw [e2]; omega
    · rw [e3 y (by omega) hy]; exact h.own y (by omega) h2
/-- what a merge in place makes of rows that are in order from a up to m, and from m up to b -/
structure SymS (c : Nat → Nat → Int) (n : Nat) (s s' : Nat → Nat) (a b : Nat) : Prop where
  st : StA c n s'
  mv : MvS a b s s'
  ins : InS c s' a b
/-- where both halves are cut: k rows of the one, and as many of the other, change places -/
structure CutS (c : Nat → Nat → Int) (n : Nat) (s s' : Nat → Nat) (a t d e b : Nat) : Prop where
  st : StA c n s'
  mv : MvS a b s s'
  in1 : InS c s' a t
  in2 : InS c s' t d
  in3 : InS c s' d e
  in4 : InS c s' e b
  cross : ∀ x y, a ≤ x → x < d → d ≤ y → y < b → c (s' x) (s' y) ≤ 0
end
end Go.Proofs.YtbfihajgjbpmaaaGreat
/- Halving, as plain data: between two places, below the one nothing holds P, from the other on all do. -/
namespace Go.Proofs.YtbfihajgjbpmaaaGreat
set_option linter.unusedVariables false
set_option maxRecDepth 4000

/-- P holds of all behind one of which it holds -/
def MonP (P : Nat → Prop) (lo hi : Nat) : Prop := ∀ x y, lo ≤ x → x ≤ y → y < hi → P x → P y
structure SchP (P : Nat → Prop) (lo hi i j : Nat) : Prop where
  l : lo ≤ i
  m : i ≤ j
  h : j ≤ hi
  no : ∀ x, lo ≤ x → x < i → ¬ P x
  yes : ∀ x, j ≤ x → x < hi → P x
theorem SchP.up {P : Nat → Prop} {lo hi i j k : Nat} (h : SchP P lo hi i j) (hm : MonP P lo hi) (h1 : i ≤ k) (h2 : k < j) (hk : ¬ P k) : SchP P lo hi (k + 1) j :=
  ⟨by have := h.l; omega, by omega, h.h, fun x q1 q2 hx => hk (hm x k q1 (by omega) (by have := h.h; omega) hx), h.yes⟩
theorem SchP.down {P : Nat → Prop} {lo hi i j k : Nat} (h : SchP P lo hi i j) (hm : MonP P lo hi) (h1 : i ≤ k) (h2 : k < j) (hk : P k) : SchP P lo hi i k :=
  ⟨h.l, h1, by have := h.h; omega, h.no, fun x q1 q2 => hm k x (by have := h.l; omega) q1 q2 hk⟩
section
variable {c : Nat → Nat → Int} {n : Nat}
/-- where the halving of two halves that mirror each other begins and ends -/
structure Mir (a m b d lo hi : Nat) : Prop where
  lo_hi : lo ≤ hi
  a_lo : a ≤ lo
  hi_m : hi ≤ m
  hi_d : hi ≤ d
  hi_q : hi ≤ d + m - 1
  lo_b : d + m ≤ lo + b
  far : ∀ x, lo ≤ x → x < hi → m ≤ d + m - 1 - x ∧ d + m - 1 - x < b ∧ x ≤ d + m - 1
  ends : (hi = m ∧ lo = a) ∨ (hi = d ∧ d + m = lo + b)
end
end Go.Proofs.YtbfihajgjbpmaaaGreat
/- Rows in order, as plain data: what an arrangement that is in order, and stable, is; the order of rows that may be, for any rows. -/
namespace Go.Proofs.YtbfihajgjbpmaaaGreat
set_option linter.unusedVariables false
set_option maxRecDepth 4000

/-- an order of which some may be the same -/
structure OrdG {α : Type} (c : α → α → Int) : Prop where
  neg : ∀ a b, c b a = - c a b
  trans : ∀ a b d, c a b ≤ 0 → c b d ≤ 0 → c a d ≤ 0
theorem OrdG.a {α : Type} {c : α → α → Int} (h : OrdG c) : OrdA c :=
  ⟨fun a b => by have := h.neg a b; omega, fun a b q => by have := h.neg a b; omega, h.trans⟩
theorem OrdG.n {α : Type} {c : α → α → Int} (h : OrdG c) (f : Nat → α) : OrdN (fun i j => c (f i) (f j)) := ⟨fun a b => h.neg _ _, fun a b d => h.trans _ _ _⟩
theorem range_map {α : Type} (l : List α) (d : α) : (List.range l.length).map (fun i => l.getD i d) = l := by
  refine List.ext_getElem (by simp) (fun i h1 h2 => ?_)
  simp [List.getD, h2]
/-- the rows as they come are an arrangement -/
theorem StA.id (c : Nat → Nat → Int) (n : Nat) : StA c n (fun i => i) := ⟨fun i h => h, fun i j _ _ h => h, fun i j h _ _ => h⟩
abbrev RowV := List (Int × ByteArray)
/-- a row that may be -/
structure FR (ts : List Int) (a : RowV) : Prop where
  len : a.length = ts.length
  ok : OkR okV ts a
theorem okR_get {ts : List Int} {a : RowV} : OkR okV ts a → ∀ i, i < ts.length → okV (ts.getD i 0) (a.getD i v0) := by
  induction ts generalizing a with
  | nil => intro _ i hi; simp at hi
  | cons t ts ih =>
    intro h i hi
    cases a with
    | nil => cases h
    | cons x a =>
      cases i with
      | zero => exact h.1
      | succ i => exact ih h.2 i (by simpa using hi)
theorem FR.fit {ts : List Int} {vs : RowV} (ht : Ty ts) (hv : RgV vs) : FR ts (fitR ts vs) := ⟨fitR_len _ _, by
  have := fitR_ok ts.length (Nat.le_refl _) ht hv
  rwa [List.take_length] at this⟩
/-- a number that is one -/
def clI (x : Int) : Int := if -9223372036854775808 ≤ x ∧ x ≤ 9223372036854775807 then x else 0
/-- any row, made one that may be -/
def nrm (ts : List Int) (a : RowV) : RowV := fitR ts (a.map fun v => (clI v.1, v.2))
theorem nrm_fr {ts : List Int} (ht : Ty ts) (a : RowV) : FR ts (nrm ts a) := FR.fit ht (fun v hv => by
  obtain ⟨x, _, rfl⟩ := List.mem_map.1 hv
  show -9223372036854775808 ≤ clI x.1 ∧ clI x.1 ≤ 9223372036854775807
  unfold clI
  split <;> omega)
theorem fitV_id {t : Int} {v : Int × ByteArray} (h : okV t v) : fitV t v = v := by
  obtain ⟨h1, h2, h3⟩ := h
  obtain ⟨n, s⟩ := v
  unfold fitV fitN fitS
  unfold fitsB at h2
  rcases h1 with rfl | rfl | rfl
  · rw [if_pos (.inl rfl), empty_is] at h2
    have hs : s.size = 0 := by simpa using h2
    rw [if_neg (by decide), if_neg (by decide)]
    refine Prod.ext rfl (ByteArray.ext (Array.eq_empty_of_size_eq_zero hs).symm)
  · rw [if_pos (.inr rfl), empty_is] at h2
    have hs : s.size = 0 := by simpa using h2
    rw [if_neg (by decide), if_neg (by decide)]
    refine Prod.ext rfl (ByteArray.ext (Array.eq_empty_of_size_eq_zero hs).symm)
  · rw [if_neg (by omega), if_pos rfl, Bool.and_eq_true] at h2
    have k1 : n = 0 := of_decide_eq_true h2.1
    have k2 : (s.size : Int) ≤ 60 := of_decide_eq_true h2.2
    rw [if_pos rfl, if_pos rfl, k1, cut_all (show s.size ≤ 60 by omega)]
theorem nrm_id {ts : List Int} {a : RowV} (h : FR ts a) : nrm ts a = a := by
  refine List.ext_getElem (by rw [nrm, fitR_len, h.len]) (fun i h1 h2 => ?_)
  have hi : i < ts.length := by rw [← h.len]; exact h2
  have e1 : ∀ (l : RowV) (hl : i < l.length), l.getD i v0 = l[i] := fun l hl => by simp [List.getD, hl]
  rw [← e1 _ h1, ← e1 _ h2]
  unfold nrm
  rw [fitR_at hi]
  have e2 : (a.map fun v => (clI v.1, v.2)).getD i v0 = (clI (a.getD i v0).1, (a.getD i v0).2) := by
    simp [List.getD, h2]
  have ok := okR_get h.ok i hi
  rw [e2]
  have e3 : clI (a.getD i v0).1 = (a.getD i v0).1 := by unfold clI; rw [if_pos ok.2.2]
  rw [e3]
  exact fitV_id ok
/-- the order by the first k columns, of any rows -/
def cN (ts : List Int) (k : Nat) (a b : RowV) : Int := cR (ts.take k) (nrm ts a) (nrm ts b)
theorem cN_ok {ts : List Int} (k : Nat) {a b : RowV} (ha : FR ts a) (hb : FR ts b) : cN ts k a b = cR (ts.take k) a b := by
  unfold cN; rw [nrm_id ha, nrm_id hb]
theorem cN_ord {ts : List Int} (ht : Ty ts) (k : Nat) : OrdG (cN ts k) :=
  ⟨fun a b => cmpRow_anti' cV_ord _ _ _ (okR_take _ _ k (nrm_fr ht a).ok) (okR_take _ _ k (nrm_fr ht b).ok), fun a b d => cmpRow_down cV_ord _ _ _ _ (okR_take _ _ k (nrm_fr ht a).ok) (okR_take _ _ k (nrm_fr ht b).ok) (okR_take _ _ k (nrm_fr ht d).ok)⟩
/-- whether no row is above the next one -/
def srtB {α : Type} (c : α → α → Int) (d : α) (l : List α) : Bool := decide (∀ i, i < l.length - 1 → c (l.getD i d) (l.getD (i + 1) d) ≤ 0)
end Go.Proofs.YtbfihajgjbpmaaaGreat
