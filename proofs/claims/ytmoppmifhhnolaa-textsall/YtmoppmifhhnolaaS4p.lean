/- Plain facts on schemas: how they are put, that they are put in one way, the order of rows. -/
import Derived.Test.YtmoppmifhhnolaaV
import Derived.Test.YtmoppmifhhnolaaV3p
namespace Go.Proofs.Ytmoppmifhhnolaa
set_option linter.unusedVariables false

/-- numbers, one behind the other -/
def joinN : List Int → List Int
  | [] => []
  | x :: l => pv x ++ joinN l
theorem joinN_app : ∀ a b, joinN (a ++ b) = joinN a ++ joinN b
  | [], b => rfl
  | x :: a, b => by rw [List.cons_append, joinN, joinN, joinN_app a b, List.append_assoc]
theorem joinN_one (x : Int) : joinN [x] = pv x := by simp [joinN]
abbrev U64s (l : List Int) : Prop := ∀ x ∈ l, 0 ≤ x ∧ x ≤ 18446744073709551615
/-- a number is cut off in one way -/
theorem pv_cut {x y : Int} {a b : List Int} (hx : 0 ≤ x ∧ x ≤ 18446744073709551615) (hy : 0 ≤ y ∧ y ≤ 18446744073709551615) (h : pv x ++ a = pv y ++ b) : x = y ∧ a = b := by
  have h1 := varR_put x a hx.1 hx.2
  have h2 := varR_put y b hy.1 hy.2
  rw [h, h2] at h1
  have hxy : x = y := by have := congrArg Prod.fst h1; simpa using this.symm
  subst hxy
  exact ⟨rfl, List.append_cancel_left h⟩
theorem joinN_inj : ∀ (a b : List Int), U64s a → U64s b → joinN a = joinN b → a = b
  | [], [], _, _, _ => rfl
  | [], y :: b, _, _, h => by
    have := pv_pos y
    have hl := congrArg List.length h
    rw [joinN, joinN, List.length_append] at hl
    simp only [List.length_nil] at hl; omega
  | x :: a, [], _, _, h => by
    have := pv_pos x
    have hl := congrArg List.length h
    rw [joinN, joinN, List.length_append] at hl
    simp only [List.length_nil] at hl; omega
  | x :: a, y :: b, ha, hb, h => by
    rw [joinN, joinN] at h
    obtain ⟨e1, e2⟩ := pv_cut (ha x (List.mem_cons_self ..)) (hb y (List.mem_cons_self ..)) h
    rw [e1, joinN_inj a b (fun z hz => ha z (List.mem_cons_of_mem _ hz)) (fun z hz => hb z (List.mem_cons_of_mem _ hz)) e2]
theorem joinN_len : ∀ (l : List Int), l.length ≤ (joinN l).length
  | [] => Nat.le_refl _
  | x :: l => by
    have := joinN_len l
    have := pv_pos x
    rw [joinN, List.length_append, List.length_cons]; omega
/-- the numbers of a schema -/
def schemaN (ts : List Int) (keys mode grain : Int) : List Int := (ts.length : Int) :: (ts ++ [keys, mode, grain])
/-- how a schema is put -/
def putS (ts : List Int) (keys mode grain : Int) : List Int := joinN (schemaN ts keys mode grain)
/-- whether a schema may be -/
def checkB (ts : List Int) (keys mode grain : Int) : Bool :=
  decide (1 ≤ ts.length ∧ ts.length ≤ 64 ∧ 1 ≤ keys ∧ keys ≤ (ts.length : Int) ∧ 1 ≤ mode ∧ mode ≤ 3 ∧ 1 ≤ grain ∧ grain ≤ 64 ∧ ∀ x ∈ ts, 1 ≤ x ∧ x ≤ 3)
theorem check_is {ts : List Int} {keys mode grain : Int} (h : checkB ts keys mode grain = true) :
    1 ≤ ts.length ∧ ts.length ≤ 64 ∧ 1 ≤ keys ∧ keys ≤ (ts.length : Int) ∧ 1 ≤ mode ∧ mode ≤ 3 ∧ 1 ≤ grain ∧ grain ≤ 64 ∧ ∀ x ∈ ts, 1 ≤ x ∧ x ≤ 3 := of_decide_eq_true h
theorem schemaN_u64 {ts : List Int} {keys mode grain : Int} (h : checkB ts keys mode grain = true) : U64s (schemaN ts keys mode grain) := by
  obtain ⟨h1, h2, h3, h4, h5, h6, h7, h8, h9⟩ := check_is h
  intro x hx
  simp only [schemaN, List.mem_cons, List.mem_append, List.not_mem_nil, or_false] at hx
  rcases hx with rfl | hx | rfl | rfl | rfl
  · omega
  · have := h9 x hx; omega
  · omega
  · omega
  · omega
theorem schemaN_inj {ts us : List Int} {k1 m1 g1 k2 m2 g2 : Int} (h : schemaN ts k1 m1 g1 = schemaN us k2 m2 g2) : ts = us ∧ k1 = k2 ∧ m1 = m2 ∧ g1 = g2 := by
  simp only [schemaN, List.cons.injEq] at h
  obtain ⟨hl, h⟩ := h
  have hl' : ts.length = us.length := by omega
  obtain ⟨e1, e2⟩ := List.append_inj h hl'
  simp only [List.cons.injEq, and_true] at e2
  exact ⟨e1, e2⟩
/-- a schema that may be is put in one way -/
theorem putS_inj {ts us : List Int} {k1 m1 g1 k2 m2 g2 : Int} (h1 : checkB ts k1 m1 g1 = true) (h2 : checkB us k2 m2 g2 = true) (h : putS ts k1 m1 g1 = putS us k2 m2 g2) : ts = us ∧ k1 = k2 ∧ m1 = m2 ∧ g1 = g2 :=
  schemaN_inj (joinN_inj _ _ (schemaN_u64 h1) (schemaN_u64 h2) h)
/-- so no part of one is one, and none with more behind it -/
theorem putS_more {ts us : List Int} {k1 m1 g1 k2 m2 g2 : Int} (h1 : checkB ts k1 m1 g1 = true) (h2 : checkB us k2 m2 g2 = true) {r : List Int} (h : putS ts k1 m1 g1 ++ r = putS us k2 m2 g2) : r = [] := by
  have cut : ∀ (a b : List Int), U64s a → U64s b → ∀ r, joinN a ++ r = joinN b → ∃ c, b = a ++ c ∧ r = joinN c := by
    intro a
    induction a with
    | nil => intro b _ _ r h; exact ⟨b, rfl, h⟩
    | cons x a ih =>
      intro b ha hb r h
      cases b with
      | nil =>
        have := pv_pos x
        have hl := congrArg List.length h
        rw [joinN, joinN, List.length_append, List.length_append] at hl
        simp only [List.length_nil] at hl; omega
      | cons y b =>
        rw [joinN, joinN, List.append_assoc] at h
        obtain ⟨e1, e2⟩ := pv_cut (ha x (List.mem_cons_self ..)) (hb y (List.mem_cons_self ..)) h
        obtain ⟨c, e3, e4⟩ := ih b (fun z hz => ha z (List.mem_cons_of_mem _ hz)) (fun z hz => hb z (List.mem_cons_of_mem _ hz)) r e2
        exact ⟨c, by rw [e1, e3]; rfl, e4⟩
  obtain ⟨c, e1, e2⟩ := cut _ _ (schemaN_u64 h1) (schemaN_u64 h2) r h
  have hl := congrArg List.length e1
  simp only [schemaN, List.cons_append, List.cons.injEq] at e1
  simp only [schemaN, List.length_cons, List.length_append, List.length_nil] at hl
  have hc : c = [] := List.eq_nil_of_length_eq_zero (by omega)
  rw [e2, hc]; rfl

/-- the order of rows, by an order of each column's values -/
def cmpRow {α : Type} (c : Int → α → α → Int) : List Int → List α → List α → Int
  | t :: ts, a :: l, b :: r => if c t a b = 0 then cmpRow c ts l r else c t a b
  | _, _, _ => 0
theorem cmpRow_anti {α : Type} {c : Int → α → α → Int} (hc : ∀ t a b, c t b a = - c t a b) : ∀ ts l r, cmpRow c ts r l = - cmpRow c ts l r
  | [], l, r => by simp [cmpRow]
  | t :: ts, [], r => by cases r <;> simp [cmpRow]
  | t :: ts, a :: l, [] => by simp [cmpRow]
  | t :: ts, a :: l, b :: r => by
    rw [cmpRow, cmpRow, hc t a b]
    by_cases h : c t a b = 0
    · rw [if_pos (by omega), if_pos h, cmpRow_anti hc ts l r]
    · rw [if_neg (by omega), if_neg h]
theorem cmpRow_zero {α : Type} {c : Int → α → α → Int} : ∀ ts (l r : List α), l.length = ts.length → r.length = ts.length → (∀ t a b, t ∈ ts → a ∈ l → b ∈ r → (c t a b = 0 ↔ a = b)) → (cmpRow c ts l r = 0 ↔ l = r)
  | [], l, r, h1, h2, _ => by
    have e1 : l = [] := List.eq_nil_of_length_eq_zero h1
    have e2 : r = [] := List.eq_nil_of_length_eq_zero h2
    subst e1 e2; simp [cmpRow]
  | t :: ts, [], r, h1, _, _ => by simp at h1
  | t :: ts, a :: l, [], _, h2, _ => by simp at h2
  | t :: ts, a :: l, b :: r, h1, h2, hc => by
    have h0 := hc t a b (List.mem_cons_self ..) (List.mem_cons_self ..) (List.mem_cons_self ..)
    have ih := cmpRow_zero ts l r (by simpa using h1) (by simpa using h2) (fun t' a' b' ht ha hb => hc t' a' b' (List.mem_cons_of_mem _ ht) (List.mem_cons_of_mem _ ha) (List.mem_cons_of_mem _ hb))
    rw [cmpRow, List.cons.injEq]
    by_cases h : c t a b = 0
    · rw [if_pos h, ih]; exact ⟨fun e => ⟨h0.1 h, e⟩, fun e => e.2⟩
    · rw [if_neg h]; exact ⟨fun e => absurd e h, fun e => absurd (h0.2 e.1) h⟩
/-- a row has a value of each column that is one -/
def OkR {α : Type} (ok : Int → α → Prop) : List Int → List α → Prop
  | [], _ => True
  | _ :: _, [] => False
  | t :: ts, a :: l => ok t a ∧ OkR ok ts l
/-- what an order of values has -/
structure OrdC {α : Type} (ok : Int → α → Prop) (c : Int → α → α → Int) : Prop where
  anti : ∀ t a b, ok t a → ok t b → c t b a = - c t a b
  down : ∀ t a b d, ok t a → ok t b → ok t d → c t a b ≤ 0 → c t b d ≤ 0 → c t a d ≤ 0
  zero : ∀ t a b d, ok t a → ok t b → ok t d → c t a b = 0 → c t a d = c t b d
theorem cmpRow_down {α : Type} {ok : Int → α → Prop} {c : Int → α → α → Int} (hc : OrdC ok c) : ∀ ts l r q, OkR ok ts l → OkR ok ts r → OkR ok ts q → cmpRow c ts l r ≤ 0 → cmpRow c ts r q ≤ 0 → cmpRow c ts l q ≤ 0
  | [], l, r, q, _, _, _, _, _ => by simp [cmpRow]
  | t :: ts, [], r, q, h, _, _, _, _ => by simp [OkR] at h
  | t :: ts, a :: l, [], q, _, h, _, _, _ => by simp [OkR] at h
  | t :: ts, a :: l, b :: r, [], _, _, h, _, _ => by simp [OkR] at h
  | t :: ts, a :: l, b :: r, d :: q, ⟨oa, ol⟩, ⟨ob, or⟩, ⟨od, oq⟩, h1, h2 => by
    have ih := cmpRow_down hc ts l r q ol or oq
    rw [cmpRow] at h1 h2 ⊢
    by_cases x0 : c t a b = 0
    · rw [if_pos x0] at h1
      have hz := hc.zero t a b d oa ob od x0
      rw [hz]
      by_cases y0 : c t b d = 0
      · rw [if_pos y0] at h2 ⊢; exact ih h1 h2
      · rw [if_neg y0] at h2 ⊢; exact h2
    · rw [if_neg x0] at h1
      by_cases y0 : c t b d = 0
      · have e1 := hc.zero t b d a ob od oa y0
        have e2 := hc.anti t a b oa ob
        have e3 := hc.anti t a d oa od
        rw [if_neg (by omega)]; omega
      · rw [if_neg y0] at h2
        have hz := hc.down t a b d oa ob od h1 h2
        by_cases z0 : c t a d = 0
        · have e1 := hc.zero t a d b oa od ob z0
          have e2 := hc.anti t b d ob od
          omega
        · rw [if_neg z0]; exact hz
theorem cmpRow_same {α : Type} {ok : Int → α → Prop} {c : Int → α → α → Int} (hc : OrdC ok c) : ∀ ts l r q, OkR ok ts l → OkR ok ts r → OkR ok ts q → cmpRow c ts l r = 0 → cmpRow c ts l q = cmpRow c ts r q
  | [], l, r, q, _, _, _, _ => by simp [cmpRow]
  | t :: ts, [], r, q, h, _, _, _ => by simp [OkR] at h
  | t :: ts, a :: l, [], q, _, h, _, _ => by simp [OkR] at h
  | t :: ts, a :: l, b :: r, [], _, _, h, _ => by simp [OkR] at h
  | t :: ts, a :: l, b :: r, d :: q, ⟨oa, ol⟩, ⟨ob, or⟩, ⟨od, oq⟩, h1 => by
    have ih := cmpRow_same hc ts l r q ol or oq
    rw [cmpRow] at h1
    rw [cmpRow, cmpRow]
    by_cases x0 : c t a b = 0
    · rw [if_pos x0] at h1
      rw [hc.zero t a b d oa ob od x0, ih h1]
    · rw [if_neg x0] at h1; exact absurd h1 x0
theorem joinN_snoc (l : List Int) (x : Int) : joinN (l ++ [x]) = joinN l ++ pv x := by rw [joinN_app, joinN_one]
end Go.Proofs.Ytmoppmifhhnolaa
