/- Plain facts on values as they are written, and on their order: no Go in sight. -/
import Derived.Laws.BitsAll
namespace Go.Proofs.Ytmoppmifhhnolaa
set_option linter.unusedVariables false

/-- the digits of a number; the first argument: how many more there may be -/
def digF : Nat → Nat → List Int
  | 0, x => [48 + (x : Int)]
  | n + 1, x => if x < 10 then [48 + (x : Int)] else digF n (x / 10) ++ [48 + ((x % 10 : Nat) : Int)]
/-- the digits of a number -/
def digits (x : Nat) : List Int := digF x x
theorem digF_enough : ∀ (n m x : Nat), x ≤ n → x ≤ m → digF n x = digF m x
  | 0, 0, x, _, _ => rfl
  | 0, m + 1, x, h, _ => by rw [digF, digF, if_pos (by omega)]
  | n + 1, 0, x, _, h => by rw [digF, digF, if_pos (by omega)]
  | n + 1, m + 1, x, h1, h2 => by
    rw [digF, digF]
    by_cases h : x < 10
    · rw [if_pos h, if_pos h]
    · rw [if_neg h, if_neg h, digF_enough n m (x / 10) (by omega) (by omega)]
theorem digits_small {x : Nat} (h : x < 10) : digits x = [48 + (x : Int)] := by
  unfold digits
  rw [digF_enough x (x + 1) x (Nat.le_refl _) (by omega), digF, if_pos h]
theorem digits_big {x : Nat} (h : ¬ x < 10) : digits x = digits (x / 10) ++ [48 + ((x % 10 : Nat) : Int)] := by
  unfold digits
  rw [digF_enough x (x + 1) x (Nat.le_refl _) (by omega), digF, if_neg h, digF_enough x (x / 10) (x / 10) (by omega) (Nat.le_refl _)]
theorem digits_pos (x : Nat) : 1 ≤ (digits x).length := by
  by_cases h : x < 10
  · rw [digits_small h]; simp
  · rw [digits_big h]; simp
theorem digits_ne (x : Nat) : digits x ≠ [] := fun h => by have := digits_pos x; rw [h] at this; simp at this
theorem digits_are : ∀ (n x : Nat), x < n → ∀ z ∈ digits x, 48 ≤ z ∧ z ≤ 57
  | 0, x, h, z, hz => by omega
  | n + 1, x, h, z, hz => by
    by_cases hx : x < 10
    · rw [digits_small hx] at hz; simp at hz; omega
    · rw [digits_big hx] at hz
      rcases List.mem_append.1 hz with hz | hz
      · exact digits_are n (x / 10) (by omega) z hz
      · simp at hz; omega
theorem digits_bytes (x : Nat) : ∀ z ∈ digits x, 48 ≤ z ∧ z ≤ 57 := digits_are _ x (Nat.lt_succ_self _)
theorem digits_len : ∀ (n x : Nat), x < 10 ^ (n + 1) → (digits x).length ≤ n + 1
  | 0, x, h => by rw [digits_small (by simpa using h)]; simp
  | n + 1, x, h => by
    by_cases hx : x < 10
    · rw [digits_small hx]; simp
    · rw [digits_big hx, List.length_append]
      have h2 : x / 10 < 10 ^ (n + 1) := by
        have : 10 ^ (n + 1 + 1) = 10 ^ (n + 1) * 10 := Nat.pow_succ ..
        omega
      have := digits_len n (x / 10) h2
      simp; omega
theorem digits_len20 {x : Nat} (h : x < 18446744073709551616) : (digits x).length ≤ 20 := digits_len 19 x (by omega)

/-- the number of some digits -/
def val10 (l : List Int) : Nat := l.foldl (fun a c => a * 10 + (c - 48).toNat) 0
theorem val10_snoc (l : List Int) (c : Int) : val10 (l ++ [c]) = val10 l * 10 + (c - 48).toNat := by
  unfold val10; rw [List.foldl_append]; rfl
theorem val10_is : ∀ (n x : Nat), x < n → val10 (digits x) = x
  | 0, x, h => by omega
  | n + 1, x, h => by
    by_cases hx : x < 10
    · rw [digits_small hx]; simp [val10]; omega
    · rw [digits_big hx, val10_snoc, val10_is n (x / 10) (by omega)]; omega
theorem val10_digits (x : Nat) : val10 (digits x) = x := val10_is _ x (Nat.lt_succ_self _)
theorem digits_inj {x y : Nat} (h : digits x = digits y) : x = y := by rw [← val10_digits x, h, val10_digits]
theorem val10_pos : ∀ (l : List Int) (c : Int) (r : List Int), l = c :: r → 49 ≤ c → 1 ≤ val10 l := by
  intro l c r hl hc
  subst hl
  have : ∀ (r : List Int) (a : Nat), 1 ≤ a → 1 ≤ r.foldl (fun a c => a * 10 + (c - 48).toNat) a := by
    intro r
    induction r with
    | nil => intro a h; exact h
    | cons d r ih =>
      intro a h
      have h' : 1 ≤ a * 10 + (d - 48).toNat := by omega
      exact ih _ h'
  have hc' : 1 ≤ 0 * 10 + (c - 48).toNat := by omega
  exact this r _ hc'
theorem getD_front (m r : List Int) (h : 0 < m.length) : (m ++ r).getD 0 0 = m.getD 0 0 := by
  cases m with
  | nil => simp at h
  | cons d l => rfl
/-- digits that begin with no 0, or are one alone, are those of their number -/
theorem digits_back : ∀ (n : Nat) (l : List Int), l.length = n + 1 → (∀ z ∈ l, 48 ≤ z ∧ z ≤ 57) → (n = 0 ∨ 49 ≤ l.getD 0 0) → digits (val10 l) = l
  | 0, l, hl, hz, _ => by
    match l, hl with
    | [c], _ =>
      have := hz c (List.mem_cons_self ..)
      rw [digits_small (by simp [val10]; omega)]
      simp [val10]; omega
  | n + 1, l, hl, hz, h0 => by
    have hne : l ≠ [] := fun h => by rw [h] at hl; simp at hl
    obtain ⟨m, c, rfl⟩ : ∃ m c, l = m ++ [c] := ⟨l.dropLast, l.getLast hne, (List.dropLast_concat_getLast hne).symm⟩
    have hm : m.length = n + 1 := by simpa using hl
    have hc := hz c (by simp)
    have hg := getD_front m [c] (by omega)
    rw [hg] at h0
    have ih := digits_back n m hm (fun z h => hz z (List.mem_append_left _ h)) (by omega)
    have hp : 1 ≤ val10 m := by
      cases m with
      | nil => simp at hm
      | cons d r => exact val10_pos _ d r rfl (by simpa using h0)
    rw [val10_snoc, digits_big (by omega), show (val10 m * 10 + (c - 48).toNat) / 10 = val10 m from by omega, ih, show (val10 m * 10 + (c - 48).toNat) % 10 = (c - 48).toNat from by omega]
    congr 2; omega
theorem digits_first : ∀ (n x : Nat), x < n → 10 ≤ x → 49 ≤ (digits x).getD 0 0
  | 0, x, h, _ => by omega
  | n + 1, x, h, h10 => by
    rw [digits_big (by omega)]
    have hp := digits_pos (x / 10)
    have hg := getD_front (digits (x / 10)) [48 + ((x % 10 : Nat) : Int)] (by omega)
    rw [hg]
    by_cases hx : x / 10 < 10
    · rw [digits_small hx]; simp; omega
    · exact digits_first n (x / 10) (by omega) (by omega)

/-- a hexadecimal digit -/
def hexd (x : Int) : Int := if x < 10 then 48 + x else 87 + x
theorem hexd_inj {x y : Int} (hx : 0 ≤ x ∧ x < 16) (hy : 0 ≤ y ∧ y < 16) (h : hexd x = hexd y) : x = y := by
  unfold hexd at h; split at h <;> split at h <;> omega
theorem hexd_seen {x : Int} (hx : 0 ≤ x ∧ x < 16) : 48 ≤ hexd x ∧ hexd x ≤ 102 := by unfold hexd; split <;> omega
/-- how a byte of a text is written -/
def esc (c : Int) : List Int := if c < 32 ∨ 126 < c ∨ c = 34 ∨ c = 92 then [92, hexd (c / 16), hexd (c % 16)] else [c]
def escL (s : List Int) : List Int := s.flatMap esc
/-- how a text is written -/
def textS (s : List Int) : List Int := 34 :: (escL s ++ [34])
theorem escL_cons (c : Int) (s : List Int) : escL (c :: s) = esc c ++ escL s := rfl
theorem escL_app (a b : List Int) : escL (a ++ b) = escL a ++ escL b := by unfold escL; rw [List.flatMap_append]
theorem esc_plain {c : Int} (h : ¬ (c < 32 ∨ 126 < c ∨ c = 34 ∨ c = 92)) : esc c = [c] := by rw [esc, if_neg h]
theorem esc_hex {c : Int} (h : c < 32 ∨ 126 < c ∨ c = 34 ∨ c = 92) : esc c = [92, hexd (c / 16), hexd (c % 16)] := by rw [esc, if_pos h]
theorem escL_inj : ∀ (a b : List Int), (∀ z ∈ a, 0 ≤ z ∧ z ≤ 255) → (∀ z ∈ b, 0 ≤ z ∧ z ≤ 255) → escL a = escL b → a = b
  | [], [], _, _, _ => rfl
  | [], y :: b, _, _, h => by
    rw [escL_cons] at h
    unfold esc at h
    split at h <;> simp [escL] at h
  | x :: a, [], _, _, h => by
    rw [escL_cons] at h
    unfold esc at h
    split at h <;> simp [escL] at h
  | x :: a, y :: b, ha, hb, h => by
    have hx := ha x (List.mem_cons_self ..)
    have hy := hb y (List.mem_cons_self ..)
    have ih := escL_inj a b (fun z h => ha z (List.mem_cons_of_mem _ h)) (fun z h => hb z (List.mem_cons_of_mem _ h))
    rw [escL_cons, escL_cons] at h
    by_cases h1 : x < 32 ∨ 126 < x ∨ x = 34 ∨ x = 92 <;> by_cases h2 : y < 32 ∨ 126 < y ∨ y = 34 ∨ y = 92
    · rw [esc_hex h1, esc_hex h2] at h
      simp only [List.cons_append, List.nil_append, List.cons.injEq, true_and] at h
      have e1 := hexd_inj (by omega) (by omega) h.1
      have e2 := hexd_inj (by omega) (by omega) h.2.1
      rw [show x = y from by omega, ih h.2.2]
    · rw [esc_hex h1, esc_plain h2] at h
      simp only [List.cons_append, List.nil_append, List.cons.injEq] at h
      omega
    · rw [esc_plain h1, esc_hex h2] at h
      simp only [List.cons_append, List.nil_append, List.cons.injEq] at h
      omega
    · rw [esc_plain h1, esc_plain h2] at h
      simp only [List.cons_append, List.nil_append, List.cons.injEq] at h
      rw [h.1, ih h.2]
theorem textS_inj {a b : List Int} (ha : ∀ z ∈ a, 0 ≤ z ∧ z ≤ 255) (hb : ∀ z ∈ b, 0 ≤ z ∧ z ≤ 255) (h : textS a = textS b) : a = b := by
  unfold textS at h
  simp only [List.cons.injEq, true_and] at h
  exact escL_inj a b ha hb (List.append_cancel_right h)
theorem esc_seen {c : Int} (hc : 0 ≤ c ∧ c ≤ 255) : ∀ z ∈ esc c, 32 ≤ z ∧ z ≤ 126 ∧ z ≠ 34 := by
  intro z hz
  by_cases h : c < 32 ∨ 126 < c ∨ c = 34 ∨ c = 92
  · rw [esc_hex h] at hz
    have h1 := hexd_seen (x := c / 16) (by omega)
    have h2 := hexd_seen (x := c % 16) (by omega)
    simp at hz
    omega
  · rw [esc_plain h] at hz
    simp at hz
    omega
theorem escL_seen {s : List Int} (hs : ∀ z ∈ s, 0 ≤ z ∧ z ≤ 255) : ∀ z ∈ escL s, 32 ≤ z ∧ z ≤ 126 ∧ z ≠ 34 := by
  intro z hz
  obtain ⟨c, hc, hzc⟩ := List.mem_flatMap.1 hz
  exact esc_seen (hs c hc) z hzc
theorem esc_len (c : Int) : 1 ≤ (esc c).length ∧ (esc c).length ≤ 3 := by unfold esc; split <;> simp
theorem escL_len : ∀ (s : List Int), (escL s).length ≤ 3 * s.length
  | [] => by simp [escL]
  | c :: s => by
    have := escL_len s
    have := esc_len c
    rw [escL_cons, List.length_append, List.length_cons]; omega

/-- the order of numbers -/
def cmpI (a b : Int) : Int := if a < b then -1 else if b < a then 1 else 0
/-- the order of texts -/
def cmpL : List Int → List Int → Int
  | [], [] => 0
  | [], _ :: _ => -1
  | _ :: _, [] => 1
  | a :: l, b :: r => if a < b then -1 else if b < a then 1 else cmpL l r
theorem cmpL_range : ∀ a b, cmpL a b = -1 ∨ cmpL a b = 0 ∨ cmpL a b = 1
  | [], [] => by simp [cmpL]
  | [], _ :: _ => by simp [cmpL]
  | _ :: _, [] => by simp [cmpL]
  | a :: l, b :: r => by
    rw [cmpL]
    split
    · simp
    · split
      · simp
      · exact cmpL_range l r
theorem cmpL_eq : ∀ a b, cmpL a b = 0 ↔ a = b
  | [], [] => by simp [cmpL]
  | [], _ :: _ => by simp [cmpL]
  | _ :: _, [] => by simp [cmpL]
  | a :: l, b :: r => by
    rw [cmpL, List.cons.injEq]
    split
    · constructor <;> intro h <;> omega
    · split
      · constructor <;> intro h <;> omega
      · rw [cmpL_eq l r]
        constructor
        · intro h; exact ⟨by omega, h⟩
        · intro h; exact h.2
theorem cmpL_anti : ∀ a b, cmpL b a = - cmpL a b
  | [], [] => by simp [cmpL]
  | [], _ :: _ => by simp [cmpL]
  | _ :: _, [] => by simp [cmpL]
  | a :: l, b :: r => by
    rw [cmpL, cmpL]
    by_cases h1 : a < b
    · rw [if_neg (by omega), if_pos h1, if_pos h1]; rfl
    · by_cases h2 : b < a
      · rw [if_pos h2, if_neg h1, if_pos h2]
      · rw [if_neg h2, if_neg h1, if_neg h1, if_neg h2, cmpL_anti l r]
theorem cmpL_trans : ∀ a b c, cmpL a b ≤ 0 → cmpL b c ≤ 0 → cmpL a c ≤ 0
  | [], _, [], _, _ => by simp [cmpL]
  | [], _, _ :: _, _, _ => by simp [cmpL]
  | _ :: _, [], _, h, _ => by simp [cmpL] at h
  | _ :: _, _ :: _, [], _, h => by simp [cmpL] at h
  | a :: l, b :: r, c :: s, h1, h2 => by
    rw [cmpL] at h1 h2 ⊢
    have ih := cmpL_trans l r s
    by_cases e1 : a < b
    · by_cases e2 : b < c
      · rw [if_pos (by omega)]; omega
      · rw [if_neg e2] at h2
        by_cases e3 : c < b
        · rw [if_pos e3] at h2; omega
        · rw [if_pos (by omega)]; omega
    · rw [if_neg e1] at h1
      by_cases e2 : b < a
      · rw [if_pos e2] at h1; omega
      · rw [if_neg e2] at h1
        by_cases e3 : b < c
        · rw [if_pos (by omega)]; omega
        · rw [if_neg e3] at h2
          by_cases e4 : c < b
          · rw [if_pos e4] at h2; omega
          · rw [if_neg e4] at h2
            rw [if_neg (by omega), if_neg (by omega)]
            exact ih h1 h2
end Go.Proofs.Ytmoppmifhhnolaa
