/- Plain facts on columns of numbers: how they are put, in both ways, and that they are put in one way. -/
import Derived.Test.YtiedejeimhjngaaS4p
import Derived.Test.YtiedejeimhjngaaD
namespace Go.Proofs.Ytiedejeimhjngaa
set_option linter.unusedVariables false

def zigF (a : Int) : Int := if a < 0 then -2 * a - 1 else 2 * a
def zagF (x : Int) : Int := if x % 2 = 1 then - (x / 2) - 1 else x / 2
/-- numbers of 64 bits with a sign -/
abbrev I64s (l : List Int) : Prop := ∀ x ∈ l, -9223372036854775808 ≤ x ∧ x ≤ 9223372036854775807
/-- what goes round -/
def rd (x : Int) : Int := (x + 9223372036854775808) % 18446744073709551616 - 9223372036854775808
/-- without a sign -/
def un (x : Int) : Int := x % 18446744073709551616
theorem rd_bd (x : Int) : -9223372036854775808 ≤ rd x ∧ rd x ≤ 9223372036854775807 := by unfold rd; omega
theorem un_bd (x : Int) : 0 ≤ un x ∧ un x ≤ 18446744073709551615 := by unfold un; omega
theorem rd_same {x : Int} (h : -9223372036854775808 ≤ x ∧ x ≤ 9223372036854775807) : rd x = x := by unfold rd; omega
theorem zig_bd {a : Int} (h : -9223372036854775808 ≤ a ∧ a ≤ 9223372036854775807) : 0 ≤ zigF a ∧ zigF a ≤ 18446744073709551615 := by unfold zigF; split <;> omega
theorem zag_zig (a : Int) : zagF (zigF a) = a := by
  unfold zagF zigF
  by_cases h : a < 0
  · rw [if_pos h, if_pos (by omega)]; omega
  · rw [if_neg h, if_neg (by omega)]; omega
theorem zig_zag {x : Int} (h : 0 ≤ x) : zigF (zagF x) = x := by
  unfold zagF zigF
  by_cases h2 : x % 2 = 1
  · rw [if_pos h2, if_pos (by omega)]; omega
  · rw [if_neg h2, if_neg (by omega)]; omega
theorem zag_bd {x : Int} (h : 0 ≤ x ∧ x ≤ 18446744073709551615) : -9223372036854775808 ≤ zagF x ∧ zagF x ≤ 9223372036854775807 := by unfold zagF; split <;> omega
/-- each less the one ahead of it -/
def dels : Int → List Int → List Int
  | _, [] => []
  | was, x :: l => rd (x - was) :: dels x l
theorem dels_len : ∀ (was : Int) (l : List Int), (dels was l).length = l.length
  | _, [] => rfl
  | was, x :: l => by rw [dels, List.length_cons, List.length_cons, dels_len x l]
theorem dels_i64 : ∀ (was : Int) (l : List Int), I64s (dels was l)
  | _, [], x, hx => by cases hx
  | was, y :: l, x, hx => by
    rw [dels] at hx
    rcases List.mem_cons.1 hx with rfl | hx
    · exact rd_bd _
    · exact dels_i64 y l x hx
theorem dels_app : ∀ (was : Int) (a b : List Int), dels was (a ++ b) = dels was a ++ dels (a.getLastD was) b
  | was, [], b => rfl
  | was, x :: a, b => by
    rw [List.cons_append, dels, dels, dels_app x a b, List.cons_append]
    cases a <;> rfl
theorem dels_inj : ∀ (was : Int) (l r : List Int), I64s l → I64s r → dels was l = dels was r → l = r
  | _, [], [], _, _, _ => rfl
  | _, [], y :: r, _, _, h => by simp [dels] at h
  | _, x :: l, [], _, _, h => by simp [dels] at h
  | was, x :: l, y :: r, hl, hr, h => by
    rw [dels, dels, List.cons.injEq] at h
    have h1 := hl x (List.mem_cons_self ..)
    have h2 := hr y (List.mem_cons_self ..)
    have e : x = y := by have := h.1; unfold rd at this; omega
    subst e
    rw [dels_inj x l r (fun z hz => hl z (List.mem_cons_of_mem _ hz)) (fun z hz => hr z (List.mem_cons_of_mem _ hz)) h.2]
def zigs (was : Int) (l : List Int) : List Int := (dels was l).map zigF
theorem zigs_len (was : Int) (l : List Int) : (zigs was l).length = l.length := by rw [zigs, List.length_map, dels_len]
theorem zigs_u64 (was : Int) (l : List Int) : U64s (zigs was l) := by
  intro x hx
  obtain ⟨a, ha, rfl⟩ := List.mem_map.1 hx
  exact zig_bd (dels_i64 was l a ha)
theorem zigs_inj {was : Int} {l r : List Int} (hl : I64s l) (hr : I64s r) (h : zigs was l = zigs was r) : l = r := by
  refine dels_inj was l r hl hr ?_
  have := congrArg (List.map zagF) h
  rw [zigs, zigs, List.map_map, List.map_map] at this
  have e : zagF ∘ zigF = id := funext zag_zig
  rwa [e, List.map_id, List.map_id] at this
/-- the numbers by their steps -/
def deltaL (was : Int) (l : List Int) : List Int := joinN (zigs was l)
theorem deltaL_app (was : Int) (a b : List Int) : deltaL was (a ++ b) = deltaL was a ++ deltaL (a.getLastD was) b := by
  rw [deltaL, zigs, dels_app, List.map_append, joinN_app]; rfl
theorem deltaL_cons (was x : Int) (l : List Int) : deltaL was (x :: l) = pv (zigF (rd (x - was))) ++ deltaL x l := rfl
theorem deltaL_len (was : Int) (l : List Int) : l.length ≤ (deltaL was l).length := by
  have := joinN_len (zigs was l); rw [zigs_len] at this; exact this
/-- the numbers whole -/
def fixedL : List Int → List Int
  | [] => []
  | x :: l => w8 (un x) ++ fixedL l
theorem fixedL_len : ∀ l, (fixedL l).length = 8 * l.length
  | [] => rfl
  | x :: l => by rw [fixedL, List.length_append, fixedL_len l, w8_len, List.length_cons]; omega
theorem fixedL_app : ∀ a b, fixedL (a ++ b) = fixedL a ++ fixedL b
  | [], b => rfl
  | x :: a, b => by rw [List.cons_append, fixedL, fixedL, fixedL_app a b, List.append_assoc]
theorem w8_inj {x y : Int} (hx : 0 ≤ x ∧ x ≤ 18446744073709551615) (hy : 0 ≤ y ∧ y ≤ 18446744073709551615) (h : w8 x = w8 y) : x = y := by
  have h1 := acc8_w8 x hx.1 8 (by omega)
  have h2 := acc8_w8 y hy.1 8 (by omega)
  rw [h, h2] at h1
  have e : (2 : Int) ^ (8 * 8) = 18446744073709551616 := by decide
  rw [e] at h1
  omega
theorem fixedL_inj : ∀ (l r : List Int), I64s l → I64s r → fixedL l = fixedL r → l = r
  | [], [], _, _, _ => rfl
  | [], y :: r, _, _, h => by have := congrArg List.length h; rw [fixedL_len, fixedL_len] at this; simp at this
  | x :: l, [], _, _, h => by have := congrArg List.length h; rw [fixedL_len, fixedL_len] at this; simp at this
  | x :: l, y :: r, hl, hr, h => by
    rw [fixedL, fixedL] at h
    obtain ⟨h1, h2⟩ := List.append_inj h (by rw [w8_len, w8_len])
    have e := w8_inj (un_bd x) (un_bd y) h1
    have b1 := hl x (List.mem_cons_self ..)
    have b2 := hr y (List.mem_cons_self ..)
    have e' : x = y := by unfold un at e; omega
    rw [e', fixedL_inj l r (fun z hz => hl z (List.mem_cons_of_mem _ hz)) (fun z hz => hr z (List.mem_cons_of_mem _ hz)) h2]
/-- numbers that begin as others do -/
theorem joinN_begin : ∀ (a b : List Int), U64s a → U64s b → ∀ r, joinN a ++ r = joinN b → ∃ c, b = a ++ c ∧ r = joinN c
  | [], b, _, _, r, h => ⟨b, rfl, h⟩
  | x :: a, [], _, _, r, h => by
    have := pv_pos x
    have hl := congrArg List.length h
    rw [joinN, joinN, List.length_append, List.length_append] at hl
    simp only [List.length_nil] at hl; omega
  | x :: a, y :: b, ha, hb, r, h => by
    rw [joinN, joinN, List.append_assoc] at h
    obtain ⟨e1, e2⟩ := pv_cut (ha x (List.mem_cons_self ..)) (hb y (List.mem_cons_self ..)) h
    obtain ⟨c, e3, e4⟩ := joinN_begin a b (fun z hz => ha z (List.mem_cons_of_mem _ hz)) (fun z hz => hb z (List.mem_cons_of_mem _ hz)) r e2
    exact ⟨c, by rw [e1, e3]; rfl, e4⟩
theorem deltaL_cut {was : Int} {l l' : List Int} (hl : I64s l) (hl' : I64s l') (hn : l.length = l'.length) {r : List Int} (h : deltaL was l ++ r = deltaL was l') : l = l' ∧ r = [] := by
  obtain ⟨c, e1, e2⟩ := joinN_begin _ _ (zigs_u64 was l) (zigs_u64 was l') r h
  have hc : c = [] := by
    have := congrArg List.length e1
    rw [List.length_append, zigs_len, zigs_len] at this
    exact List.eq_nil_of_length_eq_zero (by omega)
  rw [hc, List.append_nil] at e1
  exact ⟨(zigs_inj hl' hl e1).symm, by rw [e2, hc]; rfl⟩
/-- which way is the shorter one -/
def shortB (l : List Int) : Bool := decide ((deltaL 0 l).length < 8 * l.length)
def bodyI (l : List Int) : List Int := if shortB l = true then 1 :: deltaL 0 l else 0 :: fixedL l
/-- how numbers are put -/
def putI (l : List Int) : List Int := pv (l.length : Int) ++ bodyI l
theorem bodyI_len (l : List Int) : 1 ≤ (bodyI l).length ∧ (bodyI l).length ≤ 8 * l.length + 1 := by
  unfold bodyI
  split
  · rename_i h
    have := of_decide_eq_true h
    simp; omega
  · rw [List.length_cons, fixedL_len]; omega
/-- what was put begins nothing else that was put -/
theorem putI_begin {l l' : List Int} (hl : I64s l) (hl' : I64s l') (hn : l.length ≤ 9223372036854775807) (hn' : l'.length ≤ 9223372036854775807) {r : List Int} (h : putI l ++ r = putI l') : l = l' ∧ r = [] := by
  rw [putI, putI, List.append_assoc] at h
  obtain ⟨e1, e2⟩ := pv_cut (by omega) (by omega) h
  have hnn : l.length = l'.length := by omega
  unfold bodyI at e2
  by_cases h1 : shortB l = true
  · by_cases h2 : shortB l' = true
    · rw [if_pos h1, if_pos h2, List.cons_append, List.cons.injEq] at e2
      exact deltaL_cut hl hl' hnn e2.2
    · rw [if_pos h1, if_neg h2, List.cons_append, List.cons.injEq] at e2
      exact absurd e2.1 (by decide)
  · by_cases h2 : shortB l' = true
    · rw [if_neg h1, if_pos h2, List.cons_append, List.cons.injEq] at e2
      exact absurd e2.1 (by decide)
    · rw [if_neg h1, if_neg h2, List.cons_append, List.cons.injEq] at e2
      have hl0 := congrArg List.length e2.2
      rw [List.length_append, fixedL_len, fixedL_len] at hl0
      have hr : r = [] := List.eq_nil_of_length_eq_zero (by omega)
      rw [hr, List.append_nil] at e2
      exact ⟨fixedL_inj l l' hl hl' e2.2, hr⟩
/-- the bytes are put of no numbers -/
def NoI (zs : List Int) : Prop := ∀ l, I64s l → l.length ≤ 2000 → putI l ≠ zs
theorem partI_no {l : List Int} (hl : I64s l) (hn : l.length ≤ 2000) {j : Nat} (hj : j < (putI l).length) : NoI ((putI l).take j) := by
  intro u hu hun hp
  have := (putI_begin hu hl (by omega) (by omega) (r := (putI l).drop j) (by rw [hp, List.take_append_drop])).2
  have h := congrArg List.length this
  rw [List.length_drop] at h
  simp only [List.length_nil] at h; omega
theorem moreI_no {l : List Int} (hl : I64s l) (hn : l.length ≤ 2000) {r : List Int} (hr : r ≠ []) : NoI (putI l ++ r) := by
  intro u hu hun hp
  exact hr (putI_begin hl hu (by omega) (by omega) hp.symm).2
theorem putI_inj {l l' : List Int} (hl : I64s l) (hl' : I64s l') (hn : l.length ≤ 2000) (hn' : l'.length ≤ 2000) (h : putI l = putI l') : l = l' :=
  (putI_begin hl hl' (by omega) (by omega) (r := []) (by rw [List.append_nil]; exact h)).1
/-- numbers that go on by one small step -/
def steps (x k : Int) : Nat → List Int
  | 0 => []
  | n + 1 => x :: steps (rd (x + k)) k n
theorem steps_len (k : Int) : ∀ (n : Nat) (x : Int), (steps x k n).length = n
  | 0, _ => rfl
  | n + 1, x => by rw [steps, List.length_cons, steps_len k n]
theorem steps_delta {k : Int} (hk : -64 ≤ k ∧ k ≤ 63) : ∀ (n : Nat) (x : Int), (deltaL x (steps (rd (x + k)) k n)).length = n
  | 0, _ => rfl
  | n + 1, x => by
    rw [steps, deltaL_cons, List.length_append, steps_delta hk n (rd (x + k))]
    have e : rd (rd (x + k) - x) = k := by unfold rd; omega
    rw [e, pv_small (by unfold zigF; split <;> omega)]
    simp; omega
end Go.Proofs.Ytiedejeimhjngaa
