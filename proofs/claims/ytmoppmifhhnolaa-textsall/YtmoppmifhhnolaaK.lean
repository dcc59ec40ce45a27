/- 'append(own, bytes...)' for whatever slice of bytes. -/
import Derived.Test.YtmoppmifhhnolaaO
import Derived.Test.YtmoppmifhhnolaaD
import Derived.Laws.AppendOwnNone
namespace Go.Proofs.Ytmoppmifhhnolaa
open Go.ChangeShapes Go.WideShapes Go.ChangeAt Go.RowKit
set_option linter.unusedVariables false

theorem append_bv {w : World} {ops : Array Oper} {rest : List Oper} {o : Oper} {act : Act} {Q : Exit → Act → World → Prop} (hgd : o.guard = none) (s x : Operand)
    (ho : o.op = .call { callee := .builtin .append, args := #[s, x], argTypes := #[23, 23] })
    (base : Nat) (v : Value) (bs : List Int) (hs : act.eval s = v) (hown : OB w base v bs) (ad : Option Addr) (m c : Nat) (zs : List Int) (hx : act.eval x = .slice ad m c) (hb : BV w ad m zs) (hnil : ad = none → c = 0)
    (hlen : bs.length + zs.length ≤ 140737488355328) (hbase : base ≤ w.heap.size)
    (h : ∀ v' w', OB w' base v' (bs ++ zs) → Below base w w' → wpList Try.prog ops Q rest (act.put o.dst v') w') : wpList Try.prog ops Q (o :: rest) act w := by
  obtain ⟨i0, hi, hz0, hz1, hz2⟩ := info_parts info5
  obtain ⟨h1, h2, h3⟩ := hb
  have hlt := hown.lt
  cases ad with
  | none =>
    have hm : m = 0 := by
      rcases h3 with h3 | ⟨b, off, hb, _⟩
      · exact h3
      · cases hb
    subst hm
    have hz : zs = [] := List.eq_nil_of_length_eq_zero h1
    subst hz
    obtain rfl := hnil rfl
    refine wpList_append_own_none hgd s x 23 ho base 5 i0 1 Try.underlying23 hi v _ _ hs hown hx ?_
    exact h v w (by rw [List.append_nil]; exact hown) (Below.refl _ _)
  | some ad =>
    refine wpList_append_own _ hgd s x 23 ho base 5 i0 (.int .u8 0) 1 1 Try.underlying23 hi hz0 hz1 hz2 rfl (by decide) v _ _ hs hown ad m c (zs.map (Value.int .u8)) hx (by simp; omega) ?_ (oneCells _) (by unfold maxLen; omega) (by omega) hbase ?_
    · intro j u hj
      rcases h3 with h3 | ⟨b, off, hb, hcell⟩
      · have hz : zs = [] := List.eq_nil_of_length_eq_zero (by omega)
        subst hz; simp at hj
      · cases hb
        have hjl : j < zs.length := by
          rcases Nat.lt_or_ge j zs.length with h | h
          · exact h
          · simp [List.getElem?_eq_none h] at hj
        have ha : (⟨b, off, none⟩ : Addr).add j = ⟨b, off + j, none⟩ := by unfold Addr.add; split <;> simp_all
        rw [ha, hcell j (by omega)]
        simp [hjl] at hj ⊢
        exact hj
    · intro v' w' ho' hg _
      refine h v' w' ?_ ((Below.refl _ _).grown hg hbase hlt)
      unfold OB
      rw [List.length_append, List.map_append, h1]
      exact ho'

/-- a part of a number is none -/
theorem varR_part (x : Int) (r : Nat) (h0 : 0 ≤ x) (h1 : x ≤ 18446744073709551615) (hr : r < (pv x).length) : varR ((pv x).take r) = (0, 0) := by
  by_cases h : (varR ((pv x).take r)).2 = 0
  · exact varR_none h
  · obtain ⟨y, rest, he, hy0, hy1, hv⟩ := varR_back ((pv x).take r) (fun z hz => pv_bytes h0 z (List.mem_of_mem_take hz)) h
    have e1 := varR_put x [] h0 h1
    have e2 : pv x ++ [] = pv y ++ (rest ++ (pv x).drop r) := by
      rw [← List.append_assoc, ← he, List.take_append_drop, List.append_nil]
    rw [e2, varR_put y _ hy0 hy1] at e1
    have e3 := congrArg Prod.snd e1
    have e4 := congrArg List.length he
    simp at e3 e4
    omega
theorem acc8_app (x : Int) (zs : List Int) : ∀ k, k ≤ 8 → acc8 (w8 x ++ zs) k = acc8 (w8 x) k
  | 0, _ => rfl
  | k + 1, h => by
    rw [acc8, acc8, acc8_app x zs k (by omega)]
    have : (w8 x ++ zs).getD k 0 = (w8 x).getD k 0 := by simp [List.getD, List.getElem?_append_left (show k < (w8 x).length from by rw [w8_len]; omega)]
    rw [this]
theorem acc8_put (x : Int) (zs : List Int) (h0 : 0 ≤ x) (h1 : x ≤ 18446744073709551615) : acc8 (w8 x ++ zs) 8 = x := by
  rw [acc8_app x zs 8 (by omega), acc8_w8 x h0 8 (by omega)]
  omega
end Go.Proofs.Ytmoppmifhhnolaa
