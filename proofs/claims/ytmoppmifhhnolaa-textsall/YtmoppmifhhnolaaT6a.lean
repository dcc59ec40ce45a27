/- Contracts of package texts: Each. -/
import Derived.Test.YtmoppmifhhnolaaT6q
import Derived.Test.YtmoppmifhhnolaaM6
import Derived.Test.YtmoppmifhhnolaaH4
namespace Go.Proofs.Ytmoppmifhhnolaa
open Go.ChangeShapes Go.WideShapes Go.ChangeAt Go.RowKit
set_option linter.unusedVariables false

/-- texts that are not long -/
abbrev Sm (l : List ByteArray) : Prop := ∀ s ∈ l, s.size ≤ 200
theorem Sm.fit {l : List ByteArray} (h : Sm l) : Fit63 l := fun s hs => by have := h s hs; omega
theorem Sm.at {l : List ByteArray} (h : Sm l) (j : Nat) : (l.getD j ⟨#[]⟩).size ≤ 200 := by
  rw [List.getD_eq_getElem?_getD]
  cases hg : l[j]? with
  | none => exact (by decide : (⟨#[]⟩ : ByteArray).size ≤ 200)
  | some x => exact h x (List.mem_of_getElem? hg)
theorem Few60.sm {l : List ByteArray} (h : Few60 l) : Sm l := fun s hs => by have := h s hs; omega
theorem words_sm {l : List ByteArray} (h : Sm l) : Sm (words l) := fun s hs => h s ((words_mem l s).1 hs)
theorem eachL_len210 : ∀ {l : List ByteArray}, Sm l → (eachL l).length ≤ 210 * l.length
  | [], _ => Nat.le_refl _
  | s :: l, h => by
    have h1 := eachL_len210 (l := l) (fun x hx => h x (List.mem_cons_of_mem _ hx))
    have h2 := h s (List.mem_cons_self ..)
    have h3 := pv_len10 (x := (s.size : Int)) (by omega)
    rw [eachL, List.length_append, List.length_append, nums_len, List.length_cons]; omega
set_option maxHeartbeats 1000000 in
theorem each_any (A : Option Addr) (N C : Nat) (l : List ByteArray) (w : World) (hv : TV w A N l) (hr : Sm l) (hN : N ≤ 2000) :
    Calls Try.prog 14 #[.slice A N C] w fun e w' => ∃ v, e = .returned v ∧ OW w' w.heap.size v (eachL l) ∧ Below w.heap.size w w' := by
  have hl := Lib.hid (TV.len hv)
  go_enter Try.func14, Try.ntmps14
  go_wp2_with fail
  go_loopw [3, 8] (fun v i wr => ∃ (j : Nat) (bs : List Int), j ≤ N ∧ i = .int .i64 (j : Int) ∧ Hid (bs = eachL (l.take j)) ∧ bs.length ≤ 210 * j ∧ OW wr w.heap.size v bs ∧ Below w.heap.size w wr) (fun _ i _ => N - (intOf i).toNat)
  case atStart => exact ⟨0, [], by omega, rfl, Lib.hid rfl, by simp, .inl ⟨rfl, rfl⟩, Below.refl _ _⟩
  case round =>
    obtain ⟨j, bs, hj, rfl, HB, hbl, ho, hbel⟩ := hrel
    by_cases hlt : j < N
    · obtain ⟨b, off, rfl, hcl⟩ := TV.at hv j hlt
      have hcl' := keepc hcl hbel
      have hx := hr.at j
      have HS := Lib.hid (take_snocT l j (by rw [hl.out]; exact hlt))
      generalize l.getD j ⟨#[]⟩ = x at hcl' hx HS
      clear hcl
      obtain ⟨u, hu⟩ : ∃ u : Nat, x.size = u := ⟨_, rfl⟩
      have HU := Lib.hid hu
      rw [hu] at hx
      have hwu : IntKind.u64.wrap (u : Int) = (u : Int) := u64_same (by omega) (by omega)
      have hlp := pv_len10 (x := (u : Int)) (by omega)
      have hsz := hbel.size
      have ho1 := ho.alloc (pvObj (u : Int))
      have hb1 := hbel.alloc hbel.size (pvObj (u : Int))
      have hs1 : w.heap.size ≤ (World.alloc _ (pvObj (u : Int))).heap.size := hb1.size
      go_wp2_with fail
      refine (putvar_any (u : Int) _ (by omega) (by omega)).mono ?_
      clear hu
      rintro e w1 ⟨rfl, rfl⟩
      go_wp2_with (at_builtin; first | (refine append_ow rfl (.tmp 12) (.tmp 16) rfl w.heap.size _ bs rfl ho1 _ _ 10 _ rfl (BV.pv _ (by omega)) (by omega) hs1 ?_; intro v2 w2 ho2 hb2) | (refine append_str rfl (.tmp 18) (.tmp 19) rfl w.heap.size _ _ rfl ho2 x rfl (by rw [List.length_append, HU.out]; omega) (Nat.le_trans hs1 hb2.size) ?_; intro v3 w3 ho3 hb3 _ _))
      go_roundw
      case rel => exact ⟨j + 1, _, by omega, by go_num, Lib.hid (by rw [HS.out, eachL_snoc, ← HB.out, HU.out, List.append_assoc]), by rw [List.length_append, List.length_append, nums_len, HU.out]; omega, ho3, (hb1.trans hb2).trans hb3⟩
      case measure => simp [intOf]; omega
    · obtain rfl : j = N := by omega
      have HB' : Hid (bs = eachL l) := Lib.hid (by rw [HB.out, ← hl.out, List.take_length])
      go_wp2_with fail
      go_ret
      exact ⟨_, rfl, by rw [← HB'.out]; exact ho, hbel⟩
end Go.Proofs.Ytmoppmifhhnolaa
