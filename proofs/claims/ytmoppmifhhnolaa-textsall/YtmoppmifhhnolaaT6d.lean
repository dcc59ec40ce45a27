/- The statements' own helpers of stage 6: shown, few. -/
import Derived.Test.YtmoppmifhhnolaaT6c
namespace Go.Proofs.Ytmoppmifhhnolaa
open Go.ChangeShapes Go.WideShapes Go.ChangeAt Go.RowKit
set_option linter.unusedVariables false

abbrev abc3 : ByteArray := { data := #[97, 98, 99] }
theorem shown6_words : words [abc3, abc3] = [abc3] := by
  have h : addW [abc3] abc3 = [abc3] := by rw [addW, if_pos (there_iff.2 (by simp))]
  show wordsF (addW [] abc3) [abc3] = _
  rw [show addW [] abc3 = [abc3] from rfl]
  show wordsF (addW [abc3] abc3) [] = _
  rw [h]; rfl
theorem shown6_places : placesL [abc3, abc3] = [0, 0] := by
  unfold placesL
  rw [shown6_words]
  simp [placeB]
theorem shown6_each : ∀ l, eachL (abc3 :: l) = 3 :: 97 :: 98 :: 99 :: eachL l := by
  intro l
  rw [eachL, show ((abc3.size : Nat) : Int) = 3 from rfl, pv_small (by omega)]; rfl
theorem shown6_dict : dictL [abc3, abc3] = [1, 3, 97, 98, 99, 0, 0] := by
  rw [dictL_small (by simp), shown6_words, shown6_places, shown6_each]; rfl
theorem shown6_put : putT [abc3, abc3] = [2, 1, 1, 3, 97, 98, 99, 0, 0] := by
  have h : shortT [abc3, abc3] = true := by rw [shortT, shown6_dict, shown6_each, shown6_each]; rfl
  rw [putT, bodyT, if_pos h, shown6_dict, pv_small (by simp)]
  rfl
theorem shown6_str : strOfNums [2, 1, 1, 3, 97, 98, 99, 0, 0] = { data := #[2, 1, 1, 3, 97, 98, 99, 0, 0] } := by rfl
set_option maxHeartbeats 1000000 in
theorem shown6_is (w : World) : Calls Try.prog 9 #[] w fun e w' => e = .returned (.bool true) ∧ Below w.heap.size w w' := by
  have hv : TV (w.alloc (.cells #[.string abc3, .string abc3] 9)) (some ⟨w.heap.size, 0, none⟩) 2 [abc3, abc3] := SV.lit (k := 1) w (tcells [abc3, abc3]) 2 9 rfl (tcells_one _)
  have hr : Sm [abc3, abc3] := by intro x hx; simp at hx; subst hx; decide
  go_enter Try.func9, Try.ntmps9
  go_wp2_with fail
  refine (putT_any _ 2 2 [abc3, abc3] _ hv hr (by omega)).mono ?_
  rintro e w1 ⟨v, rfl, ho, hb⟩
  have hw1 := after1 hb
  clear hv hb
  rw [shown6_put] at ho
  obtain ⟨a, c, rfl, -, -, hbv, -⟩ := ho.bvn (by rw [← shown6_put]; exact putT_bytes (by simp)) 9 rfl
  have hcv := conv_any hbv c
  rw [shown6_str] at hcv
  clear ho hbv
  go_wp2_with fail
  go_ret
  exact ⟨rfl, hw1⟩
/-- what is few of some texts -/
def FewE (w w' : World) (e : Ending) : Prop :=
  ∃ (A : Option Addr) (N C : Nat) (l : List ByteArray), e = .returned (.slice A N C) ∧ N ≤ C ∧ N ≤ 60 ∧ TV w' A N l ∧ Few60 l ∧ (∀ x, A = some x → w.heap.size ≤ x.block) ∧ Below w.heap.size w w'
theorem few_snoc {l : List ByteArray} (h : Few60 l) {x : ByteArray} (hx : x.size ≤ 60) : Few60 (l ++ [x]) := by
  intro s hs
  rcases List.mem_append.1 hs with hs | hs
  · exact h s hs
  · rw [List.mem_singleton.1 hs]; exact hx
set_option maxHeartbeats 1000000 in
theorem few6_any (A : Option Addr) (n C : Nat) (l : List ByteArray) (w : World) (hv : TV w A n l) :
    Calls Try.prog 10 #[.slice A n C] w fun e w' => FewE w w' e := by
  have hl := Lib.hid (TV.len hv)
  have o0 : OS 1 (w.alloc (.cells #[] 9)) w.heap.size (.slice (some ⟨w.heap.size, 0, none⟩) 0 0) 0 (tcells []) := OS.lit (k := 1) w w.heap.size (Nat.le_refl _) [] 0 9 rfl (by simp) (by unfold maxLen; omega) _ rfl
  have b0 : Below w.heap.size w (w.alloc (.cells #[] 9)) := Joins.below_alloc1 _ _
  go_enter Try.func10, Try.ntmps10
  go_wp2_with fail
  go_loopw [3, 4] (fun v i wr => ∃ (j : Nat) (k : List ByteArray), j ≤ n ∧ j ≤ 60 ∧ i = .int .i64 (j : Int) ∧ OS 1 wr w.heap.size v j (tcells k) ∧ Few60 k ∧ Below w.heap.size w wr) (fun _ i _ => n - (intOf i).toNat)
  case atStart => exact ⟨0, [], by omega, by omega, rfl, o0, (fun s hs => by cases hs), b0⟩
  case round =>
    clear o0 b0
    obtain ⟨j, k, hj, hj6, rfl, ho, hk, hbel⟩ := hrel
    by_cases hlt : j < n
    · have hji : (j : Int) < (n : Int) := by omega
      by_cases h60 : j < 60
      · have h6i : (j : Int) < 60 := by omega
        obtain ⟨b, off, rfl, hcl⟩ := TV.at hv j hlt
        have hcl' := keepc hcl hbel
        generalize l.getD j ⟨#[]⟩ = x at hcl'
        clear hcl
        by_cases hx : x.size ≤ 60
        · have hxi : ¬ (60 : Int) < (x.size : Int) := by omega
          have hone : SV 1 (wr.alloc (.cells #[.string x] 9)) (some ⟨wr.heap.size, 0, none⟩) 1 (tcells [x]) := SV.lit (k := 1) wr (tcells [x]) 1 9 rfl (tcells_one _)
          have ho1 := ho.alloc (.cells #[.string x] 9)
          have hb1 := hbel.alloc hbel.size (.cells #[.string x] 9)
          have hs1 := hb1.size
          go_wp2_with (at_builtin; refine append_os2 el_texts rfl (.tmp 26) (.tmp 28) rfl w.heap.size _ j (tcells k) rfl ho1 _ 1 1 _ rfl hone (by omega) (by omega) hs1 ?_; intro v3 w3 ho3 hb3 _ _)
          go_roundw
          case rel => exact ⟨j + 1, k ++ [x], by omega, by omega, by go_num, by rw [tcells_app]; exact ho3, few_snoc hk hx, hb1.trans hb3⟩
          case measure => simp [intOf]; omega
        · have hxi : (60 : Int) < (x.size : Int) := by omega
          have hxn : 60 ≤ x.size := by omega
          have hone : SV 1 (wr.alloc (.cells #[.string (x.extract 0 60)] 9)) (some ⟨wr.heap.size, 0, none⟩) 1 (tcells [(x.extract 0 60)]) := SV.lit (k := 1) wr (tcells [(x.extract 0 60)]) 1 9 rfl (tcells_one _)
          have ho1 := ho.alloc (.cells #[.string (x.extract 0 60)] 9)
          have hb1 := hbel.alloc hbel.size (.cells #[.string (x.extract 0 60)] 9)
          have hs1 := hb1.size
          go_wp2_with (at_builtin; refine append_os2 el_texts rfl (.tmp 26) (.tmp 28) rfl w.heap.size _ j (tcells k) rfl ho1 _ 1 1 _ rfl hone (by omega) (by omega) hs1 ?_; intro v3 w3 ho3 hb3 _ _)
          go_roundw
          case rel => exact ⟨j + 1, k ++ [(x.extract 0 60)], by omega, by omega, by go_num, by rw [tcells_app]; exact ho3, few_snoc hk (by rw [ByteArray.size_extract]; omega), hb1.trans hb3⟩
          case measure => simp [intOf]; omega
      · have h6i : ¬ (j : Int) < 60 := by omega
        obtain ⟨A3, C3, rfl, hC, -, tv, lo, -⟩ := ho.sv
        go_wp2_with fail
        go_ret
        exact ⟨A3, j, C3, k, rfl, hC, hj6, tv, hk, lo, hbel⟩
    · have hji : ¬ (j : Int) < (n : Int) := by omega
      obtain ⟨A3, C3, rfl, hC, -, tv, lo, -⟩ := ho.sv
      go_wp2_with fail
      go_ret
      exact ⟨A3, j, C3, k, rfl, hC, hj6, tv, hk, lo, hbel⟩
end Go.Proofs.Ytmoppmifhhnolaa
