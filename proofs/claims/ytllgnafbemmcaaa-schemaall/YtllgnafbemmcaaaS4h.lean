/- Contract of the statements' own short: a row of at most 70 values. -/
import Derived.Test.YtllgnafbemmcaaaS4g
import Derived.Test.YtllgnafbemmcaaaS4c
namespace Go.Proofs.Ytllgnafbemmcaaa
open Go.ChangeShapes Go.WideShapes Go.ChangeAt Go.RowKit
set_option linter.unusedVariables false

def cut7 (v : Int × ByteArray) : Int × ByteArray := (v.1, cut 70 v.2)
/-- the first values of a row that is made short -/
def shortP (vs : List (Int × ByteArray)) (j : Nat) : List (Int × ByteArray) := (vs.take j).map cut7
def shortR (vs : List (Int × ByteArray)) : List (Int × ByteArray) := shortP vs 70
theorem shortP_snoc {vs : List (Int × ByteArray)} {j : Nat} (h : j < vs.length) : shortP vs (j + 1) = shortP vs j ++ [cut7 (vs.getD j v0)] := by
  rw [shortP, List.take_succ_eq_append_getElem h, List.map_append]; simp [shortP, List.getD, h]
theorem shortR_len (vs : List (Int × ByteArray)) : (shortR vs).length = min 70 vs.length := by simp [shortR, shortP]
theorem shortR_at {vs : List (Int × ByteArray)} {j : Nat} (h : j = 70 ∨ (j ≤ 70 ∧ vs.length ≤ j)) : shortP vs j = shortR vs := by
  rcases h with rfl | ⟨h1, h2⟩
  · rfl
  · rw [shortR, shortP, shortP, List.take_of_length_le h2, List.take_of_length_le (by omega)]
theorem shortR_rg {vs : List (Int × ByteArray)} (h : RgV vs) : RgV (shortR vs) := by
  intro v hv
  obtain ⟨x, hx, rfl⟩ := List.mem_map.1 hv
  exact h x (List.mem_of_mem_take hx)
/-- what short tells -/
def ShortE (w w' : World) (vs : List (Int × ByteArray)) (e : Ending) : Prop :=
  ∃ (M : Nat) (a : Option Addr) (c : Nat), e = .returned (.slice a M c) ∧ M ≤ 70 ∧ OS 2 w' w.heap.size (.slice a M c) M (vcells (shortR vs)) ∧ Below w.heap.size w w'
set_option maxHeartbeats 4000000 in
theorem short4_any (R : Option Addr) (n c : Nat) (vs : List (Int × ByteArray)) (w : World) (hr : WV w R n vs) (hn : n ≤ maxLen) :
    Calls Try.prog 11 #[.slice R n c] w fun e w' => ShortE w w' vs e := by
  unfold maxLen at hn
  have hl2 := Lib.hid (WV.len hr)
  have ho0 : OS 2 (w.alloc (.cells #[] 50)) w.heap.size (.slice (some ⟨w.heap.size, 0, none⟩) 0 0) 0 (vcells (shortP vs 0)) := OS.lit (k := 2) w w.heap.size (by simp) [] 0 50 rfl (by simp) (by simp) _ (by simp)
  go_enter Try.func11, Try.ntmps11
  go_wp2_with fail
  go_loopw [3, 4] (fun o i wr => ∃ (j : Nat) (a : Option Addr) (c : Nat), j ≤ n ∧ j ≤ 70 ∧ i = .int .i64 (j : Int) ∧ o = .slice a j c ∧ OS 2 wr w.heap.size (.slice a j c) j (vcells (shortP vs j)) ∧ Below w.heap.size w wr) (fun _ i _ => 70 - (intOf i).toNat)
  case atStart => exact ⟨0, _, _, by omega, by omega, rfl, rfl, ho0, Joins.below_alloc1 _ _⟩
  case round =>
    clear ho0
    obtain ⟨j, a, c', hj, hj7, rfl, rfl, ho, hbel⟩ := hrel
    have hsz := hbel.size
    by_cases hlt : j < n
    · by_cases h7 : j < 70
      · obtain ⟨b2, off2, rfl, hd1, hd2⟩ := WV.at hr j hlt
        have hd1 := keepc hd1 hbel
        have hd2 := keepc hd2 hbel
        have lb2 := cell_lt hd1
        have HS := Lib.hid (shortP_snoc (vs := vs) (j := j) (by rw [hl2.out]; exact hlt))
        generalize vs.getD j v0 = y at hd1 hd2 HS
        by_cases hs : y.2.size ≤ 70
        · have hs' : (y.2.size : Int) ≤ 70 := by omega
          go_wp2_with (refine append_os el_row rfl (.tmp 29) (.tmp 31) rfl w.heap.size _ j _ rfl ((ho.alloc _).alloc _) _ 1 1 [.int .i64 y.1, .string y.2] rfl (SV.lit' (k := 2) _ [.int .i64 y.1, .string y.2] 1 50 rfl (two_one _ _) _ (by simp)) (by omega) (by omega) (by simp; omega) ?_; intro v2 w2 ho2 hb2)
          obtain ⟨a3, c3, rfl⟩ := ho2.shape
          have hw2 : Below w.heap.size w w2 := ((hbel.alloc (by omega) _).alloc (by simp; omega) _).trans (hb2.mono (by omega))
          have ho3 : OS 2 w2 w.heap.size (.slice a3 (j + 1) c3) (j + 1) (vcells (shortP vs (j + 1))) := by
            rw [HS.out, vcells_app]
            simpa only [vcells, cut7, cut_all hs] using ho2
          go_wp2_with fail
          go_roundw
          case rel => exact ⟨j + 1, a3, c3, by omega, by omega, by go_num, rfl, ho3, hw2⟩
          case measure => simp [intOf]; omega
        · have hs' : ¬ (y.2.size : Int) ≤ 70 := by omega
          go_wp2_with (refine append_os el_row rfl (.tmp 29) (.tmp 31) rfl w.heap.size _ j _ rfl ((ho.alloc _).alloc _) _ 1 1 [.int .i64 y.1, .string (y.2.extract 0 70)] rfl (SV.lit' (k := 2) _ [.int .i64 y.1, .string (y.2.extract 0 70)] 1 50 rfl (two_one _ _) _ (by simp)) (by omega) (by omega) (by simp; omega) ?_; intro v2 w2 ho2 hb2)
          obtain ⟨a3, c3, rfl⟩ := ho2.shape
          have hw2 : Below w.heap.size w w2 := ((hbel.alloc (by omega) _).alloc (by simp; omega) _).trans (hb2.mono (by omega))
          have ho3 : OS 2 w2 w.heap.size (.slice a3 (j + 1) c3) (j + 1) (vcells (shortP vs (j + 1))) := by
            rw [HS.out, vcells_app]
            simpa only [vcells, cut7, cut_part hs] using ho2
          go_wp2_with fail
          go_roundw
          case rel => exact ⟨j + 1, a3, c3, by omega, by omega, by go_num, rfl, ho3, hw2⟩
          case measure => simp [intOf]; omega
      · rw [shortR_at (.inl (by omega))] at ho
        go_wp2_with fail
        go_ret
        exact ⟨_, _, _, rfl, by omega, ho, hbel⟩
    · rw [shortR_at (.inr ⟨hj7, by rw [hl2.out]; omega⟩)] at ho
      go_wp2_with fail
      go_ret
      exact ⟨_, _, _, rfl, by omega, ho, hbel⟩
end Go.Proofs.Ytllgnafbemmcaaa
