/- Contract of Fit: a row of a schema that may be, of any values. -/
import Derived.Test.YtllgnafbemmcaaaS4f
namespace Go.Proofs.Ytllgnafbemmcaaa
open Go.ChangeShapes Go.WideShapes Go.ChangeAt Go.RowKit
set_option linter.unusedVariables false

theorem el_row : El 30 50 2 24 (.agg #[.int .i64 0, .string ⟨#[]⟩]) := ⟨Try.underlying30, by kernel_rfl, rfl, by omega⟩
/-- a value that is made to fit -/
def fitV (t : Int) (v : Int × ByteArray) : Int × ByteArray := (fitN t v.1, fitS t v.2)
/-- the first values of a row that is made to fit -/
def fitP (ts : List Int) (vs : List (Int × ByteArray)) (j : Nat) : List (Int × ByteArray) := (List.range j).map fun i => fitV (ts.getD i 0) (vs.getD i v0)
/-- a row that is made to fit -/
def fitR (ts : List Int) (vs : List (Int × ByteArray)) : List (Int × ByteArray) := fitP ts vs ts.length
theorem fitP_snoc (ts : List Int) (vs : List (Int × ByteArray)) (j : Nat) : fitP ts vs (j + 1) = fitP ts vs j ++ [fitV (ts.getD j 0) (vs.getD j v0)] := by
  rw [fitP, List.range_succ, List.map_append]; rfl
theorem fitP_len (ts : List Int) (vs : List (Int × ByteArray)) (j : Nat) : (fitP ts vs j).length = j := by simp [fitP]
theorem fitR_len (ts : List Int) (vs : List (Int × ByteArray)) : (fitR ts vs).length = ts.length := fitP_len ..
theorem fitR_at {ts : List Int} {vs : List (Int × ByteArray)} {i : Nat} (h : i < ts.length) : (fitR ts vs).getD i v0 = fitV (ts.getD i 0) (vs.getD i v0) := by
  simp [fitR, fitP, List.getD, h]
/-- what Fit tells -/
def FitE (w w' : World) (N : Nat) (ts : List Int) (vs : List (Int × ByteArray)) (e : Ending) : Prop :=
  ∃ (a : Option Addr) (c : Nat), e = .returned (.slice a N c) ∧ OS 2 w' w.heap.size (.slice a N c) N (vcells (fitR ts vs)) ∧ Below w.heap.size w w'
theorem SV.lit' {k : Nat} (w : World) (cs : List Value) (n : Nat) (T : TypeId) (h1 : cs.length = n * k) (h2 : ∀ u ∈ cs, u.oneCell' = true) (g : Nat) (hg : g = w.heap.size) : SV k (w.alloc (.cells cs.toArray T)) (some ⟨g, 0, none⟩) n cs := by
  subst hg; exact SV.lit w cs n T h1 h2
theorem two_one (a : Int) (s : ByteArray) : ∀ u ∈ [Value.int .i64 a, Value.string s], u.oneCell' = true := by
  intro u hu; simp at hu; rcases hu with rfl | rfl <;> rfl
set_option maxHeartbeats 4000000 in
theorem rfit_any (A : Option Addr) (N C : Nat) (ts : List Int) (k m g : Int) (R : Option Addr) (n c : Nat) (vs : List (Int × ByteArray)) (w : World) (hv : IV w A N ts) (hN : N ≤ 1000) (hr : WV w R n vs) (hn : n ≤ maxLen) :
    Calls Try.prog 26 #[SS A N C k m g, .slice R n c] w fun e w' => FitE w w' N ts vs e := by
  unfold maxLen at hn
  have hl := Lib.hid (IV.len hv)
  have hl2 := Lib.hid (WV.len hr)
  have hx0 : Sx ((w.alloc (.cells #[.slice A N C, .int .i64 k, .int .i64 m, .int .i64 g] 24)).alloc (.cells #[] 50)) w.heap.size A N C k m g := (Sx.new w A N C k m g 24).alloc _
  have ho0 : OS 2 ((w.alloc (.cells #[.slice A N C, .int .i64 k, .int .i64 m, .int .i64 g] 24)).alloc (.cells #[] 50)) (w.heap.size + 1) (.slice (some ⟨w.heap.size + 1, 0, none⟩) 0 0) 0 (vcells (fitP ts vs 0)) := OS.lit (k := 2) (w.alloc (.cells #[.slice A N C, .int .i64 k, .int .i64 m, .int .i64 g] 24)) (w.heap.size + 1) (by simp) [] 0 50 rfl (by simp) (by simp) _ (by simp)
  go_enter Try.func26, Try.ntmps26
  go_wp2_with fail
  go_loopw [5, 6] (fun o i wr => ∃ (j : Nat) (a : Option Addr) (c : Nat), j ≤ N ∧ i = .int .i64 (j : Int) ∧ o = .slice a j c ∧ OS 2 wr (w.heap.size + 1) (.slice a j c) j (vcells (fitP ts vs j)) ∧ Sx wr w.heap.size A N C k m g ∧ Below w.heap.size w wr) (fun _ i _ => N - (intOf i).toNat)
  case atStart => exact ⟨0, _, _, by omega, rfl, rfl, ho0, hx0, Joins.below_alloc2 _ _ _⟩
  case round =>
    clear hx0 ho0
    obtain ⟨j, a, c', hj, rfl, rfl, ho, hx, hbel⟩ := hrel
    have hsz := hx.lt
    by_cases hlt : j < N
    · obtain ⟨b1, off1, rfl, hc1⟩ := IV.at hv j hlt
      have hc1 := keepc hc1 hbel
      have lb1 := cell_lt hc1
      have HS := Lib.hid (fitP_snoc ts vs j)
      generalize ts.getD j 0 = t at hc1 HS
      obtain ⟨c0, -, -, -⟩ := id hx
      by_cases hjn : j < n
      · obtain ⟨b2, off2, rfl, hd1, hd2⟩ := WV.at hr j hjn
        have hd1 := keepc hd1 hbel
        have hd2 := keepc hd2 hbel
        have lb2 := cell_lt hd1
        generalize vs.getD j v0 = y at hd1 hd2 HS
        by_cases ht : t = 3
        · subst ht
          by_cases hs : y.2.size ≤ 60
          · have hs' : (y.2.size : Int) ≤ 60 := by omega
            go_wp2_with (refine append_os el_row rfl (.tmp 39) (.tmp 42) rfl (w.heap.size + 1) _ j _ rfl ((ho.alloc _).alloc _) _ 1 1 [.int .i64 0, .string y.2] rfl (SV.lit' (k := 2) _ [.int .i64 0, .string y.2] 1 50 rfl (two_one _ _) _ (by simp)) (by omega) (by omega) (by simp; omega) ?_; intro v2 w2 ho2 hb2)
            obtain ⟨a3, c3, rfl⟩ := ho2.shape
            have hx2 := ((hx.alloc _).alloc _).low hb2 (by omega)
            have hw2 : Below w.heap.size w w2 := ((hbel.alloc (by omega) _).alloc (by simp; omega) _).trans (hb2.mono (by omega))
            have ho3 : OS 2 w2 (w.heap.size + 1) (.slice a3 (j + 1) c3) (j + 1) (vcells (fitP ts vs (j + 1))) := by
              rw [HS.out, vcells_app]
              simpa only [vcells, fitV, fitN_t rfl, fitS_t rfl, cut_all hs] using ho2
            go_wp2_with fail
            go_roundw
            case rel => exact ⟨j + 1, a3, c3, by omega, by go_num, rfl, ho3, hx2, hw2⟩
            case measure => simp [intOf]; omega
          · have hs' : ¬ (y.2.size : Int) ≤ 60 := by omega
            go_wp2_with (refine append_os el_row rfl (.tmp 39) (.tmp 42) rfl (w.heap.size + 1) _ j _ rfl ((ho.alloc _).alloc _) _ 1 1 [.int .i64 0, .string (y.2.extract 0 60)] rfl (SV.lit' (k := 2) _ [.int .i64 0, .string (y.2.extract 0 60)] 1 50 rfl (two_one _ _) _ (by simp)) (by omega) (by omega) (by simp; omega) ?_; intro v2 w2 ho2 hb2)
            obtain ⟨a3, c3, rfl⟩ := ho2.shape
            have hx2 := ((hx.alloc _).alloc _).low hb2 (by omega)
            have hw2 : Below w.heap.size w w2 := ((hbel.alloc (by omega) _).alloc (by simp; omega) _).trans (hb2.mono (by omega))
            have ho3 : OS 2 w2 (w.heap.size + 1) (.slice a3 (j + 1) c3) (j + 1) (vcells (fitP ts vs (j + 1))) := by
              rw [HS.out, vcells_app]
              simpa only [vcells, fitV, fitN_t rfl, fitS_t rfl, cut_part hs] using ho2
            go_wp2_with fail
            go_roundw
            case rel => exact ⟨j + 1, a3, c3, by omega, by go_num, rfl, ho3, hx2, hw2⟩
            case measure => simp [intOf]; omega
        · have ht' : (t == 3) = false := by rw [beq_eq_false_iff_ne]; exact ht
          go_wp2_with (refine append_os el_row rfl (.tmp 44) (.tmp 48) rfl (w.heap.size + 1) _ j _ rfl ((ho.alloc _).alloc _) _ 1 1 [.int .i64 y.1, .string ⟨#[]⟩] rfl (SV.lit' (k := 2) _ [.int .i64 y.1, .string ⟨#[]⟩] 1 50 rfl (two_one _ _) _ (by simp)) (by omega) (by omega) (by simp; omega) ?_; intro v2 w2 ho2 hb2)
          obtain ⟨a3, c3, rfl⟩ := ho2.shape
          have hx2 := ((hx.alloc _).alloc _).low hb2 (by omega)
          have hw2 : Below w.heap.size w w2 := ((hbel.alloc (by omega) _).alloc (by simp; omega) _).trans (hb2.mono (by omega))
          have ho3 : OS 2 w2 (w.heap.size + 1) (.slice a3 (j + 1) c3) (j + 1) (vcells (fitP ts vs (j + 1))) := by
            rw [HS.out, vcells_app]
            simpa only [vcells, fitV, fitN_n ht, fitS_n ht] using ho2
          go_wp2_with fail
          go_roundw
          case rel => exact ⟨j + 1, a3, c3, by omega, by go_num, rfl, ho3, hx2, hw2⟩
          case measure => simp [intOf]; omega
      · have hy : vs.getD j v0 = v0 := by
          have := hl2.out
          simp [List.getD, List.getElem?_eq_none (show vs.length ≤ j by omega)]
        rw [hy] at HS
        clear hy
        by_cases ht : t = 3
        · subst ht
          go_wp2_with (refine append_os el_row rfl (.tmp 39) (.tmp 42) rfl (w.heap.size + 1) _ j _ rfl ((ho.alloc _).alloc _) _ 1 1 [.int .i64 0, .string ⟨#[]⟩] rfl (SV.lit' (k := 2) _ [.int .i64 0, .string ⟨#[]⟩] 1 50 rfl (two_one _ _) _ (by simp)) (by omega) (by omega) (by simp; omega) ?_; intro v2 w2 ho2 hb2)
          obtain ⟨a3, c3, rfl⟩ := ho2.shape
          have hx2 := ((hx.alloc _).alloc _).low hb2 (by omega)
          have hw2 : Below w.heap.size w w2 := ((hbel.alloc (by omega) _).alloc (by simp; omega) _).trans (hb2.mono (by omega))
          have ho3 : OS 2 w2 (w.heap.size + 1) (.slice a3 (j + 1) c3) (j + 1) (vcells (fitP ts vs (j + 1))) := by
            rw [HS.out, vcells_app]
            simpa only [vcells, fitV, v0, fitN_t rfl, fitS_t rfl, cut_all (show (⟨#[]⟩ : ByteArray).size ≤ 60 by decide)] using ho2
          go_wp2_with fail
          go_roundw
          case rel => exact ⟨j + 1, a3, c3, by omega, by go_num, rfl, ho3, hx2, hw2⟩
          case measure => simp [intOf]; omega
        · have ht' : (t == 3) = false := by rw [beq_eq_false_iff_ne]; exact ht
          go_wp2_with (refine append_os el_row rfl (.tmp 44) (.tmp 48) rfl (w.heap.size + 1) _ j _ rfl ((ho.alloc _).alloc _) _ 1 1 [.int .i64 0, .string ⟨#[]⟩] rfl (SV.lit' (k := 2) _ [.int .i64 0, .string ⟨#[]⟩] 1 50 rfl (two_one _ _) _ (by simp)) (by omega) (by omega) (by simp; omega) ?_; intro v2 w2 ho2 hb2)
          obtain ⟨a3, c3, rfl⟩ := ho2.shape
          have hx2 := ((hx.alloc _).alloc _).low hb2 (by omega)
          have hw2 : Below w.heap.size w w2 := ((hbel.alloc (by omega) _).alloc (by simp; omega) _).trans (hb2.mono (by omega))
          have ho3 : OS 2 w2 (w.heap.size + 1) (.slice a3 (j + 1) c3) (j + 1) (vcells (fitP ts vs (j + 1))) := by
            rw [HS.out, vcells_app]
            simpa only [vcells, fitV, v0, fitN_n ht, fitS_n ht] using ho2
          go_wp2_with fail
          go_roundw
          case rel => exact ⟨j + 1, a3, c3, by omega, by go_num, rfl, ho3, hx2, hw2⟩
          case measure => simp [intOf]; omega
    · obtain rfl : j = N := by omega
      obtain ⟨c0, -, -, -⟩ := id hx
      have e : fitP ts vs j = fitR ts vs := by rw [fitR, hl.out]
      rw [e] at ho
      clear e
      go_wp2_with fail
      go_ret
      exact ⟨_, _, rfl, ho.lower (by omega), hbel⟩
end Go.Proofs.Ytllgnafbemmcaaa
