/- ValueWrites: the walk. -/
import Derived.Test.YtoebghfjpkkegaaDoorV3f
namespace Go.Proofs.YtoebghfjpkkegaaDoor
open Go.ChangeShapes Go.WideShapes Go.ChangeAt Go.RowKit
set_option linter.unusedVariables false

theorem getD_mem {l : List Int} {i : Nat} (h : i < l.length) : l.getD i 0 ∈ l := by
  rw [List.getD_eq_getElem?_getD, List.getElem?_eq_getElem h]; simp
theorem textL_one {k n : Int} {s : ByteArray} (hk : k = 1 ∨ k = 2) (h : fitsB k n s = true) :
    (∀ z ∈ textL k n s, 0 ≤ z ∧ z ≤ 255) ∧ 1 ≤ (textL k n s).length ∧
    ∀ i, i < (textL k n s).length → (48 ≤ (textL k n s).getD i 0 ∧ (textL k n s).getD i 0 ≤ 57) ∨ (i = 0 ∧ k = 1 ∧ (textL k n s).getD i 0 = 45) := by
  rw [textL_is h]
  have dig : ∀ x : Nat, (∀ z ∈ digits x, 0 ≤ z ∧ z ≤ 255) ∧ 1 ≤ (digits x).length ∧ ∀ i, i < (digits x).length → (48 ≤ (digits x).getD i 0 ∧ (digits x).getD i 0 ≤ 57) ∨ (i = 0 ∧ k = 1 ∧ (digits x).getD i 0 = 45) :=
    fun x => ⟨fun z hz => by have := digits_bytes x z hz; omega, digits_pos x, fun i hi => .inl (digits_bytes x _ (getD_mem hi))⟩
  rcases hk with rfl | rfl
  · rw [if_pos rfl, intS]
    split
    · obtain ⟨d1, d2, d3⟩ := dig n.natAbs
      refine ⟨fun z hz => ?_, by simp, fun i hi => ?_⟩
      · rcases List.mem_cons.1 hz with rfl | hz
        · omega
        · exact d1 z hz
      · cases i with
        | zero => exact .inr ⟨rfl, rfl, rfl⟩
        | succ i =>
          have hi' : i < (digits n.natAbs).length := by simpa using hi
          exact .inl (digits_bytes _ _ (getD_mem hi'))
    · exact dig _
  · rw [if_neg (by decide), if_pos rfl]; exact dig _
theorem textL_bytes {k n : Int} {s : ByteArray} (hk : k = 1 ∨ k = 2 ∨ k = 3) (h : fitsB k n s = true) : ∀ z ∈ textL k n s, 0 ≤ z ∧ z ≤ 255 := by
  rcases (by omega : (k = 1 ∨ k = 2) ∨ k = 3) with h2 | rfl
  · exact (textL_one h2 h).1
  · rw [textL_is h, if_neg (by decide), if_neg (by decide)]
    intro z hz
    have hs := escL_seen (nums_bytes s)
    simp only [textS, List.mem_cons, List.mem_append, List.not_mem_nil, or_false] at hz
    rcases hz with rfl | hz | rfl
    · omega
    · have := hs z hz; omega
    · omega
theorem textL_three {n : Int} {s : ByteArray} (h : fitsB 3 n s = true) :
    2 ≤ (textL 3 n s).length ∧ (textL 3 n s).getD 0 0 = 34 ∧ (textL 3 n s).getD ((textL 3 n s).length - 1) 0 = 34 ∧
    ∀ i, i < (textL 3 n s).length → 32 ≤ (textL 3 n s).getD i 0 ∧ (textL 3 n s).getD i 0 ≤ 126 ∧ ((textL 3 n s).getD i 0 = 34 → i = 0 ∨ i = (textL 3 n s).length - 1) := by
  rw [textL_is h, if_neg (by decide), if_neg (by decide)]
  have hs := escL_seen (nums_bytes s)
  have e : textS (nums s) = 34 :: (escL (nums s) ++ [34]) := rfl
  rw [e]
  generalize escL (nums s) = m at hs
  have hl : (34 :: (m ++ [34])).length = m.length + 2 := by simp
  rw [hl]
  have mid : ∀ i, i < m.length → (34 :: (m ++ [34])).getD (i + 1) 0 = m.getD i 0 := by
    intro i hi
    simp [List.getElem?_append_left hi]
  have last : (34 :: (m ++ [34])).getD (m.length + 1) 0 = 34 := by simp
  refine ⟨by omega, rfl, by rw [show m.length + 2 - 1 = m.length + 1 by omega]; exact last, fun i hi => ?_⟩
  rcases (by omega : i = 0 ∨ i = m.length + 1 ∨ (0 < i ∧ i ≤ m.length)) with rfl | rfl | ⟨h1, h2⟩
  · exact ⟨show (32 : Int) ≤ 34 by decide, show (34 : Int) ≤ 126 by decide, fun _ => .inl rfl⟩
  · rw [last]; exact ⟨by decide, by decide, fun _ => .inr (by omega)⟩
  · obtain ⟨j, rfl⟩ : ∃ j, i = j + 1 := ⟨i - 1, by omega⟩
    rw [mid j (by omega)]
    have := hs _ (getD_mem (l := m) (i := j) (by omega))
    exact ⟨this.1, this.2.1, fun h => absurd h this.2.2⟩
theorem textL_len {k n : Int} {s : ByteArray} (q : -9223372036854775808 ≤ n ∧ n ≤ 9223372036854775807) : (textL k n s).length ≤ 182 := by
  unfold textL
  split
  · split
    · unfold intS
      split
      · have := digits_len20 (x := n.natAbs) (by omega); simp; omega
      · have := digits_len20 (x := n.toNat) (by omega); omega
    · split
      · have := digits_len20 (x := (IntKind.u64.wrap n).toNat) (by rw [IntKind.wrap_u64]; omega); omega
      · rename_i hf h1 h2
        have h3 : k = 3 := by unfold fitsB at hf; simp [h1, h2] at hf; exact hf.1
        subst h3
        have h60 := fits_size hf
        have := escL_len (nums s)
        rw [nums_len] at this
        simp [textS]; omega
  · simp
set_option maxRecDepth 20000 in
set_option maxHeartbeats 4000000 in
theorem valueWrites_walk (t n : Int) (s : ByteArray) (w : World) (h0 : 0 ≤ t) (h1 : t ≤ 255) (r0 : -9223372036854775808 ≤ n ∧ n ≤ 9223372036854775807) (htab : Tab w) :
    Calls Tryd.prog 8 #[.int .u8 t, .agg #[.int .i64 n, .string s]] w fun e w' => e = .returned (.bool true) ∧ Below w.heap.size w w' := by
  go_enter Tryd.func8, Tryd.ntmps8
  go_wp2_with fail
  refine (shown3_is _ (htab.alloc _)).mono ?_
  rintro e w1 ⟨rfl, hb1⟩
  have x1 := (Bx.new w n s 23).below hb1
  have t1 := (htab.alloc _).below hb1
  have hw1 := after1 hb1
  obtain ⟨p0, p1⟩ := x1
  clear hb1 htab
  go_wp2_with fail
  refine (kind_any t _ h0 h1).mono ?_
  rintro e w1 ⟨rfl, rfl⟩
  have hk := kind_of t h0
  generalize 1 + t % 3 = k at *
  go_wp2_with fail
  refine (fit_any k n s _).mono ?_
  rintro e w2 ⟨rfl, hb2⟩
  have hf := Lib.hid (fit_fits (n := n) (s := s) hk)
  have q0 := fitN_range (k := k) r0
  generalize fitN k n = an at *
  generalize fitS k s = sa at *
  have t2 := t1.below hb2
  have hw2 := Below.then hw1 hb2
  clear p0 p1 hw1 hb2 t1
  go_wp2_with fail
  refine (text_any k an sa _ q0.1 q0.2 t2).mono ?_
  rintro e w3 ⟨rfl, hb3⟩
  have hw3 := Below.then hw2 hb3
  clear t2 hw2 hb3
  have hby := textL_bytes hk hf.out
  have hbd := textL_len (k := k) (n := an) (s := sa) q0
  obtain ⟨L, hL⟩ : ∃ L, textL k an sa = L := ⟨_, rfl⟩
  have HL := Lib.hid hL
  rw [hL] at hby hbd ⊢
  clear hL
  have hnx := nums_str hby
  have hsz : (strOfNums L).size = L.length := by rw [← nums_len, hnx]
  have hindex : ∀ (j : Nat), j < L.length → ∀ W : World, (Instr.index 9 (.string (strOfNums L)) (.int .i64 (j : Int))).run Tryd.prog W = .ok (.int .u8 (L.getD j 0)) W := by
    intro j hj W
    have := index_str (strOfNums L) j (by rw [hsz]; exact hj) W
    rwa [hnx] at this
  generalize strOfNums L = X at *
  rw [← hsz] at hbd hindex
  have HZ := Lib.hid hsz
  clear hsz
  rcases (by omega : (k = 1 ∨ k = 2) ∨ k = 3) with hk2 | rfl
  · have T := textL_one hk2 hf.out
    rw [HL.out, ← HZ.out] at T
    obtain ⟨-, T1, T2⟩ := T
    have hk3 : (k == 3) = false := by rcases hk2 with rfl | rfl <;> rfl
    have hk3' : ¬ k = 3 := by omega
    have hl1 : ¬ ((X.size : Int) < 1) := by omega
    clear hnx hby HL hk
    go_wp2_with fail
    go_loop [8] (fun i => ∃ (j : Nat), j ≤ X.size ∧ i = .int .i64 (j : Int)) (fun i => X.size - (intOf i).toNat)
    case atStart => exact ⟨0, by omega, rfl⟩
    case round =>
      obtain ⟨j, hj, rfl⟩ := hrel
      by_cases hlt : j < X.size
      · have hix := hindex j (by omega)
        have T3 := T2 j (by omega)
        clear T2 hindex
        generalize L.getD j 0 = c at *
        rcases T3 with ⟨c1, c2⟩ | ⟨rfl, rfl, rfl⟩
        · have c1' : ¬ c < 48 := by omega
          have c2' : ¬ 57 < c := by omega
          go_wp2_with fail
          go_round
          case rel => exact ⟨j + 1, by omega, by go_num⟩
          case measure => (simp only [intOf]; omega)
        · have hix0 : ∀ W : World, (Instr.index 9 (.string X) (.int .i64 0)).run Tryd.prog W = .ok (.int .u8 45) W := hix
          clear hix
          go_wp2_with fail
          go_round
          case rel => exact ⟨1, by omega, rfl⟩
          case measure => (simp only [intOf]; omega)
      · obtain rfl : j = X.size := by omega
        clear T2 hindex
        go_wp2_with fail
        go_ret
        exact ⟨rfl, hw3⟩
  · have T := textL_three hf.out
    rw [HL.out, ← HZ.out] at T
    obtain ⟨T1, T2, T3, T4⟩ := T
    clear hnx hby HL hk
    have i0 := hindex 0 (by omega)
    rw [T2] at i0
    have i0' : ∀ W : World, (Instr.index 9 (.string X) (.int .i64 0)).run Tryd.prog W = .ok (.int .u8 34) W := i0
    have i1 := hindex (X.size - 1) (by omega)
    rw [T3] at i1
    have hcast : ((X.size - 1 : Nat) : Int) = (X.size : Int) - 1 := by omega
    rw [hcast] at i1
    have hwr : wrap64 ((X.size : Int) - 1) = (X.size : Int) - 1 := by rw [wrap64]; omega
    have hl1 : ¬ ((X.size : Int) < 1) := by omega
    have hl2 : ¬ ((X.size : Int) < 2) := by omega
    clear i0 hcast T2 T3
    go_wp2_with fail
    clear i0' i1
    go_loop [8] (fun i => ∃ (j : Nat), j ≤ X.size ∧ i = .int .i64 (j : Int)) (fun i => X.size - (intOf i).toNat)
    case atStart => exact ⟨0, by omega, rfl⟩
    case round =>
      obtain ⟨j, hj, rfl⟩ := hrel
      by_cases hlt : j < X.size
      · have hix := hindex j (by omega)
        obtain ⟨c1, c2, c3⟩ := T4 j (by omega)
        clear T4 hindex
        generalize L.getD j 0 = c at *
        have c1' : ¬ c < 32 := by omega
        have c2' : ¬ 126 < c := by omega
        rcases (by omega : c ≠ 34 ∨ (c = 34 ∧ j = 0) ∨ (c = 34 ∧ j = X.size - 1)) with c4 | ⟨rfl, rfl⟩ | ⟨rfl, h4⟩
        · have c4' : (c == 34) = false := by simp [c4]
          clear c3
          go_wp2_with fail
          go_round
          case rel => exact ⟨j + 1, by omega, by go_num⟩
          case measure => (simp only [intOf]; omega)
        · have hix0 : ∀ W : World, (Instr.index 9 (.string X) (.int .i64 0)).run Tryd.prog W = .ok (.int .u8 34) W := hix
          clear c3 hix
          go_wp2_with fail
          go_round
          case rel => exact ⟨1, by omega, rfl⟩
          case measure => (simp only [intOf]; omega)
        · clear c3
          have c5 : ¬ ((j : Int) < (X.size : Int) - 1) := by omega
          clear h4
          go_wp2_with fail
          go_round
          case rel => exact ⟨j + 1, by omega, by go_num⟩
          case measure => (simp only [intOf]; omega)
      · obtain rfl : j = X.size := by omega
        clear T4 hindex
        go_wp2_with fail
        go_ret
        exact ⟨rfl, hw3⟩
end Go.Proofs.YtoebghfjpkkegaaDoor
