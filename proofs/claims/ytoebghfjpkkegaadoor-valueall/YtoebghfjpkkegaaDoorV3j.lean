/- How texts are read: unquoted. -/
import Derived.Test.YtoebghfjpkkegaaDoorV3i
import Derived.Test.YtoebghfjpkkegaaDoorV3f
namespace Go.Proofs.YtoebghfjpkkegaaDoor
open Go.ChangeShapes Go.WideShapes Go.ChangeAt Go.RowKit
set_option linter.unusedVariables false

theorem hv_hexd {x : Int} (h : 0 ≤ x ∧ x < 16) : hv (hexd x) = x := by
  rcases (by omega : x = 0 ∨ x = 1 ∨ x = 2 ∨ x = 3 ∨ x = 4 ∨ x = 5 ∨ x = 6 ∨ x = 7 ∨ x = 8 ∨ x = 9 ∨ x = 10 ∨ x = 11 ∨ x = 12 ∨ x = 13 ∨ x = 14 ∨ x = 15) with rfl | rfl | rfl | rfl | rfl | rfl | rfl | rfl | rfl | rfl | rfl | rfl | rfl | rfl | rfl | rfl <;> decide
theorem nums_extract (s : ByteArray) (a b : Nat) : nums (s.extract a b) = ((nums s).drop a).take (b - a) := by
  have h : (s.extract a b).data.toList = (s.data.toList.drop a).take (b - a) := by
    rw [ByteArray.data_extract, Array.toList_extract]
  rw [nums, h, nums, List.map_take, List.map_drop]
/-- what was read so far is right, if the whole is how a text is written -/
def Good (L : List Int) (k : Nat) (bs : List Int) : Prop := ∀ z, (∀ x ∈ z, 0 ≤ x ∧ x ≤ 255) → L = escL z → ∃ z2, z = bs ++ z2 ∧ L.drop k = escL z2
theorem good_start (L : List Int) : Good L 0 [] := fun z hz h => ⟨z, rfl, by rw [List.drop_zero]; exact h⟩
theorem good_next {L : List Int} {k : Nat} {bs : List Int} (hg : Good L k bs) (hk : k < L.length) {z : List Int} (hz : ∀ x ∈ z, 0 ≤ x ∧ x ≤ 255) (h : L = escL z) :
    ∃ d z3, z = bs ++ d :: z3 ∧ L.getD k 0 :: L.drop (k + 1) = esc d ++ escL z3 ∧ (0 ≤ d ∧ d ≤ 255) := by
  obtain ⟨z2, e1, e2⟩ := hg z hz h
  have hd : L.drop k = L.getD k 0 :: L.drop (k + 1) := by
    rw [List.drop_eq_getElem_cons hk, List.getD_eq_getElem?_getD, List.getElem?_eq_getElem hk]; rfl
  rw [hd] at e2
  cases z2 with
  | nil => simp [escL] at e2
  | cons d z3 => exact ⟨d, z3, e1, by rw [e2, escL_cons], hz d (by rw [e1]; simp)⟩
theorem good_plain {L : List Int} {k : Nat} {bs : List Int} (hg : Good L k bs) (hk : k < L.length) (hc : L.getD k 0 ≠ 92) : Good L (k + 1) (bs ++ [L.getD k 0]) := by
  intro z hz h
  obtain ⟨d, z3, e1, e2, hd⟩ := good_next hg hk hz h
  by_cases hp : d < 32 ∨ 126 < d ∨ d = 34 ∨ d = 92
  · rw [esc_hex hp] at e2
    simp only [List.cons_append, List.nil_append, List.cons.injEq] at e2
    exact absurd e2.1 hc
  · rw [esc_plain hp] at e2
    simp only [List.cons_append, List.nil_append, List.cons.injEq] at e2
    exact ⟨z3, by rw [e1, e2.1]; simp, e2.2⟩
theorem good_esc3 {L : List Int} {k : Nat} {bs : List Int} (hg : Good L k bs) (hk : k < L.length) (hc : L.getD k 0 = 92) {z : List Int} (hz : ∀ x ∈ z, 0 ≤ x ∧ x ≤ 255) (h : L = escL z) :
    ∃ d z3, z = bs ++ d :: z3 ∧ L.drop (k + 1) = hexd (d / 16) :: hexd (d % 16) :: escL z3 ∧ (0 ≤ d ∧ d ≤ 255) := by
  obtain ⟨d, z3, e1, e2, hd⟩ := good_next hg hk hz h
  by_cases hp : d < 32 ∨ 126 < d ∨ d = 34 ∨ d = 92
  · rw [esc_hex hp] at e2
    simp only [List.cons_append, List.nil_append, List.cons.injEq] at e2
    exact ⟨d, z3, e1, e2.2, hd⟩
  · rw [esc_plain hp] at e2
    simp only [List.cons_append, List.nil_append, List.cons.injEq] at e2
    omega
theorem drop_two {L : List Int} {k : Nat} {a b : Int} {r : List Int} (h : L.drop (k + 1) = a :: b :: r) : L.getD (k + 1) 0 = a ∧ L.getD (k + 2) 0 = b ∧ L.drop (k + 3) = r ∧ k + 3 ≤ L.length := by
  have h1 : L.getD (k + 1) 0 = (L.drop (k + 1)).getD 0 0 := by simp [List.getD_eq_getElem?_getD, List.getElem?_drop]
  have h2 : L.getD (k + 2) 0 = (L.drop (k + 1)).getD 1 0 := by simp [List.getD_eq_getElem?_getD, List.getElem?_drop]
  have h3 : L.drop (k + 3) = (L.drop (k + 1)).drop 2 := by rw [List.drop_drop]
  have h4 := congrArg List.length h
  rw [h] at h1 h2 h3
  simp at h4
  exact ⟨h1, h2, h3, by omega⟩
theorem good_esc {L : List Int} {k : Nat} {bs : List Int} (hg : Good L k bs) (hk : k < L.length) (hc : L.getD k 0 = 92) : Good L (k + 3) (bs ++ [hv (L.getD (k + 1) 0) * 16 + hv (L.getD (k + 2) 0)]) := by
  intro z hz h
  obtain ⟨d, z3, e1, e2, hd⟩ := good_esc3 hg hk hc hz h
  obtain ⟨d1, d2, d3, _⟩ := drop_two e2
  refine ⟨z3, ?_, d3⟩
  rw [e1, d1, d2, hv_hexd (by omega), hv_hexd (by omega), show d / 16 * 16 + d % 16 = d from by omega]
  simp
theorem good_bad {L : List Int} {k : Nat} {bs : List Int} (hg : Good L k bs) (hk : k < L.length) (hc : L.getD k 0 = 92) (h3 : L.length < k + 3 ∨ 16 ≤ hv (L.getD (k + 1) 0) ∨ 16 ≤ hv (L.getD (k + 2) 0)) :
    ∀ z, (∀ x ∈ z, 0 ≤ x ∧ x ≤ 255) → L ≠ escL z := by
  intro z hz h
  obtain ⟨d, z3, e1, e2, hd⟩ := good_esc3 hg hk hc hz h
  obtain ⟨d1, d2, d3, d4⟩ := drop_two e2
  rw [d1, d2, hv_hexd (by omega), hv_hexd (by omega)] at h3
  omega
theorem good_end {L : List Int} {bs : List Int} (hg : Good L L.length bs) : ∀ z, (∀ x ∈ z, 0 ≤ x ∧ x ≤ 255) → L = escL z → z = bs := by
  intro z hz h
  obtain ⟨z2, e1, e2⟩ := hg z hz h
  rw [List.drop_length] at e2
  cases z2 with
  | nil => rw [e1]; simp
  | cons d r =>
    rw [escL_cons] at e2
    have := esc_len d
    have h := congrArg List.length e2
    simp at h; omega
/-- the answer of 'unquoted': right, if s is how a text is written -/
def Unq (s : ByteArray) (T : ByteArray) (ok : Bool) : Prop := (ok = true → 2 ≤ s.size) ∧ ∀ z, (∀ x ∈ z, 0 ≤ x ∧ x ≤ 255) → z.length ≤ 60 → nums s = textS z → ok = true ∧ nums T = z
theorem inner_of {s : ByteArray} {z : List Int} (h : nums s = textS z) : ((nums s).drop 1).take (s.size - 1 - 1) = escL z ∧ 2 ≤ s.size ∧ s.size = (escL z).length + 2 := by
  have hl : s.size = (escL z).length + 2 := by rw [← nums_len, h]; simp [textS]
  refine ⟨?_, by omega, hl⟩
  rw [h, textS, hl, List.drop_one, List.tail_cons]
  rw [show (escL z).length + 2 - 1 - 1 = (escL z).length from by omega]
  exact List.take_left' rfl
def UnqR (s : ByteArray) (w : World) (e : Ending) (w' : World) : Prop := Below w.heap.size w w' ∧ ∃ T ok, e = .returned (.tuple #[.string T, .bool ok]) ∧ Unq s T ok
theorem unq_no {s : ByteArray} {w w' : World} (hb : Below w.heap.size w w') (h : ∀ z, (∀ x ∈ z, 0 ≤ x ∧ x ≤ 255) → z.length ≤ 60 → nums s ≠ textS z) : UnqR s w (.returned (.tuple #[.string ⟨#[]⟩, .bool false])) w' :=
  ⟨hb, _, _, rfl, fun h => (nomatch h), fun z hz hl he => absurd he (h z hz hl)⟩
theorem index_any (s : ByteArray) (L : List Int) (hL : nums s = L) (k : Nat) (hk : k < s.size) (W : World) : (Instr.index 9 (.string s) (.int .i64 (k : Int))).run Tryd.prog W = .ok (.int .u8 (L.getD k 0)) W := by
  subst hL; exact index_str s k hk W
theorem slice_two (s : ByteArray) (k : Nat) (hk : k + 3 ≤ s.size) (W : World) : (Instr.slice 9 (.string s) (some (.int .i64 ((k : Int) + 1))) (some (.int .i64 ((k : Int) + 3))) none).run Tryd.prog W = .ok (.string (s.extract (k + 1) (k + 3))) W := by
  rw [run_slice_string W 9 s .i64 .i64 ((k : Int) + 1) ((k : Int) + 3) Tryd.underlying9 (by omega) (by omega) (by omega)]
  rw [show ((k : Int) + 1).toNat = k + 1 by omega, show ((k : Int) + 3).toNat = k + 3 by omega]
theorem two_nums (s : ByteArray) (L : List Int) (hL : nums s = L) (k : Nat) (hk : k + 3 ≤ s.size) : (s.extract (k + 1) (k + 3)).size = 2 ∧ (nums (s.extract (k + 1) (k + 3))).getD 0 0 = L.getD (k + 1) 0 ∧ (nums (s.extract (k + 1) (k + 3))).getD 1 0 = L.getD (k + 2) 0 := by
  subst hL
  have h := nums_extract s (k + 1) (k + 3)
  have hl : (nums s).length = s.size := nums_len s
  refine ⟨by rw [← nums_len, h]; simp; omega, ?_, ?_⟩
  · rw [h]; simp [List.getD_eq_getElem?_getD, List.getElem?_drop]
  · rw [h]; simp [List.getD_eq_getElem?_getD, List.getElem?_drop]
theorem hv_bd {c : Int} (h : hv c < 16) : 0 ≤ hv c ∧ hv c ≤ 15 := ⟨hv_pos c, by omega⟩
set_option maxHeartbeats 8000000 in
theorem unquoted_any (s : ByteArray) (w : World) (hmax : s.size ≤ 200) (hE : Env w) :
    Calls Tryd.prog 39 #[.string s] w (UnqR s w) := by
  by_cases h1 : s.size < 2
  · go_enter Tryd.func39, Tryd.ntmps39
    go_wp2
    go_ret2
    exact unq_no (Below.refl _ _) (fun z _ _ hz => by have := inner_of hz; omega)
  by_cases h2 : 182 < s.size
  · go_enter Tryd.func39, Tryd.ntmps39
    go_wp2
    go_ret2
    exact unq_no (Below.refl _ _) (fun z _ hz6 hz => by have := inner_of hz; have := escL_len z; omega)
  have hsl : ∀ W : World, (Instr.slice 9 (.string s) (some (.int .i64 1)) (some (.int .i64 ((s.size : Int) - 1))) none).run Tryd.prog W = .ok (.string (s.extract 1 (s.size - 1))) W := by
    intro W
    rw [run_slice_string W 9 s .i64 .i64 1 ((s.size : Int) - 1) Tryd.underlying9 (by omega) (by omega) (by omega)]
    rw [show ((s.size : Int) - 1).toNat = s.size - 1 by omega]; rfl
  have hnI := nums_extract s 1 (s.size - 1)
  have hLen : (s.extract 1 (s.size - 1)).size = s.size - 2 := by rw [← nums_len, hnI]; simp [nums_len]; omega
  have hno : ∀ z, nums s = textS z → nums (s.extract 1 (s.size - 1)) = escL z := fun z hz => by rw [hnI]; exact (inner_of hz).1
  have HNO := Lib.hid hno
  clear hno hnI
  obtain ⟨I, hI⟩ : ∃ I, I = s.extract 1 (s.size - 1) := ⟨_, rfl⟩
  rw [← hI] at hsl hLen HNO
  clear hI
  have hI180 : I.size ≤ 180 := by omega
  have HL := Lib.hid hLen
  clear hLen
  obtain ⟨L, hL⟩ : ∃ L, nums I = L := ⟨_, rfl⟩
  have hLl : L.length = I.size := by rw [← hL, nums_len]
  have hLb : ∀ z ∈ L, 0 ≤ z ∧ z ≤ 255 := by rw [← hL]; exact nums_bytes I
  obtain ⟨w0, hmk, ho0, hb0⟩ := make_ow w w.heap.size I.size (by omega) (Nat.le_refl _)
  have hindex := index_any I L hL
  have hslice := slice_two I
  have htwo := two_nums I L hL
  rw [hL] at HNO
  clear hL
  have HI := Lib.hid hindex
  have HS := Lib.hid hslice
  have HT := Lib.hid htwo
  have HB := Lib.hid hLb
  have HLL := Lib.hid hLl
  clear hindex hslice htwo hLb hLl
  have h1' : ¬ ((s.size : Int) < 2) := by omega
  have h2' : ¬ (182 < (s.size : Int)) := by omega
  go_enter Tryd.func39, Tryd.ntmps39
  go_wp2_with fail
  clear hsl hmk
  go_loopw [4, 5] (fun v i wr => ∃ (k : Nat) (bs : List Int), k ≤ I.size ∧ i = .int .i64 (k : Int) ∧ bs.length ≤ k ∧ (∀ z ∈ bs, 0 ≤ z ∧ z ≤ 255) ∧ Hid (Good L k bs) ∧ OW wr w.heap.size v bs ∧ Below w.heap.size w wr) (fun _ i _ => I.size - (intOf i).toNat)
  case atStart => exact ⟨0, [], by omega, rfl, by simp, by simp, Lib.hid (good_start L), ho0, hb0⟩
  case round =>
    obtain ⟨k, bs, hk, rfl, hbl, hbb, HG, hown, hbel⟩ := hrel
    have hsz := hbel.size
    by_cases hlt : k < I.size
    · have hix := HI.out k hlt
      have hcb := HB.out (L.getD k 0) (by rw [List.getD_eq_getElem?_getD, List.getElem?_eq_getElem (by rw [HLL.out]; exact hlt)]; simp)
      by_cases hc : L.getD k 0 = 92
      · have HBAD := Lib.hid (good_bad HG.out (by rw [HLL.out]; exact hlt) hc)
        have HESC := Lib.hid (good_esc HG.out (by rw [HLL.out]; exact hlt) hc)
        rw [HLL.out] at HBAD
        rw [hc] at hix
        clear hcb hc
        by_cases h3 : I.size < k + 3
        · have h3' : (I.size : Int) - (k : Int) < 3 := by omega
          go_wp2_with fail
          go_ret2
          exact unq_no hbel (fun z hz hl he => HBAD.out (.inl h3) z hz (HNO.out z he))
        · have h3' : ¬ ((I.size : Int) - (k : Int) < 3) := by omega
          have hsl2 := HS.out k (by omega)
          obtain ⟨j1, j2, j3⟩ := HT.out k (by omega)
          have hEr := hE.below hbel
          have hpu := pu16 (I.extract (k + 1) (k + 3)) j1 wr hEr
          rw [j2, j3] at hpu
          generalize I.extract (k + 1) (k + 3) = tt at *
          clear j1 j2 j3 hEr
          generalize L.getD (k + 1) 0 = x1 at *
          generalize L.getD (k + 2) 0 = x2 at *
          go_wp2_with fail
          refine hpu.mono ?_
          rintro e w1 ⟨hb1, (⟨g1, g2, rfl⟩ | ⟨g, N, rfl⟩)⟩
          · have hw1 := Below.then hbel hb1
            have hown1 := hown.below hb1
            have hsz1 := hw1.size
            have b1 := hv_bd g1
            have b2 := hv_bd g2
            have hd : 0 ≤ hv x1 * 16 + hv x2 ∧ hv x1 * 16 + hv x2 ≤ 255 := by omega
            generalize hv x1 * 16 + hv x2 = d at *
            have hd0 := hd.1
            have hd1 := hd.2
            clear g1 g2 b1 b2 hb1 hsl2 hpu HBAD hix
            have hwrap : IntKind.u8.wrap d = d := by rw [IntKind.wrap_u8]; omega
            go_wp2_with (at_builtin; refine append_ow rfl (.tmp 57) (.tmp 60) rfl w.heap.size _ bs rfl (hown1.alloc _) _ 1 _ [d] rfl (BV.one1 _ d hd0 hd1) (by omega) (by rw [heap_alloc]; omega) ?_; intro v2 w2 ho2 hb2)
            go_roundw
            case rel => exact ⟨k + 3, bs ++ [d], by omega, by go_num, by simp; omega, by simp only [List.mem_append, List.mem_singleton]; rintro z (hz | rfl); (exact hbb z hz); (exact hd), HESC, ho2, (hw1.alloc hsz1 _).trans hb2⟩
            case measure => (simp [intOf]; omega)
          · have hw1 := Below.then hbel hb1
            have HGG := Lib.hid g
            clear g hb1 hsl2 hpu hix
            go_wp2_with fail
            go_ret2
            exact unq_no hw1 (fun z hz hl he => HBAD.out (.inr HGG.out) z hz (HNO.out z he))
      · have HN := Lib.hid (good_plain HG.out (by rw [HLL.out]; exact hlt) hc)
        generalize L.getD k 0 = c at *
        have hcq : (c == 92) = false := by simp [hc]
        go_wp2_with (at_builtin; refine append_ow rfl (.tmp 34) (.tmp 38) rfl w.heap.size _ bs rfl (hown.alloc _) _ 1 _ [c] rfl (BV.one1 _ c hcb.1 hcb.2) (by omega) (by rw [heap_alloc]; omega) ?_; intro v2 w2 ho2 hb2)
        go_roundw
        case rel => exact ⟨k + 1, bs ++ [c], by omega, by go_num, by simp; omega, by simp only [List.mem_append, List.mem_singleton]; rintro z (hz | rfl); (exact hbb z hz); (exact hcb), HN, ho2, (hbel.alloc hsz _).trans hb2⟩
        case measure => (simp [intOf]; omega)
    · obtain rfl : k = I.size := by omega
      have HZ := Lib.hid (good_end (by rw [HLL.out]; exact HG.out))
      generalize hN : bs.length = N
      have hN' : Hid (bs.length = N) := hN
      clear hN
      obtain ⟨aO, cO, rfl, -, -, hO2, -⟩ := id (hown.bvn hbb N hN'.out)
      have hcv := conv_any hO2 cO
      go_wp2_with fail
      go_ret2
      exact ⟨hbel, _, _, rfl, fun _ => by omega, fun z hz hl he => ⟨rfl, by rw [nums_str hbb]; exact (HZ.out z hz (HNO.out z he)).symm⟩⟩
end Go.Proofs.YtoebghfjpkkegaaDoor
