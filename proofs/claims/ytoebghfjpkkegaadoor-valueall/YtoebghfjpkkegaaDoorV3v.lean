/- The document's own answers for layer 3: how a value is read. -/
import Derived.Test.YtoebghfjpkkegaaDoorV3q
import Derived.Test.YtoebghfjpkkegaaDoorV3r
namespace Go.Proofs.YtoebghfjpkkegaaDoor
open Go.ChangeShapes Go.WideShapes Go.ChangeAt Go.RowKit
set_option linter.unusedVariables false

/-- the value of a hexadecimal digit, as the document has it; -1: it is none -/
def hf (c : Int) : Int := if 48 ≤ c ∧ c ≤ 57 then c - 48 else if 97 ≤ c ∧ c ≤ 102 then c - 87 else -1
theorem hf_hexd {x : Int} (h : 0 ≤ x ∧ x < 16) : hf (hexd x) = x := by
  rcases (by omega : x = 0 ∨ x = 1 ∨ x = 2 ∨ x = 3 ∨ x = 4 ∨ x = 5 ∨ x = 6 ∨ x = 7 ∨ x = 8 ∨ x = 9 ∨ x = 10 ∨ x = 11 ∨ x = 12 ∨ x = 13 ∨ x = 14 ∨ x = 15) with rfl | rfl | rfl | rfl | rfl | rfl | rfl | rfl | rfl | rfl | rfl | rfl | rfl | rfl | rfl | rfl <;> decide
theorem hf_range (c : Int) : -1 ≤ hf c ∧ hf c ≤ 15 := by unfold hf; split; (· omega); split <;> omega
set_option maxHeartbeats 400000 in
theorem half_any (c : Int) (w : World) (h0 : 0 ≤ c) (h1 : c ≤ 255) : Calls Tryd.prog 40 #[.int .u8 c] w fun e w' => e = .returned (.int .i64 (hf c)) ∧ w' = w := by
  by_cases a1 : 48 ≤ c
  · by_cases a2 : c ≤ 57
    · go_enter Tryd.func40, Tryd.ntmps40
      go_wp2
      go_ret
      exact ⟨ret_int (by rw [hf, if_pos ⟨a1, a2⟩]), rfl⟩
    · by_cases a3 : 97 ≤ c
      · by_cases a4 : c ≤ 102
        · go_enter Tryd.func40, Tryd.ntmps40
          go_wp2
          go_ret
          exact ⟨ret_int (by rw [hf, if_neg (by omega), if_pos ⟨a3, a4⟩]; omega), rfl⟩
        · go_enter Tryd.func40, Tryd.ntmps40
          go_wp2
          go_ret
          exact ⟨ret_int (by rw [hf, if_neg (by omega), if_neg (by omega)]), rfl⟩
      · go_enter Tryd.func40, Tryd.ntmps40
        go_wp2
        go_ret
        exact ⟨ret_int (by rw [hf, if_neg (by omega), if_neg (by omega)]), rfl⟩
  · go_enter Tryd.func40, Tryd.ntmps40
    go_wp2
    go_ret
    exact ⟨ret_int (by rw [hf, if_neg (by omega), if_neg (by omega)]), rfl⟩
/-- the answer of 'whole' -/
def WhR (s : ByteArray) (w : World) (e : Ending) (w' : World) : Prop := w' = w ∧ ∃ (x : Int) (ok : Bool), e = .returned (.tuple #[.int .u64 x, .bool ok]) ∧ (0 ≤ x ∧ x < 18446744073709551616) ∧ ∀ u : Nat, u < 18446744073709551616 → nums s = digits u → ok = true ∧ x = u
theorem wh_no {s : ByteArray} {w : World} (h : ∀ u : Nat, u < 18446744073709551616 → nums s ≠ digits u) : WhR s w (.returned (.tuple #[.int .u64 0, .bool false])) w :=
  ⟨rfl, _, _, rfl, by omega, fun u hu he => absurd he (h u hu)⟩
set_option maxHeartbeats 4000000 in
theorem whole_any (s : ByteArray) (w : World) (hmax : s.size ≤ 200) : Calls Tryd.prog 26 #[.string s] w (WhR s w) := by
  by_cases h1 : s.size < 1
  · go_enter Tryd.func26, Tryd.ntmps26
    go_wp2
    go_ret2
    exact wh_no (fun u hu he => by have := digits_pos u; rw [← he, nums_len] at this; omega)
  by_cases h2 : 20 < s.size
  · go_enter Tryd.func26, Tryd.ntmps26
    go_wp2
    go_ret2
    exact wh_no (fun u hu he => by have := digits_len20 hu; rw [← he, nums_len] at this; omega)
  have h1' : ¬ ((s.size : Int) < 1) := by omega
  have h2' : ¬ (20 < (s.size : Int)) := by omega
  go_enter Tryd.func26, Tryd.ntmps26
  go_wp2_with fail
  go_loop [4, 5] (fun a i => ∃ (k : Nat) (y : Int), k ≤ s.size ∧ i = .int .i64 (k : Int) ∧ a = .int .u64 y ∧ 0 ≤ y ∧ y < 18446744073709551616 ∧ Hid (y = ((val10 ((nums s).take k) : Nat) : Int) % 18446744073709551616)) (fun _ i => s.size - (intOf i).toNat)
  case atStart => exact ⟨0, 0, by omega, rfl, rfl, by omega, by omega, Lib.hid rfl⟩
  case round =>
    obtain ⟨k, y, hk, rfl, rfl, hy0, hy1, HY⟩ := hrel
    by_cases hlt : k < s.size
    · have hix := index_str s k hlt
      have hmem : (nums s).getD k 0 ∈ nums s := by rw [List.getD_eq_getElem?_getD, List.getElem?_eq_getElem (by rw [nums_len]; exact hlt)]; simp
      have hcb := nums_bytes s ((nums s).getD k 0) hmem
      have HS := Lib.hid (nums_snoc s k hlt)
      have HM := Lib.hid hmem
      clear hmem
      generalize (nums s).getD k 0 = c at *
      by_cases d1 : c < 48
      · go_wp2_with fail
        go_ret2
        exact wh_no (fun u hu he => by have := digits_bytes u c (by rw [← he]; exact HM.out); omega)
      · by_cases d2 : 57 < c
        · go_wp2_with fail
          go_ret2
          exact wh_no (fun u hu he => by have := digits_bytes u c (by rw [← he]; exact HM.out); omega)
        · go_wp2_with fail
          go_round
          case rel =>
            refine ⟨k + 1, IntKind.u64.wrap (IntKind.u64.wrap (y * 10) + (c - 48)), by omega, by go_num, rfl, by rw [IntKind.wrap_u64]; omega, by rw [IntKind.wrap_u64]; omega, Lib.hid ?_⟩
            rw [HS.out, val10_snoc, IntKind.wrap_u64, IntKind.wrap_u64, HY.out]
            omega
          case measure => (simp [intOf]; omega)
    · obtain rfl : k = s.size := by omega
      go_wp2_with fail
      go_ret2
      refine ⟨rfl, _, _, rfl, ⟨hy0, hy1⟩, fun u hu he => ⟨rfl, ?_⟩⟩
      rw [HY.out, ← nums_len s, List.take_length, he, val10_digits]
      omega
theorem index_is (s : ByteArray) (j : Int) (k : Nat) (hj : j = k) (hk : k < s.size) (W : World) : (Instr.index 9 (.string s) (.int .i64 j)).run Tryd.prog W = .ok (.int .u8 ((nums s).getD k 0)) W := by
  subst hj; exact index_str s k hk W
theorem get_mem (s : ByteArray) (k : Nat) (hk : k < s.size) : 0 ≤ (nums s).getD k 0 ∧ (nums s).getD k 0 ≤ 255 :=
  nums_bytes s _ (by rw [List.getD_eq_getElem?_getD, List.getElem?_eq_getElem (by rw [nums_len]; exact hk)]; simp)
theorem get_inner {s : ByteArray} {z : List Int} (h : nums s = textS z) {k : Nat} (hk : k < (escL z).length) : (nums s).getD (k + 1) 0 = (escL z).getD k 0 := by
  rw [h, textS]
  simp [List.getElem?_append_left hk]
/-- what was read so far is right, if s is how a text is written -/
def Good2 (s : ByteArray) (k : Nat) (bs : List Int) : Prop := ∀ z, (∀ x ∈ z, 0 ≤ x ∧ x ≤ 255) → nums s = textS z → k ≤ (escL z).length ∧ Good (escL z) k bs
theorem g2_start (s : ByteArray) : Good2 s 0 [] := fun z _ _ => ⟨Nat.zero_le _, good_start _⟩
theorem g2_plain {s : ByteArray} {k : Nat} {bs : List Int} (hg : Good2 s k bs) (hk : k + 2 < s.size) (hc : (nums s).getD (k + 1) 0 ≠ 92) : Good2 s (k + 1) (bs ++ [(nums s).getD (k + 1) 0]) := by
  intro z hz h
  obtain ⟨h1, h2⟩ := hg z hz h
  have hl := (inner_of h).2.2
  have hk' : k < (escL z).length := by omega
  rw [get_inner h hk'] at hc ⊢
  exact ⟨hk', good_plain h2 hk' hc⟩
theorem g2_esc3 {s : ByteArray} {k : Nat} {bs : List Int} (hg : Good2 s k bs) (hk : k + 2 < s.size) (hc : (nums s).getD (k + 1) 0 = 92) {z : List Int} (hz : ∀ x ∈ z, 0 ≤ x ∧ x ≤ 255) (h : nums s = textS z) :
    ∃ d, (0 ≤ d ∧ d ≤ 255) ∧ k + 3 ≤ (escL z).length ∧ s.size = (escL z).length + 2 ∧ (nums s).getD (k + 2) 0 = hexd (d / 16) ∧ (nums s).getD (k + 3) 0 = hexd (d % 16) ∧ Good (escL z) (k + 3) (bs ++ [d]) := by
  obtain ⟨h1, h2⟩ := hg z hz h
  have hl := (inner_of h).2.2
  have hk' : k < (escL z).length := by omega
  rw [get_inner h hk'] at hc
  obtain ⟨d, z3, e1, e2, hd⟩ := good_esc3 h2 hk' hc hz rfl
  obtain ⟨d1, d2, d3, d4⟩ := drop_two e2
  refine ⟨d, hd, d4, hl, by rw [get_inner h (k := k + 1) (by omega), d1], by rw [get_inner h (k := k + 2) (by omega), d2], ?_⟩
  have hge := good_esc h2 hk' hc
  rw [d1, d2, hv_hexd (by omega), hv_hexd (by omega), show d / 16 * 16 + d % 16 = d from by omega] at hge
  exact hge
theorem g2_esc {s : ByteArray} {k : Nat} {bs : List Int} (hg : Good2 s k bs) (hk : k + 2 < s.size) (hc : (nums s).getD (k + 1) 0 = 92) : Good2 s (k + 3) (bs ++ [hf ((nums s).getD (k + 2) 0) * 16 + hf ((nums s).getD (k + 3) 0)]) := by
  intro z hz h
  obtain ⟨d, hd, a1, a2, a3, a4, a5⟩ := g2_esc3 hg hk hc hz h
  rw [a3, a4, hf_hexd (by omega), hf_hexd (by omega), show d / 16 * 16 + d % 16 = d from by omega]
  exact ⟨a1, a5⟩
theorem g2_bad {s : ByteArray} {k : Nat} {bs : List Int} (hg : Good2 s k bs) (hk : k + 2 < s.size) (hc : (nums s).getD (k + 1) 0 = 92) (h3 : s.size ≤ k + 3 ∨ hf ((nums s).getD (k + 2) 0) < 0 ∨ hf ((nums s).getD (k + 3) 0) < 0) :
    ∀ z, (∀ x ∈ z, 0 ≤ x ∧ x ≤ 255) → nums s ≠ textS z := by
  intro z hz h
  obtain ⟨d, hd, a1, a2, a3, a4, a5⟩ := g2_esc3 hg hk hc hz h
  rw [a3, a4, hf_hexd (by omega), hf_hexd (by omega)] at h3
  omega
theorem g2_end {s : ByteArray} {k : Nat} {bs : List Int} (hg : Good2 s k bs) (hk : ¬ k + 2 < s.size) : ∀ z, (∀ x ∈ z, 0 ≤ x ∧ x ≤ 255) → nums s = textS z → z = bs := by
  intro z hz h
  obtain ⟨h1, h2⟩ := hg z hz h
  have hl := (inner_of h).2.2
  obtain rfl : k = (escL z).length := by omega
  exact good_end h2 z hz rfl
/-- the answer of 'text' -/
def TxR (s : ByteArray) (w : World) (e : Ending) (w' : World) : Prop := Below w.heap.size w w' ∧ ∃ T ok, e = .returned (.tuple #[VV 0 T, .bool ok]) ∧ ∀ z, (∀ x ∈ z, 0 ≤ x ∧ x ≤ 255) → nums s = textS z → ok = true ∧ nums T = z
theorem keepF {w0 wr : World} {g : Nat} (hb : Below (g + 1) w0 wr) (h : Fr w0 w0 g ∨ Bx w0 g 0 ⟨#[]⟩ ∧ w0.frozen? ⟨g, 0, none⟩ = false ∧ w0.frozen? ⟨g, 1, none⟩ = false) : Bx wr g 0 ⟨#[]⟩ ∧ wr.frozen? ⟨g, 0, none⟩ = false ∧ wr.frozen? ⟨g, 1, none⟩ = false := by
  have h : Bx w0 g 0 ⟨#[]⟩ ∧ w0.frozen? ⟨g, 0, none⟩ = false ∧ w0.frozen? ⟨g, 1, none⟩ = false := by
    rcases h with h | h
    · exact ⟨h.1, h.2.1, h.2.2.1⟩
    · exact h
  exact ⟨⟨by rw [hb.cell (p := ⟨g, 0, none⟩) (by simp)]; exact h.1.1, by rw [hb.cell (p := ⟨g, 1, none⟩) (by simp)]; exact h.1.2⟩,
    by rw [hb.frozen (p := ⟨g, 0, none⟩) (by simp)]; exact h.2.1, by rw [hb.frozen (p := ⟨g, 1, none⟩) (by simp)]; exact h.2.2⟩
set_option maxHeartbeats 8000000 in
theorem rtextin_any (s : ByteArray) (w : World) (hmax : s.size ≤ 200) : Calls Tryd.prog 25 #[.string s] w (TxR s w) := by
  have hg0 := w.heap.size
  have hz0 : Bx (w.alloc (.cells #[.int .i64 0, .string ⟨#[]⟩] 23)) w.heap.size 0 ⟨#[]⟩ ∧ (w.alloc (.cells #[.int .i64 0, .string ⟨#[]⟩] 23)).frozen? ⟨w.heap.size, 0, none⟩ = false ∧ (w.alloc (.cells #[.int .i64 0, .string ⟨#[]⟩] 23)).frozen? ⟨w.heap.size, 1, none⟩ = false :=
    ⟨Bx.new _ _ _ _, World.frozen?_alloc_new _ _ _ _, World.frozen?_alloc_new _ _ _ _⟩
  have HZ0 := Lib.hid hz0
  have hs0 : (w.alloc (.cells #[.int .i64 0, .string ⟨#[]⟩] 23)).heap.size = w.heap.size + 1 := by simp
  have HS0 := Lib.hid hs0
  have hbw := Lib.hid (Joins.below_alloc1 w (.cells #[.int .i64 0, .string ⟨#[]⟩] 23))
  clear hz0 hg0 hs0
  have hwr : wrap64 ((s.size : Int) - 1) = (s.size : Int) - 1 := by rw [wrap64]; omega
  go_enter Tryd.func25, Tryd.ntmps25
  go_wp2_with fail
  obtain ⟨w0, hw0⟩ : ∃ w0, w0 = w.alloc (.cells #[.int .i64 0, .string ⟨#[]⟩] 23) := ⟨_, rfl⟩
  rw [← hw0] at HZ0 HS0 hbw ⊢
  clear hw0
  go_loopw [4, 5] (fun v i wr => ∃ (k j : Nat) (bs : List Int), Hid (j = k + 1) ∧ j ≤ s.size + 1 ∧ i = .int .i64 (j : Int) ∧ bs.length ≤ j ∧ (∀ z ∈ bs, 0 ≤ z ∧ z ≤ 255) ∧ Hid (Good2 s k bs) ∧ OW wr (w.heap.size + 1) v bs ∧ Below (w.heap.size + 1) w0 wr) (fun _ i _ => s.size + 4 - (intOf i).toNat)
  case atStart => exact ⟨0, 1, [], Lib.hid rfl, by omega, rfl, by simp, by simp, Lib.hid (g2_start s), OW.empty w0 _ (by rw [HS0.out]; exact Nat.le_refl _) _ HS0.out.symm, (Below.refl _ _).alloc (by rw [HS0.out]; exact Nat.le_refl _) _⟩
  case round =>
    obtain ⟨k, j, bs, HJ, hj, rfl, hbl, hbb, HG, hown, hbel⟩ := hrel
    have hsz : w.heap.size + 1 ≤ wr.heap.size := Nat.le_trans (by rw [HS0.out]; exact Nat.le_refl _) hbel.size
    obtain ⟨⟨y0, y1⟩, f0, f1⟩ := keepF hbel (.inr HZ0.out)
    by_cases hlt : k + 2 < s.size
    · have hlt' : (j : Int) < (s.size : Int) - 1 := by have := HJ.out; omega
      have hix := index_is s (j : Int) (k + 1) (by have := HJ.out; omega) (by omega)
      have hcb := get_mem s (k + 1) (by omega)
      by_cases hc : (nums s).getD (k + 1) 0 = 92
      · have HBAD := Lib.hid (g2_bad HG.out hlt hc)
        have HESC := Lib.hid (g2_esc HG.out hlt hc)
        rw [hc] at hix
        clear hcb hc
        by_cases h3 : s.size ≤ k + 3
        · have h3' : (s.size : Int) ≤ (j : Int) + 2 := by have := HJ.out; omega
          have HH3 := Lib.hid h3
          clear h3 hlt
          go_wp2_with fail
          (try simp only [Exit.inBlock, Exit.then])
          refine bodyPost_ret (res_vv2 rfl _ _ rfl (Bx.put ⟨y0, y1⟩ _ _)) rfl ?_
          exact ⟨((hbw.out.trans (hbel.mono (Nat.le_succ _))).setCell (Nat.le_refl _) _).setCell (Nat.le_refl _) _, _, _, rfl, fun z hz he => absurd he ((HBAD.out (.inl HH3.out)) z hz)⟩
        · have h3' : ¬ ((s.size : Int) ≤ (j : Int) + 2) := by have := HJ.out; omega
          have hi1 := index_is s ((j : Int) + 1) (k + 2) (by have := HJ.out; omega) (by omega)
          have hi2 := index_is s ((j : Int) + 2) (k + 3) (by have := HJ.out; omega) (by omega)
          have m1 := get_mem s (k + 2) (by omega)
          have m2 := get_mem s (k + 3) (by omega)
          have hj3 : j + 2 < s.size := by have := HJ.out; omega
          have HK3 : Hid (j + 3 = (k + 3) + 1) := Lib.hid (by have := HJ.out; omega)
          generalize (nums s).getD (k + 2) 0 = a at *
          generalize (nums s).getD (k + 3) 0 = b at *
          have ra := hf_range a
          have rb := hf_range b
          have ha := half_any a wr m1.1 m1.2
          have hb := half_any b wr m2.1 m2.2
          have haD := half_any a wr.drew m1.1 m1.2
          have hbD := half_any b wr.drew m2.1 m2.2
          generalize hf a = x at *
          generalize hf b = y at *
          by_cases nx : x < 0
          · clear hlt h3
            go_wp2_with fail
            refine ha.mono ?_
            rintro e wr ⟨rfl, rfl⟩
            go_wp2_with fail
            (try simp only [Exit.inBlock, Exit.then])
            refine bodyPost_ret (res_vv2 rfl _ _ rfl (Bx.put ⟨y0, y1⟩ _ _)) rfl ?_
            exact ⟨((hbw.out.trans (hbel.mono (Nat.le_succ _))).setCell (Nat.le_refl _) _).setCell (Nat.le_refl _) _, _, _, rfl, fun z hz he => absurd he ((HBAD.out (.inr (.inl nx))) z hz)⟩
          · by_cases ny : y < 0
            · clear hlt h3
              go_wp2_with fail
              refine ha.mono ?_
              rintro e wr ⟨rfl, rfl⟩
              go_wp2_with fail
              refine hb.mono ?_
              rintro e wr ⟨rfl, rfl⟩
              go_wp2_with fail
              (try simp only [Exit.inBlock, Exit.then])
              refine bodyPost_ret (res_vv2 rfl _ _ rfl (Bx.put ⟨y0, y1⟩ _ _)) rfl ?_
              exact ⟨((hbw.out.trans (hbel.mono (Nat.le_succ _))).setCell (Nat.le_refl _) _).setCell (Nat.le_refl _) _, _, _, rfl, fun z hz he => absurd he ((HBAD.out (.inr (.inr ny))) z hz)⟩
            · have hd : 0 ≤ x * 16 + y ∧ x * 16 + y ≤ 255 := by omega
              have e1 : IntKind.i64.wrap (x * 16) = x * 16 := by rw [IntKind.wrap_i64]; omega
              have e2 : IntKind.i64.wrap (x * 16 + y) = x * 16 + y := by rw [IntKind.wrap_i64]; omega
              have e3 : IntKind.u8.wrap (x * 16 + y) = x * 16 + y := by rw [IntKind.wrap_u8]; omega
              have e4 : IntKind.i64.wrap ((j : Int) + 1) = (j : Int) + 1 := by rw [IntKind.wrap_i64]; omega
              have e5 : IntKind.i64.wrap ((j : Int) + 2) = (j : Int) + 2 := by rw [IntKind.wrap_i64]; omega
              clear hlt h3 HBAD
              go_wp2_with fail
              refine ha.mono ?_
              rintro e wr ⟨rfl, rfl⟩
              go_wp2_with fail
              refine hb.mono ?_
              rintro e wr ⟨rfl, rfl⟩
              go_wp2_with fail
              clear ha hb
              refine wp_region_noPanic ?_
              refine wp_region_held_drew (S := Below (w.heap.size + 1) w0) (by kernel_rfl) (hbel.drew) (fun hS => ?_)
              refine take_at (i := 0) (v := ?_) (some 46) rfl (by kernel_rfl) (by kernel_rfl) (by kernel_rfl) rfl (fun _ _ _ h => h) (Or.inl ⟨by rfl, ?_⟩) hS ?_
              rotate_left
              · (intro wq hq; go_simp); first | done | with_reducible rfl
              try simp only [Act.put, List.setIfInBounds_toArray, List.set_cons_zero, List.set_cons_succ]
              refine take_at (i := 1) (v := ?_) (some 47) rfl (by kernel_rfl) (by kernel_rfl) (by kernel_rfl) rfl (fun _ _ _ h => h) (Or.inl ⟨by rfl, ?_⟩) hS ?_
              rotate_left
              · (intro wq hq; go_simp); first | done | with_reducible rfl
              try simp only [Act.put, List.setIfInBounds_toArray, List.set_cons_zero, List.set_cons_succ]
              refine take_at (i := 2) (v := ?_) (some 48) rfl (by kernel_rfl) (by kernel_rfl) (by kernel_rfl) rfl (fun _ _ _ h => h) (Or.inl ⟨by rfl, ?_⟩) hS ?_
              rotate_left
              · (intro wq hq; go_simp); first | done | with_reducible rfl
              try simp only [Act.put, List.setIfInBounds_toArray, List.set_cons_zero, List.set_cons_succ]
              refine take_at (i := 3) (v := ?_) (some 49) rfl (by kernel_rfl) (by kernel_rfl) (by kernel_rfl) rfl (fun _ _ _ h => h) (Or.inl ⟨by rfl, ?_⟩) hS ?_
              rotate_left
              · (intro wq hq; go_simp); first | done | with_reducible rfl
              try simp only [Act.put, List.setIfInBounds_toArray, List.set_cons_zero, List.set_cons_succ]
              refine take_at (i := 4) (v := ?_) (some 50) rfl (by kernel_rfl) (by kernel_rfl) (by kernel_rfl) rfl (fun _ _ _ h => h) (Or.inl ⟨by rfl, ?_⟩) hS ?_
              rotate_left
              · (intro wq hq; go_simp); first | done | with_reducible rfl
              try simp only [Act.put, List.setIfInBounds_toArray, List.set_cons_zero, List.set_cons_succ]
              refine take_at (i := 7) (v := ?_) (some 53) rfl (by kernel_rfl) (by kernel_rfl) (by kernel_rfl) rfl (fun _ _ _ h => h) (Or.inl ⟨by rfl, ?_⟩) hS ?_
              rotate_left
              · (intro wq hq; go_simp); first | done | with_reducible rfl
              try simp only [Act.put, List.setIfInBounds_toArray, List.set_cons_zero, List.set_cons_succ]
              refine take_at (i := 8) (v := ?_) (some 54) rfl (by kernel_rfl) (by kernel_rfl) (by kernel_rfl) rfl (fun _ _ _ h => h) (Or.inl ⟨by rfl, ?_⟩) hS ?_
              rotate_left
              · (intro wq hq; go_simp); first | done | with_reducible rfl
              try simp only [Act.put, List.setIfInBounds_toArray, List.set_cons_zero, List.set_cons_succ]
              refine take_at (i := 9) (v := ?_) (some 55) rfl (by kernel_rfl) (by kernel_rfl) (by kernel_rfl) rfl (fun _ _ _ h => h) (Or.inl ⟨by rfl, ?_⟩) hS ?_
              rotate_left
              · (intro wq hq; go_simp); first | done | with_reducible rfl
              try simp only [Act.put, List.setIfInBounds_toArray, List.set_cons_zero, List.set_cons_succ]
              refine take_at (i := 10) (v := ?_) (some 56) rfl (by kernel_rfl) (by kernel_rfl) (by kernel_rfl) rfl (fun _ _ _ h => h) (Or.inl ⟨by rfl, ?_⟩) hS ?_
              rotate_left
              · (intro wq hq; go_simp); first | done | with_reducible rfl
              try simp only [Act.put, List.setIfInBounds_toArray, List.set_cons_zero, List.set_cons_succ]
              refine wpAnyH_ready (rs := [5]) (by kernel_rfl) (by simp) ?_
              refine AllReadyH.cons rfl (fun K hK => ?_) AllReadyH.nil
              go_simp
              refine haD.mono ?_
              rintro e wz ⟨rfl, rfl⟩
              refine hK.out _ _ (hbel.drew) (fun hS0 => ?_)
              clear hK K
              try simp only [Act.put, List.setIfInBounds_toArray, List.set_cons_zero, List.set_cons_succ]
              clear hS
              have hS := hS0
              clear hS0
              refine take_at (i := 6) (v := ?_) (some 52) rfl (by kernel_rfl) (by kernel_rfl) (by kernel_rfl) rfl (fun _ _ _ h => h) (Or.inl ⟨by rfl, ?_⟩) hS ?_
              rotate_left
              · (intro wq hq; go_simp); first | done | with_reducible rfl
              try simp only [Act.put, List.setIfInBounds_toArray, List.set_cons_zero, List.set_cons_succ]
              refine wpAnyH_ready (rs := [11]) (by kernel_rfl) (by simp) ?_
              refine AllReadyH.cons rfl (fun K hK => ?_) AllReadyH.nil
              go_simp
              refine hbD.mono ?_
              rintro e wz ⟨rfl, rfl⟩
              refine hK.out _ _ (hbel.drew) (fun hS0 => ?_)
              clear hK K
              try simp only [Act.put, List.setIfInBounds_toArray, List.set_cons_zero, List.set_cons_succ]
              clear hS
              have hS := hS0
              clear hS0
              refine take_at (i := 12) (v := ?_) (some 58) rfl (by kernel_rfl) (by kernel_rfl) (by kernel_rfl) rfl (fun _ _ _ h => h) (Or.inl ⟨by rfl, ?_⟩) hS ?_
              rotate_left
              · (intro wq hq; go_simp); first | done | with_reducible rfl
              try simp only [Act.put, List.setIfInBounds_toArray, List.set_cons_zero, List.set_cons_succ]
              refine take_at (i := 13) (v := ?_) (some 59) rfl (by kernel_rfl) (by kernel_rfl) (by kernel_rfl) rfl (fun _ _ _ h => h) (Or.inl ⟨by rfl, ?_⟩) hS ?_
              rotate_left
              · (intro wq hq; go_simp); first | done | with_reducible rfl
              try simp only [Act.put, List.setIfInBounds_toArray, List.set_cons_zero, List.set_cons_succ]
              refine wpAnyH_ready (rs := [14]) (by kernel_rfl) (by simp) ?_
              refine AllReadyH.cons rfl (fun K hK => ?_) AllReadyH.nil
              go_simp
              have hal : Below (w.heap.size + 1) w0 (wr.drew.alloc (.cells #[.int .u8 (x * 16 + y)] 5)) := hbel.drew.alloc hsz _
              refine hK.out _ _ (hal) (fun hS0 => ?_)
              clear hK K
              try simp only [Act.put, List.setIfInBounds_toArray, List.set_cons_zero, List.set_cons_succ]
              clear hS
              have hS := hS0
              clear hS0
              refine wpAnyH_ready (rs := [15]) (by kernel_rfl) (by simp) ?_
              refine AllReadyH.cons rfl (fun K hK => ?_) AllReadyH.nil
              refine want (by kernel_rfl) ?_
              refine wp_append_ow (some 61) rfl (.tmp 46) (.tmp 60) rfl (w.heap.size + 1) _ bs rfl (hown.drew.alloc _) _ 1 _ [x * 16 + y] rfl (BV.one1 _ (x * 16 + y) hd.1 hd.2) (by omega) (Nat.le_trans (by rw [HS0.out]; exact Nat.le_refl _) hal.size) ?_
              intro v2 w2 ho2 hb2
              have hw2 : Below (w.heap.size + 1) w0 w2 := hal.trans hb2
              refine hK.out _ _ (hw2) (fun hS0 => ?_)
              clear hK K
              try simp only [Act.put, List.setIfInBounds_toArray, List.set_cons_zero, List.set_cons_succ]
              clear hS
              have hS := hS0
              clear hS0
              refine take_at (i := 16) (v := ?_) (some 4) rfl (by kernel_rfl) (by kernel_rfl) (by kernel_rfl) rfl (fun _ _ _ h => h) (Or.inl ⟨by rfl, ?_⟩) hS ?_
              rotate_left
              · (intro wq hq; go_simp); first | done | with_reducible rfl
              try simp only [Act.put, List.setIfInBounds_toArray, List.set_cons_zero, List.set_cons_succ]
              refine wpAnyH_done (by kernel_rfl) (NoPanic.normal ?_) _
              clear hS hal hb2
              go_wp2_with fail
              go_roundw
              case rel => exact ⟨k + 3, j + 3, bs ++ [x * 16 + y], HK3, by omega, by go_num, by simp; omega, by simp only [List.mem_append, List.mem_singleton]; rintro z (hz | rfl); (exact hbb z hz); (exact hd), HESC, ho2, hw2⟩
              case measure => (simp [intOf]; omega)
      · have HN := Lib.hid (g2_plain HG.out hlt hc)
        have HK1 : Hid (j + 1 = (k + 1) + 1) := Lib.hid (by have := HJ.out; omega)
        generalize (nums s).getD (k + 1) 0 = c at *
        have hcq : (c == 92) = false := by simp [hc]
        have hjs : j + 1 ≤ s.size + 1 := by have := HJ.out; omega
        clear hlt
        go_wp2_with (at_builtin; refine append_ow rfl (.tmp 18) (.tmp 22) rfl (w.heap.size + 1) _ bs rfl (hown.alloc _) _ 1 _ [c] rfl (BV.one1 _ c hcb.1 hcb.2) (by omega) (Nat.le_trans hsz (by rw [heap_alloc]; exact Nat.le_succ _)) ?_; intro v2 w2 ho2 hb2)
        go_roundw
        case rel => exact ⟨k + 1, j + 1, bs ++ [c], HK1, hjs, by go_num, by simp; omega, by simp only [List.mem_append, List.mem_singleton]; rintro z (hz | rfl); (exact hbb z hz); (exact hcb), HN, ho2, (hbel.alloc hsz _).trans hb2⟩
        case measure => (simp [intOf]; omega)
    · have hlt' : ¬ ((j : Int) < (s.size : Int) - 1) := by have := HJ.out; omega
      have HEND := Lib.hid (g2_end HG.out hlt)
      clear hlt
      generalize hN : bs.length = N
      have hN' : Hid (bs.length = N) := hN
      clear hN
      obtain ⟨aO, cO, rfl, -, -, hO2, -⟩ := id (hown.bvn hbb N hN'.out)
      have hcv := conv_any hO2 cO
      go_wp2_with fail
      (try simp only [Exit.inBlock, Exit.then])
      refine bodyPost_ret (res_vv2 rfl _ _ rfl (Bx.put ⟨y0, y1⟩ _ _)) rfl ?_
      exact ⟨((hbw.out.trans (hbel.mono (Nat.le_succ _))).setCell (Nat.le_refl _) _).setCell (Nat.le_refl _) _, _, _, rfl, fun z hz he => ⟨rfl, by rw [nums_str hbb]; exact (HEND.out z hz he).symm⟩⟩
end Go.Proofs.YtoebghfjpkkegaaDoor
