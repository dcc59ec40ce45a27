/- How texts are written: isPlain, quoted, Text. -/
import Derived.Test.YtoebghfjpkkegaaDoorV3b
namespace Go.Proofs.YtoebghfjpkkegaaDoor
open Go.ChangeShapes Go.WideShapes Go.ChangeAt Go.RowKit
set_option linter.unusedVariables false

set_option maxHeartbeats 400000 in
theorem plain_any (c : Int) (w : World) (h0 : 0 ≤ c) (h1 : c ≤ 255) :
    Calls Tryd.prog 46 #[.int .u8 c] w fun e w' => e = .returned (.bool (decide (¬ (c < 32 ∨ 126 < c ∨ c = 34 ∨ c = 92)))) ∧ w' = w := by
  by_cases a1 : c < 32
  · go_enter Tryd.func46, Tryd.ntmps46
    go_wp2
    go_ret
    exact ⟨by simp, rfl⟩
  · by_cases a2 : 126 < c
    · go_enter Tryd.func46, Tryd.ntmps46
      go_wp2
      go_ret
      exact ⟨by simp, rfl⟩
    · by_cases a3 : c = 34
      · subst a3
        go_enter Tryd.func46, Tryd.ntmps46
        go_wp2
        go_ret
        exact ⟨by simp, rfl⟩
      · by_cases a4 : c = 92
        · subst a4
          go_enter Tryd.func46, Tryd.ntmps46
          go_wp2
          go_ret
          exact ⟨by simp, rfl⟩
        · go_enter Tryd.func46, Tryd.ntmps46
          go_wp2
          go_ret
          exact ⟨by simp [a3, a4], rfl⟩

theorem make_ow (w : World) (base c : Nat) (hc : c ≤ 140737488355328) (hb : base ≤ w.heap.size) :
    ∃ w', (Instr.makeSlice 62 (.int .i64 0) (.int .i64 (c : Int))).run Tryd.prog w = .ok (.slice (some ⟨w.heap.size, 0, none⟩) 0 c) w' ∧ OW w' base (.slice (some ⟨w.heap.size, 0, none⟩) 0 c) [] ∧ Below base w w' := by
  obtain ⟨i0, hi, hz0, hz1, hz2⟩ := info_parts info5
  obtain ⟨w', h1, h2, h3⟩ := run_make_own (P := Tryd.prog) w base 62 5 i0 (.int .u8 0) 1 Tryd.underlying62 hi hz0 hz1 .i64 .i64 c (by rw [hz2]; omega) (by unfold maxLen; omega) hb
  exact ⟨w', h1, (show OB w' base _ [] from h2).ow, (Below.refl _ _).grown h3 hb (fun k hk => by cases hk)⟩
theorem index_str (s : ByteArray) (k : Nat) (hk : k < s.size) (w : World) : (Instr.index 9 (.string s) (.int .i64 (k : Int))).run Tryd.prog w = .ok (.int .u8 ((nums s).getD k 0)) w := by
  rw [run_index_string w 9 s .i64 k Tryd.underlying9, dif_pos ⟨by omega, by omega⟩]
  have h : (nums s).getD k 0 = ((s.data.toList[k]'(by rw [Array.length_toList]; exact hk)).toNat : Int) := by
    rw [nums, List.getD_eq_getElem?_getD, List.getElem?_map, List.getElem?_eq_getElem (by rw [Array.length_toList]; exact hk)]
    rfl
  rw [h]
  rfl
theorem BV.three (w : World) (a b c : Int) (ha : 0 ≤ a ∧ a ≤ 255) (hb : 0 ≤ b ∧ b ≤ 255) (hc : 0 ≤ c ∧ c ≤ 255) : BV (w.alloc (.cells #[.int .u8 a, .int .u8 b, .int .u8 c] 5)) (some ⟨w.heap.size, 0, none⟩) 3 [a, b, c] := by
  refine ⟨rfl, by simp; omega, .inr ⟨_, _, rfl, fun i hi => ?_⟩⟩
  rw [World.cell?_alloc_at (hn := rfl)]
  match i, hi with
  | 0, _ => rfl
  | 1, _ => rfl
  | 2, _ => rfl
def hexS : ByteArray := { data := #[48, 49, 50, 51, 52, 53, 54, 55, 56, 57, 97, 98, 99, 100, 101, 102] }
theorem hex_at (x : Int) (h0 : 0 ≤ x) (h1 : x < 16) (w : World) : (Instr.index 9 (.string { data := #[48, 49, 50, 51, 52, 53, 54, 55, 56, 57, 97, 98, 99, 100, 101, 102] }) (.int .u8 x)).run Tryd.prog w = .ok (.int .u8 (hexd x)) w := by
  have h : ∀ k : Fin 16, (Instr.index 9 (.string { data := #[48, 49, 50, 51, 52, 53, 54, 55, 56, 57, 97, 98, 99, 100, 101, 102] }) (.int .u8 ((k : Nat) : Int))).run Tryd.prog w = .ok (.int .u8 (hexd ((k : Nat) : Int))) w := by
    intro k
    match k with
    | ⟨0, _⟩ | ⟨1, _⟩ | ⟨2, _⟩ | ⟨3, _⟩ | ⟨4, _⟩ | ⟨5, _⟩ | ⟨6, _⟩ | ⟨7, _⟩ | ⟨8, _⟩ | ⟨9, _⟩ | ⟨10, _⟩ | ⟨11, _⟩ | ⟨12, _⟩ | ⟨13, _⟩ | ⟨14, _⟩ | ⟨15, _⟩ => rfl
    | ⟨n + 16, h⟩ => omega
  have := h ⟨x.toNat, by omega⟩
  simpa [show ((x.toNat : Nat) : Int) = x by omega] using this
theorem nums_snoc (s : ByteArray) (k : Nat) (h : k < s.size) : (nums s).take (k + 1) = (nums s).take k ++ [(nums s).getD k 0] := by
  have hk : k < (nums s).length := by rw [nums_len]; exact h
  rw [List.take_succ_eq_append_getElem hk]
  simp [hk]
set_option maxHeartbeats 400000 in
theorem quoted_any (s : ByteArray) (hs : s.size ≤ 60) (w : World) :
    Calls Tryd.prog 35 #[.string s] w fun e w' => e = .returned (.string (strOfNums (textS (nums s)))) ∧ Below w.heap.size w w' := by
  obtain ⟨w0, hmk, ho0, hb0⟩ := make_ow w w.heap.size 182 (by omega) (Nat.le_refl _)
  have hs0 := hb0.size
  have hmk2 : (Instr.makeSlice 62 (.int .i64 0) (.int .i64 182)).run Tryd.prog w = .ok (.slice (some ⟨w.heap.size, 0, none⟩) 0 182) w0 := hmk
  clear hmk
  go_enter Tryd.func35, Tryd.ntmps35
  go_wp2_with (at_builtin; refine append_ow rfl (.tmp 7) (.tmp 8) rfl w.heap.size _ [] rfl (ho0.alloc _) _ 1 _ [34] rfl (BV.one1 _ 34 (by omega) (by omega)) (by simp) (by rw [heap_alloc]; omega) ?_; intro v1 w1 ho1 hb1)
  have hb1' := (hb0.alloc hs0 _).trans hb1
  clear hmk2 ho0 hb0 hs0 hb1
  go_loopw [3, 12] (fun v i wr => ∃ (k : Nat) (bs : List Int), k ≤ s.size ∧ i = .int .i64 (k : Int) ∧ Hid (bs = 34 :: escL ((nums s).take k)) ∧ bs.length ≤ 1 + 3 * k ∧ OW wr w.heap.size v bs ∧ Below w.heap.size w wr) (fun _ i _ => s.size - (intOf i).toNat)
  case atStart => exact ⟨0, [34], by omega, rfl, rfl, by simp, ho1, hb1'⟩
  case round =>
    obtain ⟨k, bs, hk, rfl, HB, hbl, hown, hbel⟩ := hrel
    have hsz := hbel.size
    by_cases hlt : k < s.size
    · have hix := index_str s k hlt
      have hcb := nums_bytes s ((nums s).getD k 0) (by rw [List.getD_eq_getElem?_getD, List.getElem?_eq_getElem (by rw [nums_len]; exact hlt)]; simp)
      have HS : Hid ((nums s).take (k + 1) = (nums s).take k ++ [(nums s).getD k 0]) := Lib.hid (nums_snoc s k hlt)
      generalize (nums s).getD k 0 = c at *
      by_cases hp : c < 32 ∨ 126 < c ∨ c = 34 ∨ c = 92
      · have hpl : decide (¬ (c < 32 ∨ 126 < c ∨ c = 34 ∨ c = 92)) = false := by simp [hp]
        have HE : Hid (esc c = [92, hexd (c / 16), hexd (c % 16)]) := Lib.hid (esc_hex hp)
        have hand := u8_and15 (x := c) hcb.1 (by omega)
        have hx1 := hex_at (c / 16) (by omega) (by omega)
        have hx2 := hex_at (c % 16) (by omega) (by omega)
        have hr1 := hexd_seen (x := c / 16) (by omega)
        have hr2 := hexd_seen (x := c % 16) (by omega)
        generalize hexd (c / 16) = x1 at *
        generalize hexd (c % 16) = x2 at *
        go_wp2_with (go_at_call 46; refine (plain_any c _ hcb.1 hcb.2).mono ?_; rw [hpl]; rintro e wr ⟨rfl, rfl⟩)
        refine wp_region_noPanic ?_
        refine wp_region_held_drew (S := Below w.heap.size w) (by kernel_rfl) (hbel.drew) (fun hS => ?_)
        refine take_at (i := 0) (v := ?_) (some 24) rfl (by kernel_rfl) (by kernel_rfl) (by kernel_rfl) rfl (fun _ _ _ h => h) (Or.inl ⟨by rfl, ?_⟩) hS ?_
        rotate_left
        · (intro wq hq; go_simp); first | done | with_reducible rfl
        try simp only [Act.put, List.setIfInBounds_toArray, List.set_cons_zero, List.set_cons_succ]
        refine take_at (i := 1) (v := ?_) (some 25) rfl (by kernel_rfl) (by kernel_rfl) (by kernel_rfl) rfl (fun _ _ _ h => h) (Or.inl ⟨by rfl, ?_⟩) hS ?_
        rotate_left
        · (intro wq hq; go_simp); first | done | with_reducible rfl
        try simp only [Act.put, List.setIfInBounds_toArray, List.set_cons_zero, List.set_cons_succ]
        refine take_at (i := 2) (v := ?_) (some 26) rfl (by kernel_rfl) (by kernel_rfl) (by kernel_rfl) rfl (fun _ _ _ h => h) (Or.inl ⟨by rfl, ?_⟩) hS ?_
        rotate_left
        · (intro wq hq; go_simp); first | done | with_reducible rfl
        try simp only [Act.put, List.setIfInBounds_toArray, List.set_cons_zero, List.set_cons_succ]
        refine take_at (i := 3) (v := ?_) (some 27) rfl (by kernel_rfl) (by kernel_rfl) (by kernel_rfl) rfl (fun _ _ _ h => h) (Or.inl ⟨by rfl, ?_⟩) hS ?_
        rotate_left
        · (intro wq hq; go_simp); first | done | with_reducible rfl
        try simp only [Act.put, List.setIfInBounds_toArray, List.set_cons_zero, List.set_cons_succ]
        refine take_at (i := 4) (v := ?_) (some 28) rfl (by kernel_rfl) (by kernel_rfl) (by kernel_rfl) rfl (fun _ _ _ h => h) (Or.inl ⟨by rfl, ?_⟩) hS ?_
        rotate_left
        · (intro wq hq; go_simp); first | done | with_reducible rfl
        try simp only [Act.put, List.setIfInBounds_toArray, List.set_cons_zero, List.set_cons_succ]
        refine take_at (i := 5) (v := ?_) (some 29) rfl (by kernel_rfl) (by kernel_rfl) (by kernel_rfl) rfl (fun _ _ _ h => h) (Or.inl ⟨by rfl, ?_⟩) hS ?_
        rotate_left
        · (intro wq hq; go_simp); first | done | with_reducible rfl
        try simp only [Act.put, List.setIfInBounds_toArray, List.set_cons_zero, List.set_cons_succ]
        refine take_at (i := 6) (v := ?_) (some 30) rfl (by kernel_rfl) (by kernel_rfl) (by kernel_rfl) rfl (fun _ _ _ h => h) (Or.inl ⟨by rfl, ?_⟩) hS ?_
        rotate_left
        · (intro wq hq; go_simp); first | done | with_reducible rfl
        try simp only [Act.put, List.setIfInBounds_toArray, List.set_cons_zero, List.set_cons_succ]
        refine wpAnyH_ready (rs := [7]) (by kernel_rfl) (by simp) ?_
        refine AllReadyH.cons rfl (fun K hK => ?_) AllReadyH.nil
        go_simp
        have hal : Below w.heap.size w (wr.drew.alloc (.cells #[.int .u8 92, .int .u8 x1, .int .u8 x2] 5)) := hbel.drew.alloc hsz _
        refine hK.out _ _ (hal) (fun hS0 => ?_)
        clear hK K
        try simp only [Act.put, List.setIfInBounds_toArray, List.set_cons_zero, List.set_cons_succ]
        clear hS
        have hS := hS0
        clear hS0
        refine wpAnyH_ready (rs := [8]) (by kernel_rfl) (by simp) ?_
        refine AllReadyH.cons rfl (fun K hK => ?_) AllReadyH.nil
        refine want (by kernel_rfl) ?_
        refine wp_append_ow (some 32) rfl (.tmp 24) (.tmp 31) rfl w.heap.size _ bs rfl (hown.drew.alloc _) _ 3 _ [92, x1, x2] rfl (BV.three _ 92 x1 x2 (by omega) (by omega) (by omega)) (by omega) hal.size ?_
        intro v2 w2 ho2 hb2
        have hw2 : Below w.heap.size w w2 := hal.trans hb2
        refine hK.out _ _ (hw2) (fun hS0 => ?_)
        clear hK K
        try simp only [Act.put, List.setIfInBounds_toArray, List.set_cons_zero, List.set_cons_succ]
        clear hS
        have hS := hS0
        clear hS0
        refine take_at (i := 9) (v := ?_) (some 3) rfl (by kernel_rfl) (by kernel_rfl) (by kernel_rfl) rfl (fun _ _ _ h => h) (Or.inl ⟨by rfl, ?_⟩) hS ?_
        rotate_left
        · (intro wq hq; go_simp); first | done | with_reducible rfl
        try simp only [Act.put, List.setIfInBounds_toArray, List.set_cons_zero, List.set_cons_succ]
        refine wpAnyH_done (by kernel_rfl) (NoPanic.normal ?_) _
        clear hS hal hb2
        go_wp2_with fail
        go_roundw
        case rel =>
          refine ⟨k + 1, bs ++ [92, x1, x2], by omega, by go_num, ?_, by simp; omega, ho2, hw2⟩
          show _ = _
          rw [HS.out, escL_app, HB.out]; simp [escL, HE.out]
        case measure => simp [intOf]; omega
      · have hpl : decide (¬ (c < 32 ∨ 126 < c ∨ c = 34 ∨ c = 92)) = true := by simp [hp]
        have HE : Hid (esc c = [c]) := Lib.hid (esc_plain hp)
        go_wp2_with (first | (go_at_call 46; refine (plain_any c _ hcb.1 hcb.2).mono ?_; rw [hpl]; rintro e w' ⟨rfl, rfl⟩) | (at_builtin; refine append_ow rfl (.tmp 20) (.tmp 22) rfl w.heap.size _ bs rfl (hown.alloc _) _ 1 _ [c] rfl (BV.one1 _ c hcb.1 hcb.2) (by omega) (by rw [heap_alloc]; omega) ?_; intro v2 w2 ho2 hb2))
        go_roundw
        case rel =>
          refine ⟨k + 1, bs ++ [c], by omega, by go_num, ?_, by simp; omega, ho2, (hbel.alloc hsz _).trans hb2⟩
          show _ = _
          rw [HS.out, escL_app, HB.out]; simp [escL, HE.out]
        case measure => simp [intOf]; omega
    · obtain rfl : k = s.size := by omega
      have hbb : ∀ z ∈ bs ++ [34], 0 ≤ z ∧ z ≤ 255 := by
        have h := escL_seen (nums_bytes s)
        rw [HB.out, ← nums_len s, List.take_length]
        intro z hz
        simp only [List.cons_append, List.mem_cons, List.mem_append, List.not_mem_nil, or_false] at hz
        rcases hz with hz | hz | hz
        · omega
        · have := h z hz; omega
        · omega
      have he : Hid (bs ++ [34] = textS (nums s)) := Lib.hid (by rw [HB.out, ← nums_len s, List.take_length]; rfl)
      generalize hN : (bs ++ [34]).length = N
      have hN' : Hid ((bs ++ [34]).length = N) := hN
      clear hN
      go_wp2_with (at_builtin; refine append_ow rfl (.tmp 34) (.tmp 35) rfl w.heap.size _ bs rfl (hown.alloc _) _ 1 _ [34] rfl (BV.one1 _ 34 (by omega) (by omega)) (by omega) (by rw [heap_alloc]; omega) ?_; intro v2 w2 ho2 hb2; obtain ⟨aO, cO, rfl, -, -, hO2, -⟩ := id (ho2.bvn hbb N hN'.out); have hcv := conv_any hO2 cO)
      go_ret
      exact ⟨by rw [← he.out]; rfl, (hbel.alloc hsz _).trans hb2⟩
end Go.Proofs.YtoebghfjpkkegaaDoor
