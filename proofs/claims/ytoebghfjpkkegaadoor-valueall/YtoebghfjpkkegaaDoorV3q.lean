/- The document's own answers for layer 3: how a value is written. -/
import Derived.Test.YtoebghfjpkkegaaDoorV3n
namespace Go.Proofs.YtoebghfjpkkegaaDoor
open Go.ChangeShapes Go.WideShapes Go.ChangeAt Go.RowKit
set_option linter.unusedVariables false

theorem nums_app (a b : ByteArray) : nums (a ++ b) = nums a ++ nums b := by
  rw [nums, Joins.data_append, List.map_append]; rfl
theorem ten_slice (d : Int) (h0 : 0 ≤ d) (h1 : d < 10) (w : World) : (Instr.slice 9 (.string { data := #[48, 49, 50, 51, 52, 53, 54, 55, 56, 57] }) (some (.int .u64 d)) (some (.int .u64 (d + 1))) none).run Tryd.prog w = .ok (.string (strOfNums [48 + d])) w := by
  have h : ∀ k : Fin 10, (Instr.slice 9 (.string { data := #[48, 49, 50, 51, 52, 53, 54, 55, 56, 57] }) (some (.int .u64 ((k : Nat) : Int))) (some (.int .u64 (((k : Nat) : Int) + 1))) none).run Tryd.prog w = .ok (.string (strOfNums [48 + ((k : Nat) : Int)])) w := by
    intro k
    match k with
    | ⟨0, _⟩ | ⟨1, _⟩ | ⟨2, _⟩ | ⟨3, _⟩ | ⟨4, _⟩ | ⟨5, _⟩ | ⟨6, _⟩ | ⟨7, _⟩ | ⟨8, _⟩ | ⟨9, _⟩ => rfl
    | ⟨n + 10, h⟩ => omega
  have := h ⟨d.toNat, by omega⟩
  simpa [show ((d.toNat : Nat) : Int) = d by omega] using this
set_option maxHeartbeats 1000000 in
theorem rdigits_any (X : Nat) (w : World) (hX : X < 18446744073709551616) :
    Calls Tryd.prog 36 #[.int .u64 (X : Int)] w fun e w' => e = .returned (.string (strOfNums (digits X))) ∧ w' = w := by
  go_enter Tryd.func36, Tryd.ntmps36
  go_wp2
  go_loop [0, 3, 4] (fun a s i => ∃ (j y : Nat) (T : ByteArray), j ≤ 20 ∧ a = .int .u64 (y : Int) ∧ s = .string T ∧ i = .int .i64 (j : Int) ∧ y < 18446744073709551616 ∧ T.size ≤ j ∧ Hid (digits X = digits y ++ nums T ∧ (j = 0 ∨ 1 ≤ y) ∧ y < 10 ^ (20 - j))) (fun _ _ i => 20 - (intOf i).toNat)
  case atStart => exact ⟨0, X, ⟨#[]⟩, by omega, rfl, rfl, rfl, hX, Nat.le_refl _, Lib.hid ⟨by simp [nums], .inl rfl, by omega⟩⟩
  case round =>
    obtain ⟨j, y, T, hj, rfl, rfl, rfl, hy, hT, HD⟩ := hrel
    by_cases hlt : j < 20
    · have hsl := ten_slice ((y : Int) % 10) (by omega) (by omega)
      have hD : nums (strOfNums [48 + (y : Int) % 10]) = [48 + (y : Int) % 10] := nums_str (by simp; omega)
      generalize strOfNums [48 + (y : Int) % 10] = D at *
      have hD1 : D.size = 1 := by rw [← nums_len, hD]; rfl
      have hDT : ¬ 9223372036854775807 < D.size + T.size := by omega
      have hDT2 : (D ++ T).size ≤ j + 1 := by rw [ByteArray.size_append]; omega
      have HN := Lib.hid hD
      have HD2 := Lib.hid hDT2
      clear hD hD1 hDT2
      by_cases hs : y < 10
      · have hq : (y : Int) / 10 = 0 := by omega
        go_wp2_with fail
        go_ret
        refine ⟨ret_str ?_, rfl⟩
        apply nums_inj
        obtain ⟨h1, h2, h3⟩ := HD.out
        rw [nums_app, HN.out, nums_str (fun z hz => by have := digits_bytes X z hz; omega), h1, digits_small hs]
        congr 2; omega
      · have hq : ¬ (y : Int) / 10 = 0 := by omega
        have hq' : ((y : Int) / 10 == 0) = false := by simp; omega
        go_wp2_with fail
        go_round
        case rel =>
          refine ⟨j + 1, y / 10, D ++ T, by omega, by simp, rfl, by go_num, by omega, HD2.out, Lib.hid ⟨?_, .inr (by omega), ?_⟩⟩
          · rw [nums_app, HN.out, HD.out.1, digits_big hs]; simp
          · have h3 := HD.out.2.2
            rw [show 20 - j = (20 - (j + 1)) + 1 from by omega, Nat.pow_succ] at h3
            omega
        case measure => (simp [intOf]; omega)
    · exfalso
      obtain rfl : j = 20 := by omega
      have := HD.out
      simp at this
      omega
theorem hex_slice (x : Int) (h0 : 0 ≤ x) (h1 : x < 16) (w : World) : (Instr.slice 9 (.string { data := #[48, 49, 50, 51, 52, 53, 54, 55, 56, 57, 97, 98, 99, 100, 101, 102] }) (some (.int .u8 x)) (some (.int .u8 (x + 1))) none).run Tryd.prog w = .ok (.string (strOfNums [hexd x])) w := by
  have h : ∀ k : Fin 16, (Instr.slice 9 (.string { data := #[48, 49, 50, 51, 52, 53, 54, 55, 56, 57, 97, 98, 99, 100, 101, 102] }) (some (.int .u8 ((k : Nat) : Int))) (some (.int .u8 (((k : Nat) : Int) + 1))) none).run Tryd.prog w = .ok (.string (strOfNums [hexd ((k : Nat) : Int)])) w := by
    intro k
    match k with
    | ⟨0, _⟩ | ⟨1, _⟩ | ⟨2, _⟩ | ⟨3, _⟩ | ⟨4, _⟩ | ⟨5, _⟩ | ⟨6, _⟩ | ⟨7, _⟩ | ⟨8, _⟩ | ⟨9, _⟩ | ⟨10, _⟩ | ⟨11, _⟩ | ⟨12, _⟩ | ⟨13, _⟩ | ⟨14, _⟩ | ⟨15, _⟩ => rfl
    | ⟨n + 16, h⟩ => omega
  have := h ⟨x.toNat, by omega⟩
  simpa [show ((x.toNat : Nat) : Int) = x by omega] using this
theorem one_slice (s : ByteArray) (k : Nat) (hk : k < s.size) (W : World) : (Instr.slice 9 (.string s) (some (.int .i64 (k : Int))) (some (.int .i64 ((k : Int) + 1))) none).run Tryd.prog W = .ok (.string (s.extract k (k + 1))) W := by
  rw [run_slice_string W 9 s .i64 .i64 (k : Int) ((k : Int) + 1) Tryd.underlying9 (by omega) (by omega) (by omega)]
  rw [show ((k : Int)).toNat = k by omega, show ((k : Int) + 1).toNat = k + 1 by omega]
theorem one_nums (s : ByteArray) (k : Nat) (hk : k < s.size) : nums (s.extract k (k + 1)) = [(nums s).getD k 0] := by
  have h : (nums (s.extract k (k + 1))) = ((nums s).drop k).take (k + 1 - k) := by
    have h : (s.extract k (k + 1)).data.toList = (s.data.toList.drop k).take (k + 1 - k) := by
      rw [ByteArray.data_extract, Array.toList_extract]
    rw [nums, h, nums, List.map_take, List.map_drop]
  rw [h, drop_at s k hk, show k + 1 - k = 1 from by omega]; rfl
set_option maxHeartbeats 4000000 in
theorem rtext_any (t n : Int) (s : ByteArray) (w : World) (h0 : -9223372036854775808 ≤ n) (h1 : n ≤ 9223372036854775807) :
    Calls Tryd.prog 21 #[.int .i64 t, VV n s] w fun e w' => e = .returned (.string (strOfNums (textL t n s))) ∧ Below w.heap.size w w' := by
  go_enter Tryd.func21, Tryd.ntmps21
  go_wp2_with fail
  refine (rfits_any t n s _).mono ?_
  rintro e w1 ⟨rfl, hb⟩
  have hx := (Bx.new w n s 23).below hb
  have hb' := after1 hb
  clear hb
  obtain ⟨c0, c1⟩ := hx
  cases hf : fitsB t n s
  · have hn := Lib.hid (textL_not hf)
    clear hf
    go_wp2_with fail
    go_ret
    exact ⟨ret_str (by rw [hn.out]; rfl), hb'⟩
  · have hn := Lib.hid (textL_is hf)
    have hf' := Lib.hid hf
    clear hf
    by_cases h1 : t = 1
    · subst h1
      rw [if_pos rfl, intS] at hn
      by_cases hneg : n < 0
      · rw [if_pos hneg] at hn
        have hw : IntKind.u64.wrap (-IntKind.u64.wrap n) = ((n.natAbs : Nat) : Int) := by rw [IntKind.wrap_u64, IntKind.wrap_u64]; omega
        have hlen := digits_len20 (x := n.natAbs) (by omega)
        have hsz : (strOfNums (digits n.natAbs)).size ≤ 20 := by rw [← nums_len, nums_str (fun z hz => by have := digits_bytes _ z hz; omega)]; exact hlen
        go_wp2_with (go_at_call 36; refine (rdigits_any n.natAbs _ (by omega)).mono ?_; rintro e w1 ⟨rfl, rfl⟩)
        go_ret
        refine ⟨ret_str ?_, hb'⟩
        apply nums_inj
        have hdb : ∀ z ∈ digits n.natAbs, 0 ≤ z ∧ z ≤ 255 := fun z hz => by have := digits_bytes _ z hz; omega
        rw [hn.out, nums_app, nums_str hdb, nums_str (by intro z hz; rcases List.mem_cons.1 hz with rfl | hz; (· omega); (· exact hdb z hz))]
        rfl
      · rw [if_neg hneg] at hn
        obtain ⟨u, hu, hun⟩ : ∃ u : Nat, IntKind.u64.wrap n = (u : Int) ∧ n.toNat = u := ⟨n.toNat, by rw [IntKind.wrap_u64]; omega, rfl⟩
        have hul : u < 18446744073709551616 := by omega
        rw [hun] at hn
        clear hun
        go_wp2_with (go_at_call 36; refine (rdigits_any u _ hul).mono ?_; rintro e w1 ⟨rfl, rfl⟩)
        go_ret
        exact ⟨ret_str (by rw [hn.out]), hb'⟩
    · rw [if_neg h1] at hn
      by_cases h2 : t = 2
      · subst h2
        rw [if_pos rfl] at hn
        obtain ⟨u, hu, hul⟩ : ∃ u : Nat, IntKind.u64.wrap n = (u : Int) ∧ u < 18446744073709551616 := ⟨(IntKind.u64.wrap n).toNat, by rw [IntKind.wrap_u64]; omega, by rw [IntKind.wrap_u64]; omega⟩
        have hq := Lib.hid hu
        go_wp2_with (go_at_call 36; refine (rdigits_any u _ hul).mono ?_; rintro e w1 ⟨rfl, rfl⟩)
        go_ret
        exact ⟨ret_str (by rw [hn.out, hq.out]; rfl), hb'⟩
      · rw [if_neg h2] at hn
        have ht3 : t = 3 := by have := hf'.out; unfold fitsB at this; simp [h1, h2] at this; exact this.1
        subst ht3
        have hs := fits_size hf'.out
        go_wp2_with fail
        go_loopw [6, 8] (fun o i wr => ∃ (k : Nat) (T : ByteArray), k ≤ s.size ∧ i = .int .i64 (k : Int) ∧ o = .string T ∧ T.size ≤ 1 + 3 * k ∧ Hid (nums T = 34 :: escL ((nums s).take k)) ∧ Bx wr w.heap.size n s ∧ Below w.heap.size w wr) (fun _ i _ => s.size - (intOf i).toNat)
        case atStart => exact ⟨0, { data := #[34] }, by omega, rfl, rfl, by decide, Lib.hid rfl, ⟨c0, c1⟩, hb'⟩
        case round =>
          obtain ⟨k, T, hk, rfl, rfl, hT, HT, hbx, hbel⟩ := hrel
          clear c0 c1
          obtain ⟨c0, c1⟩ := id hbx
          by_cases hlt : k < s.size
          · have hix := index_str s k hlt
            have hcb := nums_bytes s ((nums s).getD k 0) (by rw [List.getD_eq_getElem?_getD, List.getElem?_eq_getElem (by rw [nums_len]; exact hlt)]; simp)
            have HS : Hid ((nums s).take (k + 1) = (nums s).take k ++ [(nums s).getD k 0]) := Lib.hid (nums_snoc s k hlt)
            have hsl := one_slice s k hlt
            have hD := one_nums s k hlt
            generalize (nums s).getD k 0 = c at *
            generalize s.extract k (k + 1) = D at *
            by_cases hp : c < 32 ∨ 126 < c ∨ c = 34 ∨ c = 92
            · have HE : Hid (esc c = [92, hexd (c / 16), hexd (c % 16)]) := Lib.hid (esc_hex hp)
              clear hsl hD
              have hx1 := hex_slice (c / 16) (by omega) (by omega)
              have hx2 := hex_slice (c % 16) (by omega) (by omega)
              have hs1 := hexd_seen (x := c / 16) (by omega)
              have hs2 := hexd_seen (x := c % 16) (by omega)
              have hD1 : nums (strOfNums [hexd (c / 16)]) = [hexd (c / 16)] := nums_str (by simp; omega)
              have hD2 : nums (strOfNums [hexd (c % 16)]) = [hexd (c % 16)] := nums_str (by simp; omega)
              generalize strOfNums [hexd (c / 16)] = D1 at *
              generalize strOfNums [hexd (c % 16)] = D2 at *
              have z1 : D1.size = 1 := by rw [← nums_len, hD1]; rfl
              have z2 : D2.size = 1 := by rw [← nums_len, hD2]; rfl
              have HN1 := Lib.hid hD1
              have HN2 := Lib.hid hD2
              have HTD : Hid ((((T ++ ({ data := #[92] } : ByteArray)) ++ D1) ++ D2).size ≤ 1 + 3 * (k + 1)) := Lib.hid (by rw [ByteArray.size_append, ByteArray.size_append, ByteArray.size_append, z1, z2]; show T.size + 1 + 1 + 1 ≤ _; omega)
              have b1 : ¬ (9223372036854775807 < T.size + 1) := by omega
              have b2 : ¬ (9223372036854775807 < T.size + 1 + 1) := by omega
              have b3 : ¬ (9223372036854775807 < T.size + 1 + 1 + 1) := by omega
              have g0 : c.tdiv 16 = c / 16 := Int.tdiv_eq_ediv_of_nonneg hcb.1
              have g3 : c.tmod 16 = c % 16 := Int.tmod_eq_emod_of_nonneg hcb.1
              have g1 : IntKind.u8.wrap (c / 16) = c / 16 := by rw [IntKind.wrap_u8]; omega
              have g2 : IntKind.u8.wrap (c / 16 + 1) = c / 16 + 1 := by rw [IntKind.wrap_u8]; omega
              have g4 : IntKind.u8.wrap (c % 16) = c % 16 := by rw [IntKind.wrap_u8]; omega
              have g5 : IntKind.u8.wrap (c % 16 + 1) = c % 16 + 1 := by rw [IntKind.wrap_u8]; omega
              clear hD1 hD2 hs1 hs2
              rcases hp with p | p | p | p
              · have p1 : decide (c < 32) = true := decide_eq_true p
                go_wp2_with fail
                refine wp_region_noPanic ?_
                refine wp_region_held_drew (S := fun W => Bx W w.heap.size n s ∧ Below w.heap.size w W) (by kernel_rfl) (⟨hbx, hbel.drew⟩) (fun hS => ?_)
                refine take_at (i := 0) (v := ?_) (some 59) rfl (by kernel_rfl) (by kernel_rfl) (by kernel_rfl) rfl (fun _ _ _ h => h) (Or.inl ⟨by rfl, ?_⟩) hS ?_
                rotate_left
                · (intro wq hq; go_simp); first | done | with_reducible rfl
                try simp only [Act.put, List.setIfInBounds_toArray, List.set_cons_zero, List.set_cons_succ]
                refine take_at (i := 1) (v := ?_) (some 60) rfl (by kernel_rfl) (by kernel_rfl) (by kernel_rfl) rfl (fun _ _ _ h => h) (Or.inl ⟨by rfl, ?_⟩) hS ?_
                rotate_left
                · (intro wq hq; go_simp); first | done | with_reducible rfl
                try simp only [Act.put, List.setIfInBounds_toArray, List.set_cons_zero, List.set_cons_succ]
                refine take_at (i := 2) (v := ?_) (some 61) rfl (by kernel_rfl) (by kernel_rfl) (by kernel_rfl) rfl (fun _ _ _ h => h) (Or.inl ⟨by rfl, ?_⟩) hS ?_
                rotate_left
                · (intro wq hq; go_simp); first | done | with_reducible rfl
                try simp only [Act.put, List.setIfInBounds_toArray, List.set_cons_zero, List.set_cons_succ]
                refine take_at (i := 3) (v := ?_) (some 62) rfl (by kernel_rfl) (by kernel_rfl) (by kernel_rfl) rfl (fun _ _ _ h => h) (Or.inl ⟨by rfl, ?_⟩) hS ?_
                rotate_left
                · (intro wq hq; go_simp); first | done | with_reducible rfl
                try simp only [Act.put, List.setIfInBounds_toArray, List.set_cons_zero, List.set_cons_succ]
                refine take_at (i := 4) (v := ?_) (some 63) rfl (by kernel_rfl) (by kernel_rfl) (by kernel_rfl) rfl (fun _ _ _ h => h) (Or.inl ⟨by rfl, ?_⟩) hS ?_
                rotate_left
                · (intro wq hq; go_simp); first | done | with_reducible rfl
                try simp only [Act.put, List.setIfInBounds_toArray, List.set_cons_zero, List.set_cons_succ]
                refine take_at (i := 5) (v := ?_) (some 64) rfl (by kernel_rfl) (by kernel_rfl) (by kernel_rfl) rfl (fun _ _ _ h => h) (Or.inl ⟨by rfl, ?_⟩) hS ?_
                rotate_left
                · (intro wq hq; go_simp); first | done | with_reducible rfl
                try simp only [Act.put, List.setIfInBounds_toArray, List.set_cons_zero, List.set_cons_succ]
                refine take_at (i := 6) (v := ?_) (some 65) rfl (by kernel_rfl) (by kernel_rfl) (by kernel_rfl) rfl (fun _ _ _ h => h) (Or.inl ⟨by rfl, ?_⟩) hS ?_
                rotate_left
                · (intro wq hq; go_simp); first | done | with_reducible rfl
                try simp only [Act.put, List.setIfInBounds_toArray, List.set_cons_zero, List.set_cons_succ]
                refine take_at (i := 7) (v := ?_) (some 66) rfl (by kernel_rfl) (by kernel_rfl) (by kernel_rfl) rfl (fun _ _ _ h => h) (Or.inl ⟨by rfl, ?_⟩) hS ?_
                rotate_left
                · (intro wq hq; go_simp); first | done | with_reducible rfl
                try simp only [Act.put, List.setIfInBounds_toArray, List.set_cons_zero, List.set_cons_succ]
                refine take_at (i := 8) (v := ?_) (some 67) rfl (by kernel_rfl) (by kernel_rfl) (by kernel_rfl) rfl (fun _ _ _ h => h) (Or.inl ⟨by rfl, ?_⟩) hS ?_
                rotate_left
                · (intro wq hq; go_simp); first | done | with_reducible rfl
                try simp only [Act.put, List.setIfInBounds_toArray, List.set_cons_zero, List.set_cons_succ]
                refine take_at (i := 9) (v := ?_) (some 68) rfl (by kernel_rfl) (by kernel_rfl) (by kernel_rfl) rfl (fun _ _ _ h => h) (Or.inl ⟨by rfl, ?_⟩) hS ?_
                rotate_left
                · (intro wq hq; go_simp); first | done | with_reducible rfl
                try simp only [Act.put, List.setIfInBounds_toArray, List.set_cons_zero, List.set_cons_succ]
                refine take_at (i := 10) (v := ?_) (some 69) rfl (by kernel_rfl) (by kernel_rfl) (by kernel_rfl) rfl (fun _ _ _ h => h) (Or.inl ⟨by rfl, ?_⟩) hS ?_
                rotate_left
                · (intro wq hq; go_simp); first | done | with_reducible rfl
                try simp only [Act.put, List.setIfInBounds_toArray, List.set_cons_zero, List.set_cons_succ]
                refine take_at (i := 11) (v := ?_) (some 70) rfl (by kernel_rfl) (by kernel_rfl) (by kernel_rfl) rfl (fun _ _ _ h => h) (Or.inl ⟨by rfl, ?_⟩) hS ?_
                rotate_left
                · (intro wq hq; go_simp); first | done | with_reducible rfl
                try simp only [Act.put, List.setIfInBounds_toArray, List.set_cons_zero, List.set_cons_succ]
                refine take_at (i := 12) (v := ?_) (some 71) rfl (by kernel_rfl) (by kernel_rfl) (by kernel_rfl) rfl (fun _ _ _ h => h) (Or.inl ⟨by rfl, ?_⟩) hS ?_
                rotate_left
                · (intro wq hq; go_simp); first | done | with_reducible rfl
                try simp only [Act.put, List.setIfInBounds_toArray, List.set_cons_zero, List.set_cons_succ]
                refine take_at (i := 13) (v := ?_) (some 72) rfl (by kernel_rfl) (by kernel_rfl) (by kernel_rfl) rfl (fun _ _ _ h => h) (Or.inl ⟨by rfl, ?_⟩) hS ?_
                rotate_left
                · (intro wq hq; go_simp); first | done | with_reducible rfl
                try simp only [Act.put, List.setIfInBounds_toArray, List.set_cons_zero, List.set_cons_succ]
                refine take_at (i := 14) (v := ?_) (some 73) rfl (by kernel_rfl) (by kernel_rfl) (by kernel_rfl) rfl (fun _ _ _ h => h) (Or.inl ⟨by rfl, ?_⟩) hS ?_
                rotate_left
                · (intro wq hq; go_simp); first | done | with_reducible rfl
                try simp only [Act.put, List.setIfInBounds_toArray, List.set_cons_zero, List.set_cons_succ]
                refine take_at (i := 15) (v := ?_) (some 74) rfl (by kernel_rfl) (by kernel_rfl) (by kernel_rfl) rfl (fun _ _ _ h => h) (Or.inl ⟨by rfl, ?_⟩) hS ?_
                rotate_left
                · (intro wq hq; go_simp); first | done | with_reducible rfl
                try simp only [Act.put, List.setIfInBounds_toArray, List.set_cons_zero, List.set_cons_succ]
                refine take_at (i := 16) (v := ?_) (some 75) rfl (by kernel_rfl) (by kernel_rfl) (by kernel_rfl) rfl (fun _ _ _ h => h) (Or.inl ⟨by rfl, ?_⟩) hS ?_
                rotate_left
                · (intro wq hq; go_simp); first | done | with_reducible rfl
                try simp only [Act.put, List.setIfInBounds_toArray, List.set_cons_zero, List.set_cons_succ]
                refine take_at (i := 17) (v := ?_) (some 76) rfl (by kernel_rfl) (by kernel_rfl) (by kernel_rfl) rfl (fun _ _ _ h => h) (Or.inl ⟨by rfl, ?_⟩) hS ?_
                rotate_left
                · (intro wq hq; go_simp); first | done | with_reducible rfl
                try simp only [Act.put, List.setIfInBounds_toArray, List.set_cons_zero, List.set_cons_succ]
                refine take_at (i := 18) (v := ?_) (some 6) rfl (by kernel_rfl) (by kernel_rfl) (by kernel_rfl) rfl (fun _ _ _ h => h) (Or.inl ⟨by rfl, ?_⟩) hS ?_
                rotate_left
                · (intro wq hq; go_simp); first | done | with_reducible rfl
                try simp only [Act.put, List.setIfInBounds_toArray, List.set_cons_zero, List.set_cons_succ]
                refine wpAnyH_done (by kernel_rfl) (NoPanic.normal ?_) _
                go_wp2_with fail
                go_roundw
                case rel => exact ⟨k + 1, _, by omega, by go_num, rfl, HTD.out, Lib.hid (by rw [nums_app, nums_app, nums_app, HT.out, HN1.out, HN2.out, HS.out, escL_app]; simp [escL, HE.out]; rfl), hbx, hbel.drew⟩
                case measure => (simp [intOf]; omega)
              · have p1 : ¬ c < 32 := by omega
                go_wp2_with fail
                refine wp_region_noPanic ?_
                refine wp_region_held_drew (S := fun W => Bx W w.heap.size n s ∧ Below w.heap.size w W) (by kernel_rfl) (⟨hbx, hbel.drew⟩) (fun hS => ?_)
                refine take_at (i := 0) (v := ?_) (some 59) rfl (by kernel_rfl) (by kernel_rfl) (by kernel_rfl) rfl (fun _ _ _ h => h) (Or.inl ⟨by rfl, ?_⟩) hS ?_
                rotate_left
                · (intro wq hq; go_simp); first | done | with_reducible rfl
                try simp only [Act.put, List.setIfInBounds_toArray, List.set_cons_zero, List.set_cons_succ]
                refine take_at (i := 1) (v := ?_) (some 60) rfl (by kernel_rfl) (by kernel_rfl) (by kernel_rfl) rfl (fun _ _ _ h => h) (Or.inl ⟨by rfl, ?_⟩) hS ?_
                rotate_left
                · (intro wq hq; go_simp); first | done | with_reducible rfl
                try simp only [Act.put, List.setIfInBounds_toArray, List.set_cons_zero, List.set_cons_succ]
                refine take_at (i := 2) (v := ?_) (some 61) rfl (by kernel_rfl) (by kernel_rfl) (by kernel_rfl) rfl (fun _ _ _ h => h) (Or.inl ⟨by rfl, ?_⟩) hS ?_
                rotate_left
                · (intro wq hq; go_simp); first | done | with_reducible rfl
                try simp only [Act.put, List.setIfInBounds_toArray, List.set_cons_zero, List.set_cons_succ]
                refine take_at (i := 3) (v := ?_) (some 62) rfl (by kernel_rfl) (by kernel_rfl) (by kernel_rfl) rfl (fun _ _ _ h => h) (Or.inl ⟨by rfl, ?_⟩) hS ?_
                rotate_left
                · (intro wq hq; go_simp); first | done | with_reducible rfl
                try simp only [Act.put, List.setIfInBounds_toArray, List.set_cons_zero, List.set_cons_succ]
                refine take_at (i := 4) (v := ?_) (some 63) rfl (by kernel_rfl) (by kernel_rfl) (by kernel_rfl) rfl (fun _ _ _ h => h) (Or.inl ⟨by rfl, ?_⟩) hS ?_
                rotate_left
                · (intro wq hq; go_simp); first | done | with_reducible rfl
                try simp only [Act.put, List.setIfInBounds_toArray, List.set_cons_zero, List.set_cons_succ]
                refine take_at (i := 5) (v := ?_) (some 64) rfl (by kernel_rfl) (by kernel_rfl) (by kernel_rfl) rfl (fun _ _ _ h => h) (Or.inl ⟨by rfl, ?_⟩) hS ?_
                rotate_left
                · (intro wq hq; go_simp); first | done | with_reducible rfl
                try simp only [Act.put, List.setIfInBounds_toArray, List.set_cons_zero, List.set_cons_succ]
                refine take_at (i := 6) (v := ?_) (some 65) rfl (by kernel_rfl) (by kernel_rfl) (by kernel_rfl) rfl (fun _ _ _ h => h) (Or.inl ⟨by rfl, ?_⟩) hS ?_
                rotate_left
                · (intro wq hq; go_simp); first | done | with_reducible rfl
                try simp only [Act.put, List.setIfInBounds_toArray, List.set_cons_zero, List.set_cons_succ]
                refine take_at (i := 7) (v := ?_) (some 66) rfl (by kernel_rfl) (by kernel_rfl) (by kernel_rfl) rfl (fun _ _ _ h => h) (Or.inl ⟨by rfl, ?_⟩) hS ?_
                rotate_left
                · (intro wq hq; go_simp); first | done | with_reducible rfl
                try simp only [Act.put, List.setIfInBounds_toArray, List.set_cons_zero, List.set_cons_succ]
                refine take_at (i := 8) (v := ?_) (some 67) rfl (by kernel_rfl) (by kernel_rfl) (by kernel_rfl) rfl (fun _ _ _ h => h) (Or.inl ⟨by rfl, ?_⟩) hS ?_
                rotate_left
                · (intro wq hq; go_simp); first | done | with_reducible rfl
                try simp only [Act.put, List.setIfInBounds_toArray, List.set_cons_zero, List.set_cons_succ]
                refine take_at (i := 9) (v := ?_) (some 68) rfl (by kernel_rfl) (by kernel_rfl) (by kernel_rfl) rfl (fun _ _ _ h => h) (Or.inl ⟨by rfl, ?_⟩) hS ?_
                rotate_left
                · (intro wq hq; go_simp); first | done | with_reducible rfl
                try simp only [Act.put, List.setIfInBounds_toArray, List.set_cons_zero, List.set_cons_succ]
                refine take_at (i := 10) (v := ?_) (some 69) rfl (by kernel_rfl) (by kernel_rfl) (by kernel_rfl) rfl (fun _ _ _ h => h) (Or.inl ⟨by rfl, ?_⟩) hS ?_
                rotate_left
                · (intro wq hq; go_simp); first | done | with_reducible rfl
                try simp only [Act.put, List.setIfInBounds_toArray, List.set_cons_zero, List.set_cons_succ]
                refine take_at (i := 11) (v := ?_) (some 70) rfl (by kernel_rfl) (by kernel_rfl) (by kernel_rfl) rfl (fun _ _ _ h => h) (Or.inl ⟨by rfl, ?_⟩) hS ?_
                rotate_left
                · (intro wq hq; go_simp); first | done | with_reducible rfl
                try simp only [Act.put, List.setIfInBounds_toArray, List.set_cons_zero, List.set_cons_succ]
                refine take_at (i := 12) (v := ?_) (some 71) rfl (by kernel_rfl) (by kernel_rfl) (by kernel_rfl) rfl (fun _ _ _ h => h) (Or.inl ⟨by rfl, ?_⟩) hS ?_
                rotate_left
                · (intro wq hq; go_simp); first | done | with_reducible rfl
                try simp only [Act.put, List.setIfInBounds_toArray, List.set_cons_zero, List.set_cons_succ]
                refine take_at (i := 13) (v := ?_) (some 72) rfl (by kernel_rfl) (by kernel_rfl) (by kernel_rfl) rfl (fun _ _ _ h => h) (Or.inl ⟨by rfl, ?_⟩) hS ?_
                rotate_left
                · (intro wq hq; go_simp); first | done | with_reducible rfl
                try simp only [Act.put, List.setIfInBounds_toArray, List.set_cons_zero, List.set_cons_succ]
                refine take_at (i := 14) (v := ?_) (some 73) rfl (by kernel_rfl) (by kernel_rfl) (by kernel_rfl) rfl (fun _ _ _ h => h) (Or.inl ⟨by rfl, ?_⟩) hS ?_
                rotate_left
                · (intro wq hq; go_simp); first | done | with_reducible rfl
                try simp only [Act.put, List.setIfInBounds_toArray, List.set_cons_zero, List.set_cons_succ]
                refine take_at (i := 15) (v := ?_) (some 74) rfl (by kernel_rfl) (by kernel_rfl) (by kernel_rfl) rfl (fun _ _ _ h => h) (Or.inl ⟨by rfl, ?_⟩) hS ?_
                rotate_left
                · (intro wq hq; go_simp); first | done | with_reducible rfl
                try simp only [Act.put, List.setIfInBounds_toArray, List.set_cons_zero, List.set_cons_succ]
                refine take_at (i := 16) (v := ?_) (some 75) rfl (by kernel_rfl) (by kernel_rfl) (by kernel_rfl) rfl (fun _ _ _ h => h) (Or.inl ⟨by rfl, ?_⟩) hS ?_
                rotate_left
                · (intro wq hq; go_simp); first | done | with_reducible rfl
                try simp only [Act.put, List.setIfInBounds_toArray, List.set_cons_zero, List.set_cons_succ]
                refine take_at (i := 17) (v := ?_) (some 76) rfl (by kernel_rfl) (by kernel_rfl) (by kernel_rfl) rfl (fun _ _ _ h => h) (Or.inl ⟨by rfl, ?_⟩) hS ?_
                rotate_left
                · (intro wq hq; go_simp); first | done | with_reducible rfl
                try simp only [Act.put, List.setIfInBounds_toArray, List.set_cons_zero, List.set_cons_succ]
                refine take_at (i := 18) (v := ?_) (some 6) rfl (by kernel_rfl) (by kernel_rfl) (by kernel_rfl) rfl (fun _ _ _ h => h) (Or.inl ⟨by rfl, ?_⟩) hS ?_
                rotate_left
                · (intro wq hq; go_simp); first | done | with_reducible rfl
                try simp only [Act.put, List.setIfInBounds_toArray, List.set_cons_zero, List.set_cons_succ]
                refine wpAnyH_done (by kernel_rfl) (NoPanic.normal ?_) _
                go_wp2_with fail
                go_roundw
                case rel => exact ⟨k + 1, _, by omega, by go_num, rfl, HTD.out, Lib.hid (by rw [nums_app, nums_app, nums_app, HT.out, HN1.out, HN2.out, HS.out, escL_app]; simp [escL, HE.out]; rfl), hbx, hbel.drew⟩
                case measure => (simp [intOf]; omega)
              · have p1 : ¬ c < 32 := by omega
                have p2 : ¬ 126 < c := by omega
                have p3 : (c == 34) = true := by simp [p]
                clear p
                go_wp2_with fail
                refine wp_region_noPanic ?_
                refine wp_region_held_drew (S := fun W => Bx W w.heap.size n s ∧ Below w.heap.size w W) (by kernel_rfl) (⟨hbx, hbel.drew⟩) (fun hS => ?_)
                refine take_at (i := 0) (v := ?_) (some 59) rfl (by kernel_rfl) (by kernel_rfl) (by kernel_rfl) rfl (fun _ _ _ h => h) (Or.inl ⟨by rfl, ?_⟩) hS ?_
                rotate_left
                · (intro wq hq; go_simp); first | done | with_reducible rfl
                try simp only [Act.put, List.setIfInBounds_toArray, List.set_cons_zero, List.set_cons_succ]
                refine take_at (i := 1) (v := ?_) (some 60) rfl (by kernel_rfl) (by kernel_rfl) (by kernel_rfl) rfl (fun _ _ _ h => h) (Or.inl ⟨by rfl, ?_⟩) hS ?_
                rotate_left
                · (intro wq hq; go_simp); first | done | with_reducible rfl
                try simp only [Act.put, List.setIfInBounds_toArray, List.set_cons_zero, List.set_cons_succ]
                refine take_at (i := 2) (v := ?_) (some 61) rfl (by kernel_rfl) (by kernel_rfl) (by kernel_rfl) rfl (fun _ _ _ h => h) (Or.inl ⟨by rfl, ?_⟩) hS ?_
                rotate_left
                · (intro wq hq; go_simp); first | done | with_reducible rfl
                try simp only [Act.put, List.setIfInBounds_toArray, List.set_cons_zero, List.set_cons_succ]
                refine take_at (i := 3) (v := ?_) (some 62) rfl (by kernel_rfl) (by kernel_rfl) (by kernel_rfl) rfl (fun _ _ _ h => h) (Or.inl ⟨by rfl, ?_⟩) hS ?_
                rotate_left
                · (intro wq hq; go_simp); first | done | with_reducible rfl
                try simp only [Act.put, List.setIfInBounds_toArray, List.set_cons_zero, List.set_cons_succ]
                refine take_at (i := 4) (v := ?_) (some 63) rfl (by kernel_rfl) (by kernel_rfl) (by kernel_rfl) rfl (fun _ _ _ h => h) (Or.inl ⟨by rfl, ?_⟩) hS ?_
                rotate_left
                · (intro wq hq; go_simp); first | done | with_reducible rfl
                try simp only [Act.put, List.setIfInBounds_toArray, List.set_cons_zero, List.set_cons_succ]
                refine take_at (i := 5) (v := ?_) (some 64) rfl (by kernel_rfl) (by kernel_rfl) (by kernel_rfl) rfl (fun _ _ _ h => h) (Or.inl ⟨by rfl, ?_⟩) hS ?_
                rotate_left
                · (intro wq hq; go_simp); first | done | with_reducible rfl
                try simp only [Act.put, List.setIfInBounds_toArray, List.set_cons_zero, List.set_cons_succ]
                refine take_at (i := 6) (v := ?_) (some 65) rfl (by kernel_rfl) (by kernel_rfl) (by kernel_rfl) rfl (fun _ _ _ h => h) (Or.inl ⟨by rfl, ?_⟩) hS ?_
                rotate_left
                · (intro wq hq; go_simp); first | done | with_reducible rfl
                try simp only [Act.put, List.setIfInBounds_toArray, List.set_cons_zero, List.set_cons_succ]
                refine take_at (i := 7) (v := ?_) (some 66) rfl (by kernel_rfl) (by kernel_rfl) (by kernel_rfl) rfl (fun _ _ _ h => h) (Or.inl ⟨by rfl, ?_⟩) hS ?_
                rotate_left
                · (intro wq hq; go_simp); first | done | with_reducible rfl
                try simp only [Act.put, List.setIfInBounds_toArray, List.set_cons_zero, List.set_cons_succ]
                refine take_at (i := 8) (v := ?_) (some 67) rfl (by kernel_rfl) (by kernel_rfl) (by kernel_rfl) rfl (fun _ _ _ h => h) (Or.inl ⟨by rfl, ?_⟩) hS ?_
                rotate_left
                · (intro wq hq; go_simp); first | done | with_reducible rfl
                try simp only [Act.put, List.setIfInBounds_toArray, List.set_cons_zero, List.set_cons_succ]
                refine take_at (i := 9) (v := ?_) (some 68) rfl (by kernel_rfl) (by kernel_rfl) (by kernel_rfl) rfl (fun _ _ _ h => h) (Or.inl ⟨by rfl, ?_⟩) hS ?_
                rotate_left
                · (intro wq hq; go_simp); first | done | with_reducible rfl
                try simp only [Act.put, List.setIfInBounds_toArray, List.set_cons_zero, List.set_cons_succ]
                refine take_at (i := 10) (v := ?_) (some 69) rfl (by kernel_rfl) (by kernel_rfl) (by kernel_rfl) rfl (fun _ _ _ h => h) (Or.inl ⟨by rfl, ?_⟩) hS ?_
                rotate_left
                · (intro wq hq; go_simp); first | done | with_reducible rfl
                try simp only [Act.put, List.setIfInBounds_toArray, List.set_cons_zero, List.set_cons_succ]
                refine take_at (i := 11) (v := ?_) (some 70) rfl (by kernel_rfl) (by kernel_rfl) (by kernel_rfl) rfl (fun _ _ _ h => h) (Or.inl ⟨by rfl, ?_⟩) hS ?_
                rotate_left
                · (intro wq hq; go_simp); first | done | with_reducible rfl
                try simp only [Act.put, List.setIfInBounds_toArray, List.set_cons_zero, List.set_cons_succ]
                refine take_at (i := 12) (v := ?_) (some 71) rfl (by kernel_rfl) (by kernel_rfl) (by kernel_rfl) rfl (fun _ _ _ h => h) (Or.inl ⟨by rfl, ?_⟩) hS ?_
                rotate_left
                · (intro wq hq; go_simp); first | done | with_reducible rfl
                try simp only [Act.put, List.setIfInBounds_toArray, List.set_cons_zero, List.set_cons_succ]
                refine take_at (i := 13) (v := ?_) (some 72) rfl (by kernel_rfl) (by kernel_rfl) (by kernel_rfl) rfl (fun _ _ _ h => h) (Or.inl ⟨by rfl, ?_⟩) hS ?_
                rotate_left
                · (intro wq hq; go_simp); first | done | with_reducible rfl
                try simp only [Act.put, List.setIfInBounds_toArray, List.set_cons_zero, List.set_cons_succ]
                refine take_at (i := 14) (v := ?_) (some 73) rfl (by kernel_rfl) (by kernel_rfl) (by kernel_rfl) rfl (fun _ _ _ h => h) (Or.inl ⟨by rfl, ?_⟩) hS ?_
                rotate_left
                · (intro wq hq; go_simp); first | done | with_reducible rfl
                try simp only [Act.put, List.setIfInBounds_toArray, List.set_cons_zero, List.set_cons_succ]
                refine take_at (i := 15) (v := ?_) (some 74) rfl (by kernel_rfl) (by kernel_rfl) (by kernel_rfl) rfl (fun _ _ _ h => h) (Or.inl ⟨by rfl, ?_⟩) hS ?_
                rotate_left
                · (intro wq hq; go_simp); first | done | with_reducible rfl
                try simp only [Act.put, List.setIfInBounds_toArray, List.set_cons_zero, List.set_cons_succ]
                refine take_at (i := 16) (v := ?_) (some 75) rfl (by kernel_rfl) (by kernel_rfl) (by kernel_rfl) rfl (fun _ _ _ h => h) (Or.inl ⟨by rfl, ?_⟩) hS ?_
                rotate_left
                · (intro wq hq; go_simp); first | done | with_reducible rfl
                try simp only [Act.put, List.setIfInBounds_toArray, List.set_cons_zero, List.set_cons_succ]
                refine take_at (i := 17) (v := ?_) (some 76) rfl (by kernel_rfl) (by kernel_rfl) (by kernel_rfl) rfl (fun _ _ _ h => h) (Or.inl ⟨by rfl, ?_⟩) hS ?_
                rotate_left
                · (intro wq hq; go_simp); first | done | with_reducible rfl
                try simp only [Act.put, List.setIfInBounds_toArray, List.set_cons_zero, List.set_cons_succ]
                refine take_at (i := 18) (v := ?_) (some 6) rfl (by kernel_rfl) (by kernel_rfl) (by kernel_rfl) rfl (fun _ _ _ h => h) (Or.inl ⟨by rfl, ?_⟩) hS ?_
                rotate_left
                · (intro wq hq; go_simp); first | done | with_reducible rfl
                try simp only [Act.put, List.setIfInBounds_toArray, List.set_cons_zero, List.set_cons_succ]
                refine wpAnyH_done (by kernel_rfl) (NoPanic.normal ?_) _
                go_wp2_with fail
                go_roundw
                case rel => exact ⟨k + 1, _, by omega, by go_num, rfl, HTD.out, Lib.hid (by rw [nums_app, nums_app, nums_app, HT.out, HN1.out, HN2.out, HS.out, escL_app]; simp [escL, HE.out]; rfl), hbx, hbel.drew⟩
                case measure => (simp [intOf]; omega)
              · have p1 : ¬ c < 32 := by omega
                have p2 : ¬ 126 < c := by omega
                have p3 : (c == 34) = false := by simp [p]
                have p4 : (c == 92) = true := by simp [p]
                clear p
                go_wp2_with fail
                refine wp_region_noPanic ?_
                refine wp_region_held_drew (S := fun W => Bx W w.heap.size n s ∧ Below w.heap.size w W) (by kernel_rfl) (⟨hbx, hbel.drew⟩) (fun hS => ?_)
                refine take_at (i := 0) (v := ?_) (some 59) rfl (by kernel_rfl) (by kernel_rfl) (by kernel_rfl) rfl (fun _ _ _ h => h) (Or.inl ⟨by rfl, ?_⟩) hS ?_
                rotate_left
                · (intro wq hq; go_simp); first | done | with_reducible rfl
                try simp only [Act.put, List.setIfInBounds_toArray, List.set_cons_zero, List.set_cons_succ]
                refine take_at (i := 1) (v := ?_) (some 60) rfl (by kernel_rfl) (by kernel_rfl) (by kernel_rfl) rfl (fun _ _ _ h => h) (Or.inl ⟨by rfl, ?_⟩) hS ?_
                rotate_left
                · (intro wq hq; go_simp); first | done | with_reducible rfl
                try simp only [Act.put, List.setIfInBounds_toArray, List.set_cons_zero, List.set_cons_succ]
                refine take_at (i := 2) (v := ?_) (some 61) rfl (by kernel_rfl) (by kernel_rfl) (by kernel_rfl) rfl (fun _ _ _ h => h) (Or.inl ⟨by rfl, ?_⟩) hS ?_
                rotate_left
                · (intro wq hq; go_simp); first | done | with_reducible rfl
                try simp only [Act.put, List.setIfInBounds_toArray, List.set_cons_zero, List.set_cons_succ]
                refine take_at (i := 3) (v := ?_) (some 62) rfl (by kernel_rfl) (by kernel_rfl) (by kernel_rfl) rfl (fun _ _ _ h => h) (Or.inl ⟨by rfl, ?_⟩) hS ?_
                rotate_left
                · (intro wq hq; go_simp); first | done | with_reducible rfl
                try simp only [Act.put, List.setIfInBounds_toArray, List.set_cons_zero, List.set_cons_succ]
                refine take_at (i := 4) (v := ?_) (some 63) rfl (by kernel_rfl) (by kernel_rfl) (by kernel_rfl) rfl (fun _ _ _ h => h) (Or.inl ⟨by rfl, ?_⟩) hS ?_
                rotate_left
                · (intro wq hq; go_simp); first | done | with_reducible rfl
                try simp only [Act.put, List.setIfInBounds_toArray, List.set_cons_zero, List.set_cons_succ]
                refine take_at (i := 5) (v := ?_) (some 64) rfl (by kernel_rfl) (by kernel_rfl) (by kernel_rfl) rfl (fun _ _ _ h => h) (Or.inl ⟨by rfl, ?_⟩) hS ?_
                rotate_left
                · (intro wq hq; go_simp); first | done | with_reducible rfl
                try simp only [Act.put, List.setIfInBounds_toArray, List.set_cons_zero, List.set_cons_succ]
                refine take_at (i := 6) (v := ?_) (some 65) rfl (by kernel_rfl) (by kernel_rfl) (by kernel_rfl) rfl (fun _ _ _ h => h) (Or.inl ⟨by rfl, ?_⟩) hS ?_
                rotate_left
                · (intro wq hq; go_simp); first | done | with_reducible rfl
                try simp only [Act.put, List.setIfInBounds_toArray, List.set_cons_zero, List.set_cons_succ]
                refine take_at (i := 7) (v := ?_) (some 66) rfl (by kernel_rfl) (by kernel_rfl) (by kernel_rfl) rfl (fun _ _ _ h => h) (Or.inl ⟨by rfl, ?_⟩) hS ?_
                rotate_left
                · (intro wq hq; go_simp); first | done | with_reducible rfl
                try simp only [Act.put, List.setIfInBounds_toArray, List.set_cons_zero, List.set_cons_succ]
                refine take_at (i := 8) (v := ?_) (some 67) rfl (by kernel_rfl) (by kernel_rfl) (by kernel_rfl) rfl (fun _ _ _ h => h) (Or.inl ⟨by rfl, ?_⟩) hS ?_
                rotate_left
                · (intro wq hq; go_simp); first | done | with_reducible rfl
                try simp only [Act.put, List.setIfInBounds_toArray, List.set_cons_zero, List.set_cons_succ]
                refine take_at (i := 9) (v := ?_) (some 68) rfl (by kernel_rfl) (by kernel_rfl) (by kernel_rfl) rfl (fun _ _ _ h => h) (Or.inl ⟨by rfl, ?_⟩) hS ?_
                rotate_left
                · (intro wq hq; go_simp); first | done | with_reducible rfl
                try simp only [Act.put, List.setIfInBounds_toArray, List.set_cons_zero, List.set_cons_succ]
                refine take_at (i := 10) (v := ?_) (some 69) rfl (by kernel_rfl) (by kernel_rfl) (by kernel_rfl) rfl (fun _ _ _ h => h) (Or.inl ⟨by rfl, ?_⟩) hS ?_
                rotate_left
                · (intro wq hq; go_simp); first | done | with_reducible rfl
                try simp only [Act.put, List.setIfInBounds_toArray, List.set_cons_zero, List.set_cons_succ]
                refine take_at (i := 11) (v := ?_) (some 70) rfl (by kernel_rfl) (by kernel_rfl) (by kernel_rfl) rfl (fun _ _ _ h => h) (Or.inl ⟨by rfl, ?_⟩) hS ?_
                rotate_left
                · (intro wq hq; go_simp); first | done | with_reducible rfl
                try simp only [Act.put, List.setIfInBounds_toArray, List.set_cons_zero, List.set_cons_succ]
                refine take_at (i := 12) (v := ?_) (some 71) rfl (by kernel_rfl) (by kernel_rfl) (by kernel_rfl) rfl (fun _ _ _ h => h) (Or.inl ⟨by rfl, ?_⟩) hS ?_
                rotate_left
                · (intro wq hq; go_simp); first | done | with_reducible rfl
                try simp only [Act.put, List.setIfInBounds_toArray, List.set_cons_zero, List.set_cons_succ]
                refine take_at (i := 13) (v := ?_) (some 72) rfl (by kernel_rfl) (by kernel_rfl) (by kernel_rfl) rfl (fun _ _ _ h => h) (Or.inl ⟨by rfl, ?_⟩) hS ?_
                rotate_left
                · (intro wq hq; go_simp); first | done | with_reducible rfl
                try simp only [Act.put, List.setIfInBounds_toArray, List.set_cons_zero, List.set_cons_succ]
                refine take_at (i := 14) (v := ?_) (some 73) rfl (by kernel_rfl) (by kernel_rfl) (by kernel_rfl) rfl (fun _ _ _ h => h) (Or.inl ⟨by rfl, ?_⟩) hS ?_
                rotate_left
                · (intro wq hq; go_simp); first | done | with_reducible rfl
                try simp only [Act.put, List.setIfInBounds_toArray, List.set_cons_zero, List.set_cons_succ]
                refine take_at (i := 15) (v := ?_) (some 74) rfl (by kernel_rfl) (by kernel_rfl) (by kernel_rfl) rfl (fun _ _ _ h => h) (Or.inl ⟨by rfl, ?_⟩) hS ?_
                rotate_left
                · (intro wq hq; go_simp); first | done | with_reducible rfl
                try simp only [Act.put, List.setIfInBounds_toArray, List.set_cons_zero, List.set_cons_succ]
                refine take_at (i := 16) (v := ?_) (some 75) rfl (by kernel_rfl) (by kernel_rfl) (by kernel_rfl) rfl (fun _ _ _ h => h) (Or.inl ⟨by rfl, ?_⟩) hS ?_
                rotate_left
                · (intro wq hq; go_simp); first | done | with_reducible rfl
                try simp only [Act.put, List.setIfInBounds_toArray, List.set_cons_zero, List.set_cons_succ]
                refine take_at (i := 17) (v := ?_) (some 76) rfl (by kernel_rfl) (by kernel_rfl) (by kernel_rfl) rfl (fun _ _ _ h => h) (Or.inl ⟨by rfl, ?_⟩) hS ?_
                rotate_left
                · (intro wq hq; go_simp); first | done | with_reducible rfl
                try simp only [Act.put, List.setIfInBounds_toArray, List.set_cons_zero, List.set_cons_succ]
                refine take_at (i := 18) (v := ?_) (some 6) rfl (by kernel_rfl) (by kernel_rfl) (by kernel_rfl) rfl (fun _ _ _ h => h) (Or.inl ⟨by rfl, ?_⟩) hS ?_
                rotate_left
                · (intro wq hq; go_simp); first | done | with_reducible rfl
                try simp only [Act.put, List.setIfInBounds_toArray, List.set_cons_zero, List.set_cons_succ]
                refine wpAnyH_done (by kernel_rfl) (NoPanic.normal ?_) _
                go_wp2_with fail
                go_roundw
                case rel => exact ⟨k + 1, _, by omega, by go_num, rfl, HTD.out, Lib.hid (by rw [nums_app, nums_app, nums_app, HT.out, HN1.out, HN2.out, HS.out, escL_app]; simp [escL, HE.out]; rfl), hbx, hbel.drew⟩
                case measure => (simp [intOf]; omega)
            · have HE : Hid (esc c = [c]) := Lib.hid (esc_plain hp)
              have hD1 : D.size = 1 := by rw [← nums_len, hD]; rfl
              have hTD : ¬ 9223372036854775807 < T.size + D.size := by omega
              have HN := Lib.hid hD
              have HTD : Hid ((T ++ D).size ≤ 1 + 3 * (k + 1)) := Lib.hid (by rw [ByteArray.size_append]; omega)
              have p1 : ¬ c < 32 := by omega
              have p2 : ¬ 126 < c := by omega
              have p3 : (c == 34) = false := by simp; omega
              have p4 : (c == 92) = false := by simp; omega
              clear hD hD1 hp
              go_wp2_with fail
              go_roundw
              case rel => exact ⟨k + 1, T ++ D, by omega, by go_num, rfl, HTD.out, Lib.hid (by rw [nums_app, HT.out, HN.out, HS.out, escL_app]; simp [escL, HE.out]), hbx, hbel⟩
              case measure => (simp [intOf]; omega)
          · obtain rfl : k = s.size := by omega
            go_wp2_with fail
            go_ret
            refine ⟨ret_str ?_, hbel⟩
            apply nums_inj
            have hsb := escL_seen (nums_bytes s)
            rw [hn.out, nums_app, HT.out, ← nums_len s, List.take_length, nums_str]
            · rfl
            · intro z hz
              simp only [textS, List.mem_cons, List.mem_append, List.not_mem_nil, or_false] at hz
              rcases hz with rfl | hz | rfl
              · omega
              · have := hsb z hz; omega
              · omega
end Go.Proofs.YtoebghfjpkkegaaDoor
