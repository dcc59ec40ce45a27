/- TextsAgain: the walk. -/
import Derived.Test.YtmoppmifhhnolaaT6d
import Derived.Test.YtmoppmifhhnolaaH5
import Derived.Test.YtmoppmifhhnolaaR2
namespace Go.Proofs.Ytmoppmifhhnolaa
open Go.ChangeShapes Go.WideShapes Go.ChangeAt Go.RowKit
set_option linter.unusedVariables false

theorem there_snoc {ws : List ByteArray} {i : Nat} (h : i < ws.length) (x : ByteArray) : thereB (ws.take (i + 1)) x = (thereB (ws.take i) x || decide (ws.getD i ⟨#[]⟩ = x)) := by
  rw [take_snocT ws i h]
  simp [thereB]
theorem timesL_mem {l : List ByteArray} : ∀ {n : Nat} {s : ByteArray}, s ∈ timesL l n → s ∈ l
  | 0, s, h => by cases h
  | n + 1, s, h => by
    rw [timesL] at h
    rcases List.mem_append.1 h with h | h
    · exact timesL_mem h
    · exact h
theorem words_few60 {l : List ByteArray} (h : Few60 l) (j : Nat) : Few60 (words (l.take j)) := fun s hs => h s (List.mem_of_mem_take ((words_mem _ s).1 hs))
theorem addW_there {ws : List ByteArray} {x : ByteArray} (h : thereB ws x = true) : addW ws x = ws := by unfold addW; rw [if_pos h]
theorem addW_new {ws : List ByteArray} {x : ByteArray} (h : thereB ws x = false) : addW ws x = ws ++ [x] := by unfold addW; rw [if_neg (by rw [h]; simp)]
theorem str_beqB (x y : ByteArray) : (x.toList == y.toList) = decide (x = y) := by
  rw [Bool.eq_iff_iff, beq_iff_eq, decide_eq_true_iff]
  exact ⟨toList_inj, fun h => by rw [h]⟩
set_option maxHeartbeats 4000000 in
theorem again6_is (A0 : Option Addr) (n0 C0 : Nat) (l0 : List ByteArray) (tv : Int) (htv : 0 ≤ tv ∧ tv ≤ 255) (w : World) (hv0 : TV w A0 n0 l0) :
    Calls Try.prog 6 #[.slice A0 n0 C0, .int .u8 tv] w fun e w' => e = .returned (.bool true) ∧ Below w.heap.size w w' := by
  obtain ⟨r, hr, hr2⟩ : ∃ r : Nat, tv % 3 = (r : Int) ∧ r ≤ 2 := ⟨(tv % 3).toNat, by omega, by omega⟩
  have ht1 : tv.tmod 3 = (r : Int) := by rw [Int.tmod_eq_emod_of_nonneg htv.1]; exact hr
  have ht2 : IntKind.i64.wrap tv = tv := by rw [IntKind.wrap_i64]; omega
  clear hr
  go_enter Try.func6, Try.ntmps6
  go_wp2_with fail
  refine (shown6_is _).mono ?_
  rintro e w1 ⟨rfl, hb1⟩
  have hv1 := hv0.below hb1
  go_wp2_with fail
  refine (few6_any A0 n0 C0 l0 _ hv1).mono ?_
  rintro e w2 ⟨A, N, C, l, rfl, hNC, hN, hv, hf, -, hb2⟩
  replace hb1 := Below.then hb1 hb2
  clear hv0 hv1 hb2
  by_cases h20 : 20 < N
  · have h2i : (20 : Int) < (N : Int) := by omega
    have h2c : (20 : Int) ≤ (C : Int) := by omega
    obtain ⟨bA, oA, rfl, -⟩ := TV.at hv 0 (by omega)
    replace hv := TV.take hv 20 (by omega)
    replace hf : Few60 (l.take 20) := fun s hs => hf s (List.mem_of_mem_take hs)
    generalize l.take 20 = l at hv hf
    have hM : (20 : Nat) ≤ 20 := Nat.le_refl _
    have hl := Lib.hid (TV.len hv)
    have o0 : OS 1 (w2.alloc (.cells #[] 9)) w2.heap.size (.slice (some ⟨w2.heap.size, 0, none⟩) 0 0) 0 (tcells []) := OS.lit (k := 1) w2 w2.heap.size (Nat.le_refl _) [] 0 9 rfl (by simp) (by unfold maxLen; omega) _ rfl
    have b0 : Below w2.heap.size w2 (w2.alloc (.cells #[] 9)) := Joins.below_alloc1 _ _
    go_wp2_with fail
    go_loopw [6, 7] (fun v i wr => ∃ (j n : Nat) (ws : List ByteArray), j ≤ 20 ∧ i = .int .i64 (j : Int) ∧ Hid (ws = words (l.take j)) ∧ n ≤ j ∧ Hid (ws.length = n) ∧ OS 1 wr w2.heap.size v n (tcells ws) ∧ Below w2.heap.size w2 wr) (fun _ i _ => 20 - (intOf i).toNat)
    case atStart => exact ⟨0, 0, [], by omega, rfl, Lib.hid rfl, by simp, Lib.hid rfl, o0, b0⟩
    case round =>
      clear o0 b0
      obtain ⟨j, n, ws, hj, rfl, HW, hwl, HN, ho, hbel⟩ := hrel
      by_cases hlt : j < 20
      · have hji : (j : Int) < (20 : Int) := by omega
        obtain ⟨bl, ol, hA, hx⟩ := TV.at hv j hlt
        cases hA
        replace hx := keepc hx hbel
        have HS := Lib.hid (take_snocT l j (by rw [hl.out]; exact hlt))
        generalize l.getD j ⟨#[]⟩ = x at hx HS
        obtain ⟨Au, Cu, rfl, hCu, -, vu, lu, -⟩ := ho.sv
        go_wp2_with fail
        go_loopw [8, 9] (fun t k wi => ∃ i : Nat, i ≤ n ∧ k = .int .i64 (i : Int) ∧ t = .bool (thereB (ws.take i) x) ∧ Below wr.heap.size wr wi) (fun _ k _ => n - (intOf k).toNat)
        case atStart => exact ⟨0, by omega, rfl, rfl, Below.refl _ _⟩
        case round =>
          obtain ⟨i, hi, rfl, rfl, hbi⟩ := hrel
          by_cases hin : i < n
          · have hini : (i : Int) < (n : Int) := by omega
            have HT := Lib.hid (there_snoc (i := i) (by rw [HN.out]; exact hin) x)
            generalize thereB (ws.take i) x = B at HT
            cases B with
            | true =>
              rw [Bool.true_or] at HT
              go_wp2_with fail
              refine wp_region_noPanic ?_
              refine region_g 13 (Ext (World.drew _)) (by kernel_rfl) (Ext.refl _) (fun hS => ?_)
              refine take_w (i := 0) (v := ?_) (some 34) rfl (by kernel_rfl) rfl (fun _ _ _ h => h) (Or.inl ⟨by rfl, ?_⟩) hS ?_
              rotate_left
              · (intro wq hq; go_simp); first | done | with_reducible rfl
              try simp only [Act.put, List.setIfInBounds_toArray, List.set_cons_zero, List.set_cons_succ]
              replace hS := Till.list 0 hS
              refine take_w (i := 1) (v := ?_) (some 35) rfl (by kernel_rfl) rfl (fun _ _ _ h => h) (Or.inl ⟨by rfl, ?_⟩) hS ?_
              rotate_left
              · (intro wq hq; go_simp); first | done | with_reducible rfl
              try simp only [Act.put, List.setIfInBounds_toArray, List.set_cons_zero, List.set_cons_succ]
              replace hS := Till.list 1 hS
              refine take_w (i := 2) (v := undef) (some 36) rfl (by kernel_rfl) rfl (fun _ _ _ h => h) (Or.inr ⟨by rfl, rfl⟩) hS ?_
              try simp only [Act.put, List.setIfInBounds_toArray, List.set_cons_zero, List.set_cons_succ]
              replace hS := Till.list 2 hS
              refine take_w (i := 3) (v := undef) (some 37) rfl (by kernel_rfl) rfl (fun _ _ _ h => h) (Or.inr ⟨by rfl, rfl⟩) hS ?_
              try simp only [Act.put, List.setIfInBounds_toArray, List.set_cons_zero, List.set_cons_succ]
              replace hS := Till.list 3 hS
              refine take_w (i := 6) (v := undef) (some 40) rfl (by kernel_rfl) rfl (fun _ _ _ h => h) (Or.inr ⟨by rfl, rfl⟩) hS ?_
              try simp only [Act.put, List.setIfInBounds_toArray, List.set_cons_zero, List.set_cons_succ]
              replace hS := Till.list 6 hS
              refine take_w (i := 7) (v := undef) (some 41) rfl (by kernel_rfl) rfl (fun _ _ _ h => h) (Or.inr ⟨by rfl, rfl⟩) hS ?_
              try simp only [Act.put, List.setIfInBounds_toArray, List.set_cons_zero, List.set_cons_succ]
              replace hS := Till.list 7 hS
              refine take_w (i := 4) (v := undef) (some 38) rfl (by kernel_rfl) rfl (fun _ _ _ h => h) (Or.inr ⟨by rfl, rfl⟩) hS ?_
              try simp only [Act.put, List.setIfInBounds_toArray, List.set_cons_zero, List.set_cons_succ]
              replace hS := Till.list 4 hS
              refine take_w (i := 8) (v := undef) (some 42) rfl (by kernel_rfl) rfl (fun _ _ _ h => h) (Or.inr ⟨by rfl, rfl⟩) hS ?_
              try simp only [Act.put, List.setIfInBounds_toArray, List.set_cons_zero, List.set_cons_succ]
              replace hS := Till.list 8 hS
              refine take_w (i := 5) (v := undef) (some 39) rfl (by kernel_rfl) rfl (fun _ _ _ h => h) (Or.inr ⟨by rfl, rfl⟩) hS ?_
              try simp only [Act.put, List.setIfInBounds_toArray, List.set_cons_zero, List.set_cons_succ]
              replace hS := Till.list 5 hS
              refine take_w (i := 9) (v := undef) (some 43) rfl (by kernel_rfl) rfl (fun _ _ _ h => h) (Or.inr ⟨by rfl, rfl⟩) hS ?_
              try simp only [Act.put, List.setIfInBounds_toArray, List.set_cons_zero, List.set_cons_succ]
              replace hS := Till.list 9 hS
              refine take_w (i := 10) (v := undef) (some 44) rfl (by kernel_rfl) rfl (fun _ _ _ h => h) (Or.inr ⟨by rfl, rfl⟩) hS ?_
              try simp only [Act.put, List.setIfInBounds_toArray, List.set_cons_zero, List.set_cons_succ]
              replace hS := Till.list 10 hS
              refine take_w (i := 11) (v := ?_) (some 45) rfl (by kernel_rfl) rfl (fun _ _ _ h => h) (Or.inl ⟨by rfl, ?_⟩) hS ?_
              rotate_left
              · (intro wq hq; go_simp); first | done | with_reducible rfl
              try simp only [Act.put, List.setIfInBounds_toArray, List.set_cons_zero, List.set_cons_succ]
              replace hS := Till.list 11 hS
              refine take_w (i := 12) (v := ?_) (some 8) rfl (by kernel_rfl) rfl (fun _ _ _ h => h) (Or.inl ⟨by rfl, ?_⟩) hS ?_
              rotate_left
              · (intro wq hq; go_simp); first | done | with_reducible rfl
              try simp only [Act.put, List.setIfInBounds_toArray, List.set_cons_zero, List.set_cons_succ]
              replace hS := Till.list 12 hS
              refine done_g (by kernel_rfl) (NoPanic.normal ?_) _
              clear hS
              go_wp2_with fail
              go_roundw
              case rel => exact ⟨i + 1, by omega, by go_num, by rw [HT.out], hbi.drew⟩
              case measure => simp [intOf]; omega
            | false =>
              rw [Bool.false_or] at HT
              obtain ⟨bu, ou, rfl, hy⟩ := TV.at vu i hin
              replace hy := keepc hy hbi
              have hx' := keepc hx hbi
              have hcmp := str_beqB (ws.getD i ⟨#[]⟩) x
              generalize ws.getD i ⟨#[]⟩ = y at HT hy hcmp
              generalize decide (y = x) = B at HT hcmp
              go_wp2_with fail
              refine wp_region_noPanic ?_
              refine region_g 13 (Ext (World.drew _)) (by kernel_rfl) (Ext.refl _) (fun hS => ?_)
              refine take_w (i := 0) (v := ?_) (some 34) rfl (by kernel_rfl) rfl (fun _ _ _ h => h) (Or.inl ⟨by rfl, ?_⟩) hS ?_
              rotate_left
              · (intro wq hq; go_simp); first | done | with_reducible rfl
              try simp only [Act.put, List.setIfInBounds_toArray, List.set_cons_zero, List.set_cons_succ]
              replace hS := Till.list 0 hS
              refine take_w (i := 1) (v := ?_) (some 35) rfl (by kernel_rfl) rfl (fun _ _ _ h => h) (Or.inl ⟨by rfl, ?_⟩) hS ?_
              rotate_left
              · (intro wq hq; go_simp); first | done | with_reducible rfl
              try simp only [Act.put, List.setIfInBounds_toArray, List.set_cons_zero, List.set_cons_succ]
              replace hS := Till.list 1 hS
              refine take_w (i := 2) (v := ?_) (some 36) rfl (by kernel_rfl) rfl (fun _ _ _ h => h) (Or.inl ⟨by rfl, ?_⟩) hS ?_
              rotate_left
              · (intro wq hq; go_simp); first | done | with_reducible rfl
              try simp only [Act.put, List.setIfInBounds_toArray, List.set_cons_zero, List.set_cons_succ]
              replace hS := Till.list 2 hS
              refine take_w (i := 3) (v := ?_) (some 37) rfl (by kernel_rfl) rfl (fun _ _ _ h => h) (Or.inl ⟨by rfl, ?_⟩) hS ?_
              rotate_left
              · (intro wq hq; go_simp); first | done | with_reducible rfl
              try simp only [Act.put, List.setIfInBounds_toArray, List.set_cons_zero, List.set_cons_succ]
              replace hS := Till.list 3 hS
              refine take_w (i := 6) (v := ?_) (some 40) rfl (by kernel_rfl) rfl (fun _ _ _ h => h) (Or.inl ⟨by rfl, ?_⟩) hS ?_
              rotate_left
              · (intro wq hq; go_simp); first | done | with_reducible rfl
              try simp only [Act.put, List.setIfInBounds_toArray, List.set_cons_zero, List.set_cons_succ]
              replace hS := Till.list 6 hS
              refine take_w (i := 7) (v := ?_) (some 41) rfl (by kernel_rfl) rfl (fun _ _ _ h => h) (Or.inl ⟨by rfl, ?_⟩) hS ?_
              rotate_left
              · (intro wq hq; go_simp); first | done | with_reducible rfl
              try simp only [Act.put, List.setIfInBounds_toArray, List.set_cons_zero, List.set_cons_succ]
              replace hS := Till.list 7 hS
              refine take_w (i := 4) (v := ?_) (some 38) rfl (by kernel_rfl) rfl (fun _ _ _ h => h) (Or.inl ⟨by rfl, ?_⟩) hS ?_
              rotate_left
              · (intro wq hq; go_simp); first | done | with_reducible rfl
              try simp only [Act.put, List.setIfInBounds_toArray, List.set_cons_zero, List.set_cons_succ]
              replace hS := Till.list 4 hS
              refine take_w (i := 8) (v := ?_) (some 42) rfl (by kernel_rfl) rfl (fun _ _ _ h => h) (Or.inl ⟨by rfl, ?_⟩) hS ?_
              rotate_left
              · (intro wq hq; go_simp); first | done | with_reducible rfl
              try simp only [Act.put, List.setIfInBounds_toArray, List.set_cons_zero, List.set_cons_succ]
              replace hS := Till.list 8 hS
              refine take_n (i := 5) (v := ?_) (some 39) rfl (by kernel_rfl) rfl (fun _ _ _ h => h) (Or.inl ⟨by rfl, ?_⟩) hS ?_
              rotate_left
              · (intro wq hq; have q0 := hq _ _ _ hy; have q1 := hq _ _ _ hx'; go_simp); first | done | with_reducible rfl
              try simp only [Act.put, List.setIfInBounds_toArray, List.set_cons_zero, List.set_cons_succ]
              replace hS := Till.list 5 hS
              refine take_n (i := 9) (v := ?_) (some 43) rfl (by kernel_rfl) rfl (fun _ _ _ h => h) (Or.inl ⟨by rfl, ?_⟩) hS ?_
              rotate_left
              · (intro wq hq; have q0 := hq _ _ _ hy; have q1 := hq _ _ _ hx'; go_simp); first | done | with_reducible rfl
              try simp only [Act.put, List.setIfInBounds_toArray, List.set_cons_zero, List.set_cons_succ]
              replace hS := Till.list 9 hS
              refine take_w (i := 10) (v := ?_) (some 44) rfl (by kernel_rfl) rfl (fun _ _ _ h => h) (Or.inl ⟨by rfl, ?_⟩) hS ?_
              rotate_left
              · (intro wq hq; go_simp); first | done | with_reducible rfl
              try simp only [Act.put, List.setIfInBounds_toArray, List.set_cons_zero, List.set_cons_succ]
              replace hS := Till.list 10 hS
              refine take_w (i := 11) (v := ?_) (some 45) rfl (by kernel_rfl) rfl (fun _ _ _ h => h) (Or.inl ⟨by rfl, ?_⟩) hS ?_
              rotate_left
              · (intro wq hq; go_simp); first | done | with_reducible rfl
              try simp only [Act.put, List.setIfInBounds_toArray, List.set_cons_zero, List.set_cons_succ]
              replace hS := Till.list 11 hS
              refine take_w (i := 12) (v := ?_) (some 8) rfl (by kernel_rfl) rfl (fun _ _ _ h => h) (Or.inl ⟨by rfl, ?_⟩) hS ?_
              rotate_left
              · (intro wq hq; go_simp); first | done | with_reducible rfl
              try simp only [Act.put, List.setIfInBounds_toArray, List.set_cons_zero, List.set_cons_succ]
              replace hS := Till.list 12 hS
              refine done_g (by kernel_rfl) (NoPanic.normal ?_) _
              clear hS
              go_wp2_with fail
              go_roundw
              case rel => exact ⟨i + 1, by omega, by go_num, by rw [HT.out], hbi.drew⟩
              case measure => simp [intOf]; omega
          · obtain rfl : i = n := by omega
            have HE : Hid (ws.take i = ws) := Lib.hid (by rw [← HN.out, List.take_length])
            rw [HE.out]
            replace hx := keepc hx hbi
            replace ho := ho.below hbi
            replace hbel := Below.then hbel hbi
            clear hbi vu lu
            obtain ⟨B, hB⟩ : ∃ B, thereB ws x = B := ⟨_, rfl⟩
            rw [hB]
            cases B with
            | true =>
              have HA := Lib.hid (addW_there hB)
              clear hB
              go_wp2_with fail
              go_roundw
              case rel => exact ⟨j + 1, i, ws, by omega, by go_num, Lib.hid (by rw [HS.out, words_snoc, ← HW.out, HA.out]), by omega, HN, ho, hbel⟩
              case measure => simp [intOf]; omega
            | false =>
              have HA := Lib.hid (addW_new hB)
              clear hB
              have hone : SV 1 (wr.alloc (.cells #[.string x] 9)) (some ⟨wr.heap.size, 0, none⟩) 1 (tcells [x]) := SV.lit (k := 1) wr (tcells [x]) 1 9 rfl (tcells_one _)
              have ho1 := ho.alloc (.cells #[.string x] 9)
              have hb2 := hbel.alloc hbel.size (.cells #[.string x] 9)
              have hs1 := hb2.size
              go_wp2_with (at_builtin; refine append_os2 el_texts rfl (.tmp 48) (.tmp 53) rfl w2.heap.size _ i (tcells ws) rfl ho1 _ 1 1 _ rfl hone (by omega) (by omega) hs1 ?_; intro v3 w3 ho3 hb3 _ _)
              go_roundw
              case rel => exact ⟨j + 1, i + 1, ws ++ [x], by omega, by go_num, Lib.hid (by rw [HS.out, words_snoc, ← HW.out, HA.out]), by omega, Lib.hid (by rw [List.length_append, HN.out]; rfl), by rw [tcells_app]; exact ho3, hb2.trans hb3⟩
              case measure => simp [intOf]; omega
      · have hjj : j = 20 := by omega
        have HWW : Hid (ws = words l) := Lib.hid (by rw [HW.out, hjj, ← hl.out, List.take_length])
        have hji : ¬ (j : Int) < (20 : Int) := by omega
        obtain ⟨Au, Cu, rfl, hCu, -, vu, lu, -⟩ := ho.sv
        replace hb1 := Below.then hb1 hbel
        replace hv := hv.below hbel
        have hfw : Few60 ws := by rw [HWW.out]; exact words_few hf
        have HDT := Lib.hid (dict_times (l := l) (by rw [hl.out]; exact hM) r hr2)
        rw [hl.out, ← HWW.out] at HDT
        have o1 : OS 1 (wr.alloc (.cells #[] 9)) wr.heap.size (.slice (some ⟨wr.heap.size, 0, none⟩) 0 0) (0 * 20) (tcells (timesL l 0)) := by
          rw [Nat.zero_mul]; exact OS.lit (k := 1) wr wr.heap.size (Nat.le_refl _) [] 0 9 rfl (by simp) (by unfold maxLen; omega) _ rfl
        have b1 : Below wr.heap.size wr (wr.alloc (.cells #[] 9)) := Joins.below_alloc1 _ _
        have hn20 : n ≤ 20 := by omega
        clear ho hbel HW hjj lu hj hwl
        go_wp2_with fail
        go_loopw [11, 12] (fun v i wi => ∃ j : Nat, j ≤ r + 1 ∧ i = .int .i64 (j : Int) ∧ OS 1 wi wr.heap.size v (j * 20) (tcells (timesL l j)) ∧ Below wr.heap.size wr wi) (fun _ i _ => r + 1 - (intOf i).toNat)
        case atStart => exact ⟨0, by omega, rfl, o1, b1⟩
        case round =>
          clear o1 b1
          obtain ⟨q, hq, rfl, ho, hbi⟩ := hrel
          have hqM : q * 20 ≤ 3 * 20 := Nat.mul_le_mul (by omega) hM
          by_cases hlq : q < r + 1
          · have hqi : (q : Int) < 1 + (r : Int) := by omega
            have hv3 := SV.below hv hbi
            have hs3 := hbi.size
            have HSM := Lib.hid (Nat.succ_mul q 20)
            generalize q * 20 = m at ho hqM HSM
            go_wp2_with (at_builtin; refine append_os2 el_texts rfl (.tmp 65) (.tmp 66) rfl _ _ m (tcells (timesL l q)) rfl ho _ 20 C _ rfl hv3 (by omega) (by omega) hs3 ?_; intro v3 w3 ho3 hb3 _ _)
            go_roundw
            case rel => exact ⟨q + 1, by omega, by go_num, by rw [HSM.out, timesL, tcells_app]; exact ho3, hbi.trans hb3⟩
            case measure => simp [intOf]; omega
          · obtain rfl : q = r + 1 := by omega
            have hqi : ¬ ((r + 1 : Nat) : Int) < 1 + (r : Int) := by omega
            have hsm : Sm (timesL l (r + 1)) := fun s hs => hf.sm s (timesL_mem hs)
            obtain ⟨At, Ct, rfl, hCt, -, vt, lt, -⟩ := ho.sv
            obtain ⟨G, hG⟩ : ∃ G, (r + 1) * 20 = G := ⟨_, rfl⟩
            rw [hG] at vt hqM HDT
            rw [hG]
            have hwm : IntKind.i64.wrap ((1 + (r : Int)) * (20 : Int)) = (G : Int) := by
              have : (1 + (r : Int)) * (20 : Int) = (G : Int) := by rw [← hG]; push_cast; rw [Int.add_comm]
              rw [this, IntKind.wrap_i64]; omega
            replace hb1 := Below.then hb1 hbi
            replace vu := vu.below hbi
            have HDB := Lib.hid (dictL_bytes (l := timesL l (r + 1)) (by rw [timesL_len, hl.out, hG]; omega))
            have hel := eachL_len210 hfw.sm
            obtain ⟨E, hE⟩ : ∃ E, (eachL ws).length = E := ⟨_, rfl⟩
            rw [hE] at HDT hel
            rw [HN.out] at hel
            clear ho hG hbi
            go_wp2_with fail
            refine (dict_any At G Ct _ _ vt hsm (by omega)).mono ?_
            rintro e w5 ⟨vd, rfl, od, hb5⟩
            obtain ⟨ad, cd, rfl, -, -, -, -⟩ := od.bvn HDB.out _ HDT.out
            replace hb1 := Below.then hb1 hb5
            replace vu := vu.below hb5
            clear od hb5
            go_wp2_with fail
            refine (each_any Au n Cu ws _ vu hfw.sm (by omega)).mono ?_
            rintro e w6 ⟨ve, rfl, oe, hb6⟩
            obtain ⟨ae, ce, rfl, -, -, -, -⟩ := oe.bvn (eachL_bytes ws) E hE
            replace hb1 := Below.then hb1 hb6
            clear oe hb6
            go_wp2_with fail
            go_ret
            exact ⟨rfl, hb1⟩
  · have h2i : ¬ (20 : Int) < (N : Int) := by omega
    have hM : N ≤ 20 := by omega
    have hl := Lib.hid (TV.len hv)
    have o0 : OS 1 (w2.alloc (.cells #[] 9)) w2.heap.size (.slice (some ⟨w2.heap.size, 0, none⟩) 0 0) 0 (tcells []) := OS.lit (k := 1) w2 w2.heap.size (Nat.le_refl _) [] 0 9 rfl (by simp) (by unfold maxLen; omega) _ rfl
    have b0 : Below w2.heap.size w2 (w2.alloc (.cells #[] 9)) := Joins.below_alloc1 _ _
    go_wp2_with fail
    go_loopw [6, 7] (fun v i wr => ∃ (j n : Nat) (ws : List ByteArray), j ≤ N ∧ i = .int .i64 (j : Int) ∧ Hid (ws = words (l.take j)) ∧ n ≤ j ∧ Hid (ws.length = n) ∧ OS 1 wr w2.heap.size v n (tcells ws) ∧ Below w2.heap.size w2 wr) (fun _ i _ => N - (intOf i).toNat)
    case atStart => exact ⟨0, 0, [], by omega, rfl, Lib.hid rfl, by simp, Lib.hid rfl, o0, b0⟩
    case round =>
      clear o0 b0
      obtain ⟨j, n, ws, hj, rfl, HW, hwl, HN, ho, hbel⟩ := hrel
      by_cases hlt : j < N
      · have hji : (j : Int) < (N : Int) := by omega
        obtain ⟨bl, ol, hA, hx⟩ := TV.at hv j hlt
        cases hA
        replace hx := keepc hx hbel
        have HS := Lib.hid (take_snocT l j (by rw [hl.out]; exact hlt))
        generalize l.getD j ⟨#[]⟩ = x at hx HS
        obtain ⟨Au, Cu, rfl, hCu, -, vu, lu, -⟩ := ho.sv
        go_wp2_with fail
        go_loopw [8, 9] (fun t k wi => ∃ i : Nat, i ≤ n ∧ k = .int .i64 (i : Int) ∧ t = .bool (thereB (ws.take i) x) ∧ Below wr.heap.size wr wi) (fun _ k _ => n - (intOf k).toNat)
        case atStart => exact ⟨0, by omega, rfl, rfl, Below.refl _ _⟩
        case round =>
          obtain ⟨i, hi, rfl, rfl, hbi⟩ := hrel
          by_cases hin : i < n
          · have hini : (i : Int) < (n : Int) := by omega
            have HT := Lib.hid (there_snoc (i := i) (by rw [HN.out]; exact hin) x)
            generalize thereB (ws.take i) x = B at HT
            cases B with
            | true =>
              rw [Bool.true_or] at HT
              go_wp2_with fail
              refine wp_region_noPanic ?_
              refine region_g 13 (Ext (World.drew _)) (by kernel_rfl) (Ext.refl _) (fun hS => ?_)
              refine take_w (i := 0) (v := ?_) (some 34) rfl (by kernel_rfl) rfl (fun _ _ _ h => h) (Or.inl ⟨by rfl, ?_⟩) hS ?_
              rotate_left
              · (intro wq hq; go_simp); first | done | with_reducible rfl
              try simp only [Act.put, List.setIfInBounds_toArray, List.set_cons_zero, List.set_cons_succ]
              replace hS := Till.list 0 hS
              refine take_w (i := 1) (v := ?_) (some 35) rfl (by kernel_rfl) rfl (fun _ _ _ h => h) (Or.inl ⟨by rfl, ?_⟩) hS ?_
              rotate_left
              · (intro wq hq; go_simp); first | done | with_reducible rfl
              try simp only [Act.put, List.setIfInBounds_toArray, List.set_cons_zero, List.set_cons_succ]
              replace hS := Till.list 1 hS
              refine take_w (i := 2) (v := undef) (some 36) rfl (by kernel_rfl) rfl (fun _ _ _ h => h) (Or.inr ⟨by rfl, rfl⟩) hS ?_
              try simp only [Act.put, List.setIfInBounds_toArray, List.set_cons_zero, List.set_cons_succ]
              replace hS := Till.list 2 hS
              refine take_w (i := 3) (v := undef) (some 37) rfl (by kernel_rfl) rfl (fun _ _ _ h => h) (Or.inr ⟨by rfl, rfl⟩) hS ?_
              try simp only [Act.put, List.setIfInBounds_toArray, List.set_cons_zero, List.set_cons_succ]
              replace hS := Till.list 3 hS
              refine take_w (i := 6) (v := undef) (some 40) rfl (by kernel_rfl) rfl (fun _ _ _ h => h) (Or.inr ⟨by rfl, rfl⟩) hS ?_
              try simp only [Act.put, List.setIfInBounds_toArray, List.set_cons_zero, List.set_cons_succ]
              replace hS := Till.list 6 hS
              refine take_w (i := 7) (v := undef) (some 41) rfl (by kernel_rfl) rfl (fun _ _ _ h => h) (Or.inr ⟨by rfl, rfl⟩) hS ?_
              try simp only [Act.put, List.setIfInBounds_toArray, List.set_cons_zero, List.set_cons_succ]
              replace hS := Till.list 7 hS
              refine take_w (i := 4) (v := undef) (some 38) rfl (by kernel_rfl) rfl (fun _ _ _ h => h) (Or.inr ⟨by rfl, rfl⟩) hS ?_
              try simp only [Act.put, List.setIfInBounds_toArray, List.set_cons_zero, List.set_cons_succ]
              replace hS := Till.list 4 hS
              refine take_w (i := 8) (v := undef) (some 42) rfl (by kernel_rfl) rfl (fun _ _ _ h => h) (Or.inr ⟨by rfl, rfl⟩) hS ?_
              try simp only [Act.put, List.setIfInBounds_toArray, List.set_cons_zero, List.set_cons_succ]
              replace hS := Till.list 8 hS
              refine take_w (i := 5) (v := undef) (some 39) rfl (by kernel_rfl) rfl (fun _ _ _ h => h) (Or.inr ⟨by rfl, rfl⟩) hS ?_
              try simp only [Act.put, List.setIfInBounds_toArray, List.set_cons_zero, List.set_cons_succ]
              replace hS := Till.list 5 hS
              refine take_w (i := 9) (v := undef) (some 43) rfl (by kernel_rfl) rfl (fun _ _ _ h => h) (Or.inr ⟨by rfl, rfl⟩) hS ?_
              try simp only [Act.put, List.setIfInBounds_toArray, List.set_cons_zero, List.set_cons_succ]
              replace hS := Till.list 9 hS
              refine take_w (i := 10) (v := undef) (some 44) rfl (by kernel_rfl) rfl (fun _ _ _ h => h) (Or.inr ⟨by rfl, rfl⟩) hS ?_
              try simp only [Act.put, List.setIfInBounds_toArray, List.set_cons_zero, List.set_cons_succ]
              replace hS := Till.list 10 hS
              refine take_w (i := 11) (v := ?_) (some 45) rfl (by kernel_rfl) rfl (fun _ _ _ h => h) (Or.inl ⟨by rfl, ?_⟩) hS ?_
              rotate_left
              · (intro wq hq; go_simp); first | done | with_reducible rfl
              try simp only [Act.put, List.setIfInBounds_toArray, List.set_cons_zero, List.set_cons_succ]
              replace hS := Till.list 11 hS
              refine take_w (i := 12) (v := ?_) (some 8) rfl (by kernel_rfl) rfl (fun _ _ _ h => h) (Or.inl ⟨by rfl, ?_⟩) hS ?_
              rotate_left
              · (intro wq hq; go_simp); first | done | with_reducible rfl
              try simp only [Act.put, List.setIfInBounds_toArray, List.set_cons_zero, List.set_cons_succ]
              replace hS := Till.list 12 hS
              refine done_g (by kernel_rfl) (NoPanic.normal ?_) _
              clear hS
              go_wp2_with fail
              go_roundw
              case rel => exact ⟨i + 1, by omega, by go_num, by rw [HT.out], hbi.drew⟩
              case measure => simp [intOf]; omega
            | false =>
              rw [Bool.false_or] at HT
              obtain ⟨bu, ou, rfl, hy⟩ := TV.at vu i hin
              replace hy := keepc hy hbi
              have hx' := keepc hx hbi
              have hcmp := str_beqB (ws.getD i ⟨#[]⟩) x
              generalize ws.getD i ⟨#[]⟩ = y at HT hy hcmp
              generalize decide (y = x) = B at HT hcmp
              go_wp2_with fail
              refine wp_region_noPanic ?_
              refine region_g 13 (Ext (World.drew _)) (by kernel_rfl) (Ext.refl _) (fun hS => ?_)
              refine take_w (i := 0) (v := ?_) (some 34) rfl (by kernel_rfl) rfl (fun _ _ _ h => h) (Or.inl ⟨by rfl, ?_⟩) hS ?_
              rotate_left
              · (intro wq hq; go_simp); first | done | with_reducible rfl
              try simp only [Act.put, List.setIfInBounds_toArray, List.set_cons_zero, List.set_cons_succ]
              replace hS := Till.list 0 hS
              refine take_w (i := 1) (v := ?_) (some 35) rfl (by kernel_rfl) rfl (fun _ _ _ h => h) (Or.inl ⟨by rfl, ?_⟩) hS ?_
              rotate_left
              · (intro wq hq; go_simp); first | done | with_reducible rfl
              try simp only [Act.put, List.setIfInBounds_toArray, List.set_cons_zero, List.set_cons_succ]
              replace hS := Till.list 1 hS
              refine take_w (i := 2) (v := ?_) (some 36) rfl (by kernel_rfl) rfl (fun _ _ _ h => h) (Or.inl ⟨by rfl, ?_⟩) hS ?_
              rotate_left
              · (intro wq hq; go_simp); first | done | with_reducible rfl
              try simp only [Act.put, List.setIfInBounds_toArray, List.set_cons_zero, List.set_cons_succ]
              replace hS := Till.list 2 hS
              refine take_w (i := 3) (v := ?_) (some 37) rfl (by kernel_rfl) rfl (fun _ _ _ h => h) (Or.inl ⟨by rfl, ?_⟩) hS ?_
              rotate_left
              · (intro wq hq; go_simp); first | done | with_reducible rfl
              try simp only [Act.put, List.setIfInBounds_toArray, List.set_cons_zero, List.set_cons_succ]
              replace hS := Till.list 3 hS
              refine take_w (i := 6) (v := ?_) (some 40) rfl (by kernel_rfl) rfl (fun _ _ _ h => h) (Or.inl ⟨by rfl, ?_⟩) hS ?_
              rotate_left
              · (intro wq hq; go_simp); first | done | with_reducible rfl
              try simp only [Act.put, List.setIfInBounds_toArray, List.set_cons_zero, List.set_cons_succ]
              replace hS := Till.list 6 hS
              refine take_w (i := 7) (v := ?_) (some 41) rfl (by kernel_rfl) rfl (fun _ _ _ h => h) (Or.inl ⟨by rfl, ?_⟩) hS ?_
              rotate_left
              · (intro wq hq; go_simp); first | done | with_reducible rfl
              try simp only [Act.put, List.setIfInBounds_toArray, List.set_cons_zero, List.set_cons_succ]
              replace hS := Till.list 7 hS
              refine take_w (i := 4) (v := ?_) (some 38) rfl (by kernel_rfl) rfl (fun _ _ _ h => h) (Or.inl ⟨by rfl, ?_⟩) hS ?_
              rotate_left
              · (intro wq hq; go_simp); first | done | with_reducible rfl
              try simp only [Act.put, List.setIfInBounds_toArray, List.set_cons_zero, List.set_cons_succ]
              replace hS := Till.list 4 hS
              refine take_w (i := 8) (v := ?_) (some 42) rfl (by kernel_rfl) rfl (fun _ _ _ h => h) (Or.inl ⟨by rfl, ?_⟩) hS ?_
              rotate_left
              · (intro wq hq; go_simp); first | done | with_reducible rfl
              try simp only [Act.put, List.setIfInBounds_toArray, List.set_cons_zero, List.set_cons_succ]
              replace hS := Till.list 8 hS
              refine take_n (i := 5) (v := ?_) (some 39) rfl (by kernel_rfl) rfl (fun _ _ _ h => h) (Or.inl ⟨by rfl, ?_⟩) hS ?_
              rotate_left
              · (intro wq hq; have q0 := hq _ _ _ hy; have q1 := hq _ _ _ hx'; go_simp); first | done | with_reducible rfl
              try simp only [Act.put, List.setIfInBounds_toArray, List.set_cons_zero, List.set_cons_succ]
              replace hS := Till.list 5 hS
              refine take_n (i := 9) (v := ?_) (some 43) rfl (by kernel_rfl) rfl (fun _ _ _ h => h) (Or.inl ⟨by rfl, ?_⟩) hS ?_
              rotate_left
              · (intro wq hq; have q0 := hq _ _ _ hy; have q1 := hq _ _ _ hx'; go_simp); first | done | with_reducible rfl
              try simp only [Act.put, List.setIfInBounds_toArray, List.set_cons_zero, List.set_cons_succ]
              replace hS := Till.list 9 hS
              refine take_w (i := 10) (v := ?_) (some 44) rfl (by kernel_rfl) rfl (fun _ _ _ h => h) (Or.inl ⟨by rfl, ?_⟩) hS ?_
              rotate_left
              · (intro wq hq; go_simp); first | done | with_reducible rfl
              try simp only [Act.put, List.setIfInBounds_toArray, List.set_cons_zero, List.set_cons_succ]
              replace hS := Till.list 10 hS
              refine take_w (i := 11) (v := ?_) (some 45) rfl (by kernel_rfl) rfl (fun _ _ _ h => h) (Or.inl ⟨by rfl, ?_⟩) hS ?_
              rotate_left
              · (intro wq hq; go_simp); first | done | with_reducible rfl
              try simp only [Act.put, List.setIfInBounds_toArray, List.set_cons_zero, List.set_cons_succ]
              replace hS := Till.list 11 hS
              refine take_w (i := 12) (v := ?_) (some 8) rfl (by kernel_rfl) rfl (fun _ _ _ h => h) (Or.inl ⟨by rfl, ?_⟩) hS ?_
              rotate_left
              · (intro wq hq; go_simp); first | done | with_reducible rfl
              try simp only [Act.put, List.setIfInBounds_toArray, List.set_cons_zero, List.set_cons_succ]
              replace hS := Till.list 12 hS
              refine done_g (by kernel_rfl) (NoPanic.normal ?_) _
              clear hS
              go_wp2_with fail
              go_roundw
              case rel => exact ⟨i + 1, by omega, by go_num, by rw [HT.out], hbi.drew⟩
              case measure => simp [intOf]; omega
          · obtain rfl : i = n := by omega
            have HE : Hid (ws.take i = ws) := Lib.hid (by rw [← HN.out, List.take_length])
            rw [HE.out]
            replace hx := keepc hx hbi
            replace ho := ho.below hbi
            replace hbel := Below.then hbel hbi
            clear hbi vu lu
            obtain ⟨B, hB⟩ : ∃ B, thereB ws x = B := ⟨_, rfl⟩
            rw [hB]
            cases B with
            | true =>
              have HA := Lib.hid (addW_there hB)
              clear hB
              go_wp2_with fail
              go_roundw
              case rel => exact ⟨j + 1, i, ws, by omega, by go_num, Lib.hid (by rw [HS.out, words_snoc, ← HW.out, HA.out]), by omega, HN, ho, hbel⟩
              case measure => simp [intOf]; omega
            | false =>
              have HA := Lib.hid (addW_new hB)
              clear hB
              have hone : SV 1 (wr.alloc (.cells #[.string x] 9)) (some ⟨wr.heap.size, 0, none⟩) 1 (tcells [x]) := SV.lit (k := 1) wr (tcells [x]) 1 9 rfl (tcells_one _)
              have ho1 := ho.alloc (.cells #[.string x] 9)
              have hb2 := hbel.alloc hbel.size (.cells #[.string x] 9)
              have hs1 := hb2.size
              go_wp2_with (at_builtin; refine append_os2 el_texts rfl (.tmp 48) (.tmp 53) rfl w2.heap.size _ i (tcells ws) rfl ho1 _ 1 1 _ rfl hone (by omega) (by omega) hs1 ?_; intro v3 w3 ho3 hb3 _ _)
              go_roundw
              case rel => exact ⟨j + 1, i + 1, ws ++ [x], by omega, by go_num, Lib.hid (by rw [HS.out, words_snoc, ← HW.out, HA.out]), by omega, Lib.hid (by rw [List.length_append, HN.out]; rfl), by rw [tcells_app]; exact ho3, hb2.trans hb3⟩
              case measure => simp [intOf]; omega
      · have hjj : j = N := by omega
        have HWW : Hid (ws = words l) := Lib.hid (by rw [HW.out, hjj, ← hl.out, List.take_length])
        have hji : ¬ (j : Int) < (N : Int) := by omega
        obtain ⟨Au, Cu, rfl, hCu, -, vu, lu, -⟩ := ho.sv
        replace hb1 := Below.then hb1 hbel
        replace hv := hv.below hbel
        have hfw : Few60 ws := by rw [HWW.out]; exact words_few hf
        have HDT := Lib.hid (dict_times (l := l) (by rw [hl.out]; exact hM) r hr2)
        rw [hl.out, ← HWW.out] at HDT
        have o1 : OS 1 (wr.alloc (.cells #[] 9)) wr.heap.size (.slice (some ⟨wr.heap.size, 0, none⟩) 0 0) (0 * N) (tcells (timesL l 0)) := by
          rw [Nat.zero_mul]; exact OS.lit (k := 1) wr wr.heap.size (Nat.le_refl _) [] 0 9 rfl (by simp) (by unfold maxLen; omega) _ rfl
        have b1 : Below wr.heap.size wr (wr.alloc (.cells #[] 9)) := Joins.below_alloc1 _ _
        have hn20 : n ≤ 20 := by omega
        clear ho hbel HW hjj lu hj hwl
        go_wp2_with fail
        go_loopw [11, 12] (fun v i wi => ∃ j : Nat, j ≤ r + 1 ∧ i = .int .i64 (j : Int) ∧ OS 1 wi wr.heap.size v (j * N) (tcells (timesL l j)) ∧ Below wr.heap.size wr wi) (fun _ i _ => r + 1 - (intOf i).toNat)
        case atStart => exact ⟨0, by omega, rfl, o1, b1⟩
        case round =>
          clear o1 b1
          obtain ⟨q, hq, rfl, ho, hbi⟩ := hrel
          have hqM : q * N ≤ 3 * 20 := Nat.mul_le_mul (by omega) hM
          by_cases hlq : q < r + 1
          · have hqi : (q : Int) < 1 + (r : Int) := by omega
            have hv3 := SV.below hv hbi
            have hs3 := hbi.size
            have HSM := Lib.hid (Nat.succ_mul q N)
            generalize q * N = m at ho hqM HSM
            go_wp2_with (at_builtin; refine append_os2 el_texts rfl (.tmp 65) (.tmp 66) rfl _ _ m (tcells (timesL l q)) rfl ho _ N C _ rfl hv3 (by omega) (by omega) hs3 ?_; intro v3 w3 ho3 hb3 _ _)
            go_roundw
            case rel => exact ⟨q + 1, by omega, by go_num, by rw [HSM.out, timesL, tcells_app]; exact ho3, hbi.trans hb3⟩
            case measure => simp [intOf]; omega
          · obtain rfl : q = r + 1 := by omega
            have hqi : ¬ ((r + 1 : Nat) : Int) < 1 + (r : Int) := by omega
            have hsm : Sm (timesL l (r + 1)) := fun s hs => hf.sm s (timesL_mem hs)
            obtain ⟨At, Ct, rfl, hCt, -, vt, lt, -⟩ := ho.sv
            obtain ⟨G, hG⟩ : ∃ G, (r + 1) * N = G := ⟨_, rfl⟩
            rw [hG] at vt hqM HDT
            rw [hG]
            have hwm : IntKind.i64.wrap ((1 + (r : Int)) * (N : Int)) = (G : Int) := by
              have : (1 + (r : Int)) * (N : Int) = (G : Int) := by rw [← hG]; push_cast; rw [Int.add_comm]
              rw [this, IntKind.wrap_i64]; omega
            replace hb1 := Below.then hb1 hbi
            replace vu := vu.below hbi
            have HDB := Lib.hid (dictL_bytes (l := timesL l (r + 1)) (by rw [timesL_len, hl.out, hG]; omega))
            have hel := eachL_len210 hfw.sm
            obtain ⟨E, hE⟩ : ∃ E, (eachL ws).length = E := ⟨_, rfl⟩
            rw [hE] at HDT hel
            rw [HN.out] at hel
            clear ho hG hbi
            go_wp2_with fail
            refine (dict_any At G Ct _ _ vt hsm (by omega)).mono ?_
            rintro e w5 ⟨vd, rfl, od, hb5⟩
            obtain ⟨ad, cd, rfl, -, -, -, -⟩ := od.bvn HDB.out _ HDT.out
            replace hb1 := Below.then hb1 hb5
            replace vu := vu.below hb5
            clear od hb5
            go_wp2_with fail
            refine (each_any Au n Cu ws _ vu hfw.sm (by omega)).mono ?_
            rintro e w6 ⟨ve, rfl, oe, hb6⟩
            obtain ⟨ae, ce, rfl, -, -, -, -⟩ := oe.bvn (eachL_bytes ws) E hE
            replace hb1 := Below.then hb1 hb6
            clear oe hb6
            go_wp2_with fail
            go_ret
            exact ⟨rfl, hb1⟩
end Go.Proofs.Ytmoppmifhhnolaa
