/- TextsOne: the walk. -/
import Derived.Test.YtmoppmifhhnolaaT6v
import Derived.Test.YtmoppmifhhnolaaT6d
namespace Go.Proofs.Ytmoppmifhhnolaa
open Go.ChangeShapes Go.WideShapes Go.ChangeAt Go.RowKit
set_option linter.unusedVariables false

/-- so many times the letter x -/
def xs (n : Nat) : ByteArray := strOfNums (List.replicate n 120)
theorem xs_size (n : Nat) : (xs n).size = n := by rw [xs, str_size, List.length_replicate]
theorem xs_snoc (n : Nat) : xs n ++ { data := #[120] } = xs (n + 1) := by
  rw [show ({ data := #[120] } : ByteArray) = strOfNums [120] from rfl, xs, str_add, xs, List.replicate_succ']
theorem long_no {s : ByteArray} (h : 60 < s.size) (h2 : s.size ≤ 200) : NoT (putT [s]) := by
  intro l hl hp
  have h1 := hl.1
  have := putT_inj hl.fit (k := [s]) (fun x hx => by rw [List.mem_singleton.1 hx]; omega) (by omega) (by simp) hp
  have h3 := hl.2 s (by rw [this]; exact List.mem_singleton.2 rfl)
  omega
theorem and127 {c : Int} (h0 : 0 ≤ c) (h1 : c ≤ 255) : bits BinOp.and IntKind.u8 c 127 = c % 128 := by
  rw [u8_and _ _ h0 (by omega) (by omega) (by omega), show (127 : Int).toNat = 127 from rfl, nat_mask7]; omega
set_option maxHeartbeats 4000000 in
theorem one6_is (a : Option Addr) (n c : Nat) (zs : List Int) (tv : Int) (htv : 0 ≤ tv ∧ tv ≤ 255) (w : World) (hv : BV w a n zs) (hc : n ≤ c) :
    Calls Try.prog 5 #[.slice a n c, .int .u8 tv] w fun e w' => e = .returned (.bool true) ∧ Below w.heap.size w w' := by
  obtain ⟨T, hT, hT2⟩ : ∃ T : Nat, tv % 128 = (T : Int) ∧ T ≤ 127 := ⟨(tv % 128).toNat, by omega, by omega⟩
  have hand : bits BinOp.and IntKind.u8 tv 127 = (T : Int) := by rw [and127 htv.1 htv.2]; exact hT
  clear hT
  go_enter Try.func5, Try.ntmps5
  go_wp2_with fail
  refine (shown6_is _).mono ?_
  rintro e w1 ⟨rfl, hb1⟩
  replace hv := hv.below hb1
  by_cases h5 : n ≤ 500
  · have h5i : ¬ (500 : Int) < (n : Int) := by omega
    go_wp2_with fail
    refine (takeT_any a n c zs _ hv (by omega)).mono ?_
    rintro e w2 he
    rcases he with ⟨A, N, C, l, rfl, hC, hN, hi, hl, hp, hb2⟩ | ⟨rfl, hno, hb2⟩
    · have HP := Lib.hid hp
      have hpb := putT_bytes (l := l) (by rw [TV.len hl]; omega)
      have HPB := Lib.hid hpb
      have hst := str_beq hpb hpb
      rw [decide_eq_true rfl] at hst
      clear hp hpb
      replace hv := hv.below hb2
      replace hb1 := Below.then hb1 hb2
      clear hb2
      rw [← HP.out] at hv
      go_wp2_with fail
      refine wp_region_noPanic ?_
      refine region_g 23 (Ext (World.drew _)) (by kernel_rfl) (Ext.refl _) (fun hS => ?_)
      refine take_w (i := 0) (v := ?_) (some 23) rfl (by kernel_rfl) rfl (fun _ _ _ h => h) (Or.inl ⟨by rfl, ?_⟩) hS ?_
      rotate_left
      · (intro wq hq; go_simp); first | done | with_reducible rfl
      try simp only [Act.put, List.setIfInBounds_toArray, List.set_cons_zero, List.set_cons_succ]
      replace hS := Till.list 0 hS
      refine take_w (i := 1) (v := ?_) (some 24) rfl (by kernel_rfl) rfl (fun _ _ _ h => h) (Or.inl ⟨by rfl, ?_⟩) hS ?_
      rotate_left
      · (intro wq hq; go_simp); first | done | with_reducible rfl
      try simp only [Act.put, List.setIfInBounds_toArray, List.set_cons_zero, List.set_cons_succ]
      replace hS := Till.list 1 hS
      refine take_w (i := 2) (v := ?_) (some 25) rfl (by kernel_rfl) rfl (fun _ _ _ h => h) (Or.inl ⟨by rfl, ?_⟩) hS ?_
      rotate_left
      · (intro wq hq; go_simp); first | done | with_reducible rfl
      try simp only [Act.put, List.setIfInBounds_toArray, List.set_cons_zero, List.set_cons_succ]
      replace hS := Till.list 2 hS
      refine take_w (i := 3) (v := ?_) (some 26) rfl (by kernel_rfl) rfl (fun _ _ _ h => h) (Or.inl ⟨by rfl, ?_⟩) hS ?_
      rotate_left
      · (intro wq hq; go_simp); first | done | with_reducible rfl
      try simp only [Act.put, List.setIfInBounds_toArray, List.set_cons_zero, List.set_cons_succ]
      replace hS := Till.list 3 hS
      refine take_w (i := 6) (v := ?_) (some 29) rfl (by kernel_rfl) rfl (fun _ _ _ h => h) (Or.inl ⟨by rfl, ?_⟩) hS ?_
      rotate_left
      · (intro wq hq; go_simp); first | done | with_reducible rfl
      try simp only [Act.put, List.setIfInBounds_toArray, List.set_cons_zero, List.set_cons_succ]
      replace hS := Till.list 6 hS
      refine take_n (i := 7) (v := .string (strOfNums (putT l))) (some 30) rfl (by kernel_rfl) rfl (fun _ _ _ h => h) (Or.inl ⟨by rfl, ?_⟩) hS ?_
      · (intro wq hq; (have hcv := conv_any (hv.ext hq) c; go_simp))
      try simp only [Act.put, List.setIfInBounds_toArray, List.set_cons_zero, List.set_cons_succ]
      replace hS := Till.list 7 hS
      refine ready_g (rs := [4]) (by kernel_rfl) (by simp) ?_
      refine AllReadyG.cons rfl (fun Kont hK => ?_) AllReadyG.nil
      go_simp
      refine (putT_any A N C l _ hl.drew hi.sm (by omega)).mono ?_
      rintro e w3 ⟨vp, rfl, op, hb3⟩
      obtain ⟨ap, cp, rfl, -, -, bp, -⟩ := op.bvn HPB.out _ rfl
      replace hb1 := Below.then hb1.drew hb3
      refine hK.out _ _ (Or.inr ((hS.get (by kernel_rfl)).trans (Ext.below hb3))) (fun hS0 => ?_)
      clear hK Kont
      try simp only [Act.put, List.setIfInBounds_toArray, List.set_cons_zero, List.set_cons_succ]
      clear hS
      refine now_t (by kernel_rfl) hS0 (fun hS => ?_)
      clear hS0
      refine take_n (i := 5) (v := .string (strOfNums (putT l))) (some 28) rfl (by kernel_rfl) rfl (fun _ _ _ h => h) (Or.inl ⟨by rfl, ?_⟩) hS ?_
      · (intro wq hq; (have hcv := conv_any (bp.ext hq) cp; go_simp))
      try simp only [Act.put, List.setIfInBounds_toArray, List.set_cons_zero, List.set_cons_succ]
      replace hS := Till.list 5 hS
      refine take_w (i := 8) (v := ?_) (some 31) rfl (by kernel_rfl) rfl (fun _ _ _ h => h) (Or.inl ⟨by rfl, ?_⟩) hS ?_
      rotate_left
      · (intro wq hq; go_simp); first | done | with_reducible rfl
      try simp only [Act.put, List.setIfInBounds_toArray, List.set_cons_zero, List.set_cons_succ]
      replace hS := Till.list 8 hS
      refine take_w (i := 9) (v := ?_) (some 32) rfl (by kernel_rfl) rfl (fun _ _ _ h => h) (Or.inl ⟨by rfl, ?_⟩) hS ?_
      rotate_left
      · (intro wq hq; go_simp); first | done | with_reducible rfl
      try simp only [Act.put, List.setIfInBounds_toArray, List.set_cons_zero, List.set_cons_succ]
      replace hS := Till.list 9 hS
      refine take_w (i := 10) (v := ?_) (some 33) rfl (by kernel_rfl) rfl (fun _ _ _ h => h) (Or.inl ⟨by rfl, ?_⟩) hS ?_
      rotate_left
      · (intro wq hq; go_simp); first | done | with_reducible rfl
      try simp only [Act.put, List.setIfInBounds_toArray, List.set_cons_zero, List.set_cons_succ]
      replace hS := Till.list 10 hS
      refine take_w (i := 11) (v := ?_) (some 34) rfl (by kernel_rfl) rfl (fun _ _ _ h => h) (Or.inl ⟨by rfl, ?_⟩) hS ?_
      rotate_left
      · (intro wq hq; go_simp); first | done | with_reducible rfl
      try simp only [Act.put, List.setIfInBounds_toArray, List.set_cons_zero, List.set_cons_succ]
      replace hS := Till.list 11 hS
      refine take_w (i := 12) (v := ?_) (some 35) rfl (by kernel_rfl) rfl (fun _ _ _ h => h) (Or.inl ⟨by rfl, ?_⟩) hS ?_
      rotate_left
      · (intro wq hq; go_simp); first | done | with_reducible rfl
      try simp only [Act.put, List.setIfInBounds_toArray, List.set_cons_zero, List.set_cons_succ]
      replace hS := Till.list 12 hS
      refine take_w (i := 13) (v := ?_) (some 36) rfl (by kernel_rfl) rfl (fun _ _ _ h => h) (Or.inl ⟨by rfl, ?_⟩) hS ?_
      rotate_left
      · (intro wq hq; go_simp); first | done | with_reducible rfl
      try simp only [Act.put, List.setIfInBounds_toArray, List.set_cons_zero, List.set_cons_succ]
      replace hS := Till.list 13 hS
      refine take_w (i := 14) (v := undef) (some 37) rfl (by kernel_rfl) rfl (fun _ _ _ h => h) (Or.inr ⟨by rfl, rfl⟩) hS ?_
      try simp only [Act.put, List.setIfInBounds_toArray, List.set_cons_zero, List.set_cons_succ]
      replace hS := Till.list 14 hS
      refine take_w (i := 15) (v := undef) (some 38) rfl (by kernel_rfl) rfl (fun _ _ _ h => h) (Or.inr ⟨by rfl, rfl⟩) hS ?_
      try simp only [Act.put, List.setIfInBounds_toArray, List.set_cons_zero, List.set_cons_succ]
      replace hS := Till.list 15 hS
      refine take_w (i := 16) (v := undef) (some 39) rfl (by kernel_rfl) rfl (fun _ _ _ h => h) (Or.inr ⟨by rfl, rfl⟩) hS ?_
      try simp only [Act.put, List.setIfInBounds_toArray, List.set_cons_zero, List.set_cons_succ]
      replace hS := Till.list 16 hS
      refine take_w (i := 17) (v := undef) (some 40) rfl (by kernel_rfl) rfl (fun _ _ _ h => h) (Or.inr ⟨by rfl, rfl⟩) hS ?_
      try simp only [Act.put, List.setIfInBounds_toArray, List.set_cons_zero, List.set_cons_succ]
      replace hS := Till.list 17 hS
      refine take_w (i := 18) (v := undef) (some 41) rfl (by kernel_rfl) rfl (fun _ _ _ h => h) (Or.inr ⟨by rfl, rfl⟩) hS ?_
      try simp only [Act.put, List.setIfInBounds_toArray, List.set_cons_zero, List.set_cons_succ]
      replace hS := Till.list 18 hS
      refine take_w (i := 19) (v := undef) (some 42) rfl (by kernel_rfl) rfl (fun _ _ _ h => h) (Or.inr ⟨by rfl, rfl⟩) hS ?_
      try simp only [Act.put, List.setIfInBounds_toArray, List.set_cons_zero, List.set_cons_succ]
      replace hS := Till.list 19 hS
      refine take_w (i := 20) (v := undef) (some 43) rfl (by kernel_rfl) rfl (fun _ _ _ h => h) (Or.inr ⟨by rfl, rfl⟩) hS ?_
      try simp only [Act.put, List.setIfInBounds_toArray, List.set_cons_zero, List.set_cons_succ]
      replace hS := Till.list 20 hS
      refine take_w (i := 21) (v := ?_) (some 44) rfl (by kernel_rfl) rfl (fun _ _ _ h => h) (Or.inl ⟨by rfl, ?_⟩) hS ?_
      rotate_left
      · (intro wq hq; go_simp); first | done | with_reducible rfl
      try simp only [Act.put, List.setIfInBounds_toArray, List.set_cons_zero, List.set_cons_succ]
      replace hS := Till.list 21 hS
      refine take_w (i := 22) (v := ?_) (some 45) rfl (by kernel_rfl) rfl (fun _ _ _ h => h) (Or.inl ⟨by rfl, ?_⟩) hS ?_
      rotate_left
      · (intro wq hq; go_simp); first | done | with_reducible rfl
      try simp only [Act.put, List.setIfInBounds_toArray, List.set_cons_zero, List.set_cons_succ]
      replace hS := Till.list 22 hS
      refine done_g (by kernel_rfl) (NoPanic.normal ?_) _
      clear hS
      clear hst bp op hb3 hv hl
      go_wp2_with fail
      go_loopw [8, 9] (fun s i wr => ∃ j : Nat, j ≤ T ∧ i = .int .i64 (j : Int) ∧ s = .string (xs j) ∧ Below w.heap.size w wr) (fun _ i _ => T - (intOf i).toNat)
      case atStart => exact ⟨0, by omega, rfl, rfl, hb1⟩
      case round =>
        clear hb1
        obtain ⟨j, hj, rfl, rfl, hb1⟩ := hrel
        have hxz := xs_size j
        by_cases hlt : j < T
        · have hji : (j : Int) < (T : Int) := by omega
          have HX := Lib.hid (xs_snoc j)
          generalize xs j = s at hxz HX
          have hs1 : ¬ 9223372036854775807 < s.size + 1 := by omega
          go_wp2_with fail
          go_roundw
          case rel => exact ⟨j + 1, by omega, by go_num, by rw [← HX.out], hb1⟩
          case measure => simp [intOf]; omega
        · obtain rfl : j = T := by omega
          generalize xs j = s at hxz
          have hji : ¬ (j : Int) < (j : Int) := by omega
          have hone : TV (wr.alloc (.cells #[.string s] 9)) (some ⟨wr.heap.size, 0, none⟩) 1 [s] := SV.lit (k := 1) wr (tcells [s]) 1 9 rfl (tcells_one _)
          have hsm : Sm [s] := fun x hx => by rw [List.mem_singleton.1 hx]; omega
          have HPB := Lib.hid (putT_bytes (l := [s]) (by simp))
          go_wp2_with fail
          refine (putT_any _ 1 1 [s] _ hone hsm (by omega)).mono ?_
          rintro e w5 ⟨vp, rfl, op, hb5⟩
          obtain ⟨ap', cp', rfl, hcp', -, bp', -⟩ := op.bvn HPB.out _ rfl
          have hw5 := after1 hb5
          replace hb1 := Below.then hb1 hw5
          clear op hb5 hw5 hone
          go_wp2_with fail
          refine (takeT_any ap' _ cp' _ _ bp' hcp').mono ?_
          rintro e w6 he
          by_cases h60 : j ≤ 60
          · have h6i : (j : Int) ≤ 60 := by omega
            obtain ⟨A6, N6, C6, rfl, -, tv6, hb6⟩ := he.yes (l := [s]) ⟨by simp, fun x hx => by rw [List.mem_singleton.1 hx]; omega⟩
            obtain rfl : N6 = 1 := by have := TV.len tv6; simpa using this.symm
            obtain ⟨b6, o6, rfl, c6⟩ := TV.at tv6 0 (by omega)
            have c6' : w6.cell? ⟨b6, o6, none⟩ = some (.string s) := c6
            have hss : (s.toList == s.toList) = true := by simp
            replace hb1 := Below.then hb1 hb6
            clear he hb6 tv6 c6 bp'
            go_wp2_with fail
            go_ret
            exact ⟨rfl, hb1⟩
          · have h6i : ¬ (j : Int) ≤ 60 := by omega
            have HD := Lib.hid (decide_eq_false h6i)
            obtain ⟨rfl, hb6⟩ := he.no (long_no (s := s) (by omega) (by omega))
            replace hb1 := Below.then hb1 hb6
            clear he hb6 bp'
            go_wp2_with fail
            go_ret
            exact ⟨by show Ending.returned (.bool (!decide ((j : Int) ≤ 60))) = _; rw [HD.out]; rfl, hb1⟩
    · clear hno
      replace hb1 := Below.then hb1 hb2
      go_wp2_with fail
      refine wp_region_noPanic ?_
      refine region_g 23 (Ext (World.drew _)) (by kernel_rfl) (Ext.refl _) (fun hS => ?_)
      refine take_w (i := 0) (v := ?_) (some 23) rfl (by kernel_rfl) rfl (fun _ _ _ h => h) (Or.inl ⟨by rfl, ?_⟩) hS ?_
      rotate_left
      · (intro wq hq; go_simp); first | done | with_reducible rfl
      try simp only [Act.put, List.setIfInBounds_toArray, List.set_cons_zero, List.set_cons_succ]
      replace hS := Till.list 0 hS
      refine take_w (i := 1) (v := ?_) (some 24) rfl (by kernel_rfl) rfl (fun _ _ _ h => h) (Or.inl ⟨by rfl, ?_⟩) hS ?_
      rotate_left
      · (intro wq hq; go_simp); first | done | with_reducible rfl
      try simp only [Act.put, List.setIfInBounds_toArray, List.set_cons_zero, List.set_cons_succ]
      replace hS := Till.list 1 hS
      refine take_w (i := 2) (v := ?_) (some 25) rfl (by kernel_rfl) rfl (fun _ _ _ h => h) (Or.inl ⟨by rfl, ?_⟩) hS ?_
      rotate_left
      · (intro wq hq; go_simp); first | done | with_reducible rfl
      try simp only [Act.put, List.setIfInBounds_toArray, List.set_cons_zero, List.set_cons_succ]
      replace hS := Till.list 2 hS
      refine take_w (i := 3) (v := undef) (some 26) rfl (by kernel_rfl) rfl (fun _ _ _ h => h) (Or.inr ⟨by rfl, rfl⟩) hS ?_
      try simp only [Act.put, List.setIfInBounds_toArray, List.set_cons_zero, List.set_cons_succ]
      replace hS := Till.list 3 hS
      refine take_w (i := 6) (v := undef) (some 29) rfl (by kernel_rfl) rfl (fun _ _ _ h => h) (Or.inr ⟨by rfl, rfl⟩) hS ?_
      try simp only [Act.put, List.setIfInBounds_toArray, List.set_cons_zero, List.set_cons_succ]
      replace hS := Till.list 6 hS
      refine take_w (i := 4) (v := undef) (some 27) rfl (by kernel_rfl) rfl (fun _ _ _ h => h) (Or.inr ⟨by rfl, rfl⟩) hS ?_
      try simp only [Act.put, List.setIfInBounds_toArray, List.set_cons_zero, List.set_cons_succ]
      replace hS := Till.list 4 hS
      refine take_w (i := 7) (v := undef) (some 30) rfl (by kernel_rfl) rfl (fun _ _ _ h => h) (Or.inr ⟨by rfl, rfl⟩) hS ?_
      try simp only [Act.put, List.setIfInBounds_toArray, List.set_cons_zero, List.set_cons_succ]
      replace hS := Till.list 7 hS
      refine take_w (i := 5) (v := undef) (some 28) rfl (by kernel_rfl) rfl (fun _ _ _ h => h) (Or.inr ⟨by rfl, rfl⟩) hS ?_
      try simp only [Act.put, List.setIfInBounds_toArray, List.set_cons_zero, List.set_cons_succ]
      replace hS := Till.list 5 hS
      refine take_w (i := 8) (v := undef) (some 31) rfl (by kernel_rfl) rfl (fun _ _ _ h => h) (Or.inr ⟨by rfl, rfl⟩) hS ?_
      try simp only [Act.put, List.setIfInBounds_toArray, List.set_cons_zero, List.set_cons_succ]
      replace hS := Till.list 8 hS
      refine take_w (i := 9) (v := ?_) (some 32) rfl (by kernel_rfl) rfl (fun _ _ _ h => h) (Or.inl ⟨by rfl, ?_⟩) hS ?_
      rotate_left
      · (intro wq hq; go_simp); first | done | with_reducible rfl
      try simp only [Act.put, List.setIfInBounds_toArray, List.set_cons_zero, List.set_cons_succ]
      replace hS := Till.list 9 hS
      refine take_w (i := 10) (v := ?_) (some 33) rfl (by kernel_rfl) rfl (fun _ _ _ h => h) (Or.inl ⟨by rfl, ?_⟩) hS ?_
      rotate_left
      · (intro wq hq; go_simp); first | done | with_reducible rfl
      try simp only [Act.put, List.setIfInBounds_toArray, List.set_cons_zero, List.set_cons_succ]
      replace hS := Till.list 10 hS
      refine take_w (i := 11) (v := ?_) (some 34) rfl (by kernel_rfl) rfl (fun _ _ _ h => h) (Or.inl ⟨by rfl, ?_⟩) hS ?_
      rotate_left
      · (intro wq hq; go_simp); first | done | with_reducible rfl
      try simp only [Act.put, List.setIfInBounds_toArray, List.set_cons_zero, List.set_cons_succ]
      replace hS := Till.list 11 hS
      refine take_w (i := 12) (v := ?_) (some 35) rfl (by kernel_rfl) rfl (fun _ _ _ h => h) (Or.inl ⟨by rfl, ?_⟩) hS ?_
      rotate_left
      · (intro wq hq; go_simp); first | done | with_reducible rfl
      try simp only [Act.put, List.setIfInBounds_toArray, List.set_cons_zero, List.set_cons_succ]
      replace hS := Till.list 12 hS
      refine take_w (i := 13) (v := ?_) (some 36) rfl (by kernel_rfl) rfl (fun _ _ _ h => h) (Or.inl ⟨by rfl, ?_⟩) hS ?_
      rotate_left
      · (intro wq hq; go_simp); first | done | with_reducible rfl
      try simp only [Act.put, List.setIfInBounds_toArray, List.set_cons_zero, List.set_cons_succ]
      replace hS := Till.list 13 hS
      refine take_w (i := 14) (v := ?_) (some 37) rfl (by kernel_rfl) rfl (fun _ _ _ h => h) (Or.inl ⟨by rfl, ?_⟩) hS ?_
      rotate_left
      · (intro wq hq; go_simp); first | done | with_reducible rfl
      try simp only [Act.put, List.setIfInBounds_toArray, List.set_cons_zero, List.set_cons_succ]
      replace hS := Till.list 14 hS
      refine take_w (i := 15) (v := ?_) (some 38) rfl (by kernel_rfl) rfl (fun _ _ _ h => h) (Or.inl ⟨by rfl, ?_⟩) hS ?_
      rotate_left
      · (intro wq hq; go_simp); first | done | with_reducible rfl
      try simp only [Act.put, List.setIfInBounds_toArray, List.set_cons_zero, List.set_cons_succ]
      replace hS := Till.list 15 hS
      refine take_w (i := 16) (v := ?_) (some 39) rfl (by kernel_rfl) rfl (fun _ _ _ h => h) (Or.inl ⟨by rfl, ?_⟩) hS ?_
      rotate_left
      · (intro wq hq; go_simp); first | done | with_reducible rfl
      try simp only [Act.put, List.setIfInBounds_toArray, List.set_cons_zero, List.set_cons_succ]
      replace hS := Till.list 16 hS
      refine take_w (i := 17) (v := ?_) (some 40) rfl (by kernel_rfl) rfl (fun _ _ _ h => h) (Or.inl ⟨by rfl, ?_⟩) hS ?_
      rotate_left
      · (intro wq hq; go_simp); first | done | with_reducible rfl
      try simp only [Act.put, List.setIfInBounds_toArray, List.set_cons_zero, List.set_cons_succ]
      replace hS := Till.list 17 hS
      refine take_w (i := 18) (v := ?_) (some 41) rfl (by kernel_rfl) rfl (fun _ _ _ h => h) (Or.inl ⟨by rfl, ?_⟩) hS ?_
      rotate_left
      · (intro wq hq; go_simp); first | done | with_reducible rfl
      try simp only [Act.put, List.setIfInBounds_toArray, List.set_cons_zero, List.set_cons_succ]
      replace hS := Till.list 18 hS
      refine take_w (i := 19) (v := ?_) (some 42) rfl (by kernel_rfl) rfl (fun _ _ _ h => h) (Or.inl ⟨by rfl, ?_⟩) hS ?_
      rotate_left
      · (intro wq hq; go_simp); first | done | with_reducible rfl
      try simp only [Act.put, List.setIfInBounds_toArray, List.set_cons_zero, List.set_cons_succ]
      replace hS := Till.list 19 hS
      refine take_w (i := 20) (v := ?_) (some 43) rfl (by kernel_rfl) rfl (fun _ _ _ h => h) (Or.inl ⟨by rfl, ?_⟩) hS ?_
      rotate_left
      · (intro wq hq; go_simp); first | done | with_reducible rfl
      try simp only [Act.put, List.setIfInBounds_toArray, List.set_cons_zero, List.set_cons_succ]
      replace hS := Till.list 20 hS
      refine take_w (i := 21) (v := ?_) (some 44) rfl (by kernel_rfl) rfl (fun _ _ _ h => h) (Or.inl ⟨by rfl, ?_⟩) hS ?_
      rotate_left
      · (intro wq hq; go_simp); first | done | with_reducible rfl
      try simp only [Act.put, List.setIfInBounds_toArray, List.set_cons_zero, List.set_cons_succ]
      replace hS := Till.list 21 hS
      refine take_w (i := 22) (v := ?_) (some 45) rfl (by kernel_rfl) rfl (fun _ _ _ h => h) (Or.inl ⟨by rfl, ?_⟩) hS ?_
      rotate_left
      · (intro wq hq; go_simp); first | done | with_reducible rfl
      try simp only [Act.put, List.setIfInBounds_toArray, List.set_cons_zero, List.set_cons_succ]
      replace hS := Till.list 22 hS
      refine done_g (by kernel_rfl) (NoPanic.normal ?_) _
      clear hS
      replace hb1 := hb1.drew
      go_wp2_with fail
      go_loopw [8, 9] (fun s i wr => ∃ j : Nat, j ≤ T ∧ i = .int .i64 (j : Int) ∧ s = .string (xs j) ∧ Below w.heap.size w wr) (fun _ i _ => T - (intOf i).toNat)
      case atStart => exact ⟨0, by omega, rfl, rfl, hb1⟩
      case round =>
        clear hb1
        obtain ⟨j, hj, rfl, rfl, hb1⟩ := hrel
        have hxz := xs_size j
        by_cases hlt : j < T
        · have hji : (j : Int) < (T : Int) := by omega
          have HX := Lib.hid (xs_snoc j)
          generalize xs j = s at hxz HX
          have hs1 : ¬ 9223372036854775807 < s.size + 1 := by omega
          go_wp2_with fail
          go_roundw
          case rel => exact ⟨j + 1, by omega, by go_num, by rw [← HX.out], hb1⟩
          case measure => simp [intOf]; omega
        · obtain rfl : j = T := by omega
          generalize xs j = s at hxz
          have hji : ¬ (j : Int) < (j : Int) := by omega
          have hone : TV (wr.alloc (.cells #[.string s] 9)) (some ⟨wr.heap.size, 0, none⟩) 1 [s] := SV.lit (k := 1) wr (tcells [s]) 1 9 rfl (tcells_one _)
          have hsm : Sm [s] := fun x hx => by rw [List.mem_singleton.1 hx]; omega
          have HPB := Lib.hid (putT_bytes (l := [s]) (by simp))
          go_wp2_with fail
          refine (putT_any _ 1 1 [s] _ hone hsm (by omega)).mono ?_
          rintro e w5 ⟨vp, rfl, op, hb5⟩
          obtain ⟨ap', cp', rfl, hcp', -, bp', -⟩ := op.bvn HPB.out _ rfl
          have hw5 := after1 hb5
          replace hb1 := Below.then hb1 hw5
          clear op hb5 hw5 hone
          go_wp2_with fail
          refine (takeT_any ap' _ cp' _ _ bp' hcp').mono ?_
          rintro e w6 he
          by_cases h60 : j ≤ 60
          · have h6i : (j : Int) ≤ 60 := by omega
            obtain ⟨A6, N6, C6, rfl, -, tv6, hb6⟩ := he.yes (l := [s]) ⟨by simp, fun x hx => by rw [List.mem_singleton.1 hx]; omega⟩
            obtain rfl : N6 = 1 := by have := TV.len tv6; simpa using this.symm
            obtain ⟨b6, o6, rfl, c6⟩ := TV.at tv6 0 (by omega)
            have c6' : w6.cell? ⟨b6, o6, none⟩ = some (.string s) := c6
            have hss : (s.toList == s.toList) = true := by simp
            replace hb1 := Below.then hb1 hb6
            clear he hb6 tv6 c6 bp'
            go_wp2_with fail
            go_ret
            exact ⟨rfl, hb1⟩
          · have h6i : ¬ (j : Int) ≤ 60 := by omega
            have HD := Lib.hid (decide_eq_false h6i)
            obtain ⟨rfl, hb6⟩ := he.no (long_no (s := s) (by omega) (by omega))
            replace hb1 := Below.then hb1 hb6
            clear he hb6 bp'
            go_wp2_with fail
            go_ret
            exact ⟨by show Ending.returned (.bool (!decide ((j : Int) ≤ 60))) = _; rw [HD.out]; rfl, hb1⟩
  · have h5i : (500 : Int) < (n : Int) := by omega
    have h5c : 500 ≤ c := by omega
    replace hv := hv.take 500 (by omega)
    generalize zs.take 500 = ys at hv
    go_wp2_with fail
    refine (takeT_any a 500 c ys _ hv (by omega)).mono ?_
    rintro e w2 he
    rcases he with ⟨A, N, C, l, rfl, hC, hN, hi, hl, hp, hb2⟩ | ⟨rfl, hno, hb2⟩
    · have HP := Lib.hid hp
      have hpb := putT_bytes (l := l) (by rw [TV.len hl]; omega)
      have HPB := Lib.hid hpb
      have hst := str_beq hpb hpb
      rw [decide_eq_true rfl] at hst
      clear hp hpb
      replace hv := hv.below hb2
      replace hb1 := Below.then hb1 hb2
      clear hb2
      rw [← HP.out] at hv
      go_wp2_with fail
      refine wp_region_noPanic ?_
      refine region_g 23 (Ext (World.drew _)) (by kernel_rfl) (Ext.refl _) (fun hS => ?_)
      refine take_w (i := 0) (v := ?_) (some 23) rfl (by kernel_rfl) rfl (fun _ _ _ h => h) (Or.inl ⟨by rfl, ?_⟩) hS ?_
      rotate_left
      · (intro wq hq; go_simp); first | done | with_reducible rfl
      try simp only [Act.put, List.setIfInBounds_toArray, List.set_cons_zero, List.set_cons_succ]
      replace hS := Till.list 0 hS
      refine take_w (i := 1) (v := ?_) (some 24) rfl (by kernel_rfl) rfl (fun _ _ _ h => h) (Or.inl ⟨by rfl, ?_⟩) hS ?_
      rotate_left
      · (intro wq hq; go_simp); first | done | with_reducible rfl
      try simp only [Act.put, List.setIfInBounds_toArray, List.set_cons_zero, List.set_cons_succ]
      replace hS := Till.list 1 hS
      refine take_w (i := 2) (v := ?_) (some 25) rfl (by kernel_rfl) rfl (fun _ _ _ h => h) (Or.inl ⟨by rfl, ?_⟩) hS ?_
      rotate_left
      · (intro wq hq; go_simp); first | done | with_reducible rfl
      try simp only [Act.put, List.setIfInBounds_toArray, List.set_cons_zero, List.set_cons_succ]
      replace hS := Till.list 2 hS
      refine take_w (i := 3) (v := ?_) (some 26) rfl (by kernel_rfl) rfl (fun _ _ _ h => h) (Or.inl ⟨by rfl, ?_⟩) hS ?_
      rotate_left
      · (intro wq hq; go_simp); first | done | with_reducible rfl
      try simp only [Act.put, List.setIfInBounds_toArray, List.set_cons_zero, List.set_cons_succ]
      replace hS := Till.list 3 hS
      refine take_w (i := 6) (v := ?_) (some 29) rfl (by kernel_rfl) rfl (fun _ _ _ h => h) (Or.inl ⟨by rfl, ?_⟩) hS ?_
      rotate_left
      · (intro wq hq; go_simp); first | done | with_reducible rfl
      try simp only [Act.put, List.setIfInBounds_toArray, List.set_cons_zero, List.set_cons_succ]
      replace hS := Till.list 6 hS
      refine take_n (i := 7) (v := .string (strOfNums (putT l))) (some 30) rfl (by kernel_rfl) rfl (fun _ _ _ h => h) (Or.inl ⟨by rfl, ?_⟩) hS ?_
      · (intro wq hq; (have hcv := conv_any (hv.ext hq) c; go_simp))
      try simp only [Act.put, List.setIfInBounds_toArray, List.set_cons_zero, List.set_cons_succ]
      replace hS := Till.list 7 hS
      refine ready_g (rs := [4]) (by kernel_rfl) (by simp) ?_
      refine AllReadyG.cons rfl (fun Kont hK => ?_) AllReadyG.nil
      go_simp
      refine (putT_any A N C l _ hl.drew hi.sm (by omega)).mono ?_
      rintro e w3 ⟨vp, rfl, op, hb3⟩
      obtain ⟨ap, cp, rfl, -, -, bp, -⟩ := op.bvn HPB.out _ rfl
      replace hb1 := Below.then hb1.drew hb3
      refine hK.out _ _ (Or.inr ((hS.get (by kernel_rfl)).trans (Ext.below hb3))) (fun hS0 => ?_)
      clear hK Kont
      try simp only [Act.put, List.setIfInBounds_toArray, List.set_cons_zero, List.set_cons_succ]
      clear hS
      refine now_t (by kernel_rfl) hS0 (fun hS => ?_)
      clear hS0
      refine take_n (i := 5) (v := .string (strOfNums (putT l))) (some 28) rfl (by kernel_rfl) rfl (fun _ _ _ h => h) (Or.inl ⟨by rfl, ?_⟩) hS ?_
      · (intro wq hq; (have hcv := conv_any (bp.ext hq) cp; go_simp))
      try simp only [Act.put, List.setIfInBounds_toArray, List.set_cons_zero, List.set_cons_succ]
      replace hS := Till.list 5 hS
      refine take_w (i := 8) (v := ?_) (some 31) rfl (by kernel_rfl) rfl (fun _ _ _ h => h) (Or.inl ⟨by rfl, ?_⟩) hS ?_
      rotate_left
      · (intro wq hq; go_simp); first | done | with_reducible rfl
      try simp only [Act.put, List.setIfInBounds_toArray, List.set_cons_zero, List.set_cons_succ]
      replace hS := Till.list 8 hS
      refine take_w (i := 9) (v := ?_) (some 32) rfl (by kernel_rfl) rfl (fun _ _ _ h => h) (Or.inl ⟨by rfl, ?_⟩) hS ?_
      rotate_left
      · (intro wq hq; go_simp); first | done | with_reducible rfl
      try simp only [Act.put, List.setIfInBounds_toArray, List.set_cons_zero, List.set_cons_succ]
      replace hS := Till.list 9 hS
      refine take_w (i := 10) (v := ?_) (some 33) rfl (by kernel_rfl) rfl (fun _ _ _ h => h) (Or.inl ⟨by rfl, ?_⟩) hS ?_
      rotate_left
      · (intro wq hq; go_simp); first | done | with_reducible rfl
      try simp only [Act.put, List.setIfInBounds_toArray, List.set_cons_zero, List.set_cons_succ]
      replace hS := Till.list 10 hS
      refine take_w (i := 11) (v := ?_) (some 34) rfl (by kernel_rfl) rfl (fun _ _ _ h => h) (Or.inl ⟨by rfl, ?_⟩) hS ?_
      rotate_left
      · (intro wq hq; go_simp); first | done | with_reducible rfl
      try simp only [Act.put, List.setIfInBounds_toArray, List.set_cons_zero, List.set_cons_succ]
      replace hS := Till.list 11 hS
      refine take_w (i := 12) (v := ?_) (some 35) rfl (by kernel_rfl) rfl (fun _ _ _ h => h) (Or.inl ⟨by rfl, ?_⟩) hS ?_
      rotate_left
      · (intro wq hq; go_simp); first | done | with_reducible rfl
      try simp only [Act.put, List.setIfInBounds_toArray, List.set_cons_zero, List.set_cons_succ]
      replace hS := Till.list 12 hS
      refine take_w (i := 13) (v := ?_) (some 36) rfl (by kernel_rfl) rfl (fun _ _ _ h => h) (Or.inl ⟨by rfl, ?_⟩) hS ?_
      rotate_left
      · (intro wq hq; go_simp); first | done | with_reducible rfl
      try simp only [Act.put, List.setIfInBounds_toArray, List.set_cons_zero, List.set_cons_succ]
      replace hS := Till.list 13 hS
      refine take_w (i := 14) (v := undef) (some 37) rfl (by kernel_rfl) rfl (fun _ _ _ h => h) (Or.inr ⟨by rfl, rfl⟩) hS ?_
      try simp only [Act.put, List.setIfInBounds_toArray, List.set_cons_zero, List.set_cons_succ]
      replace hS := Till.list 14 hS
      refine take_w (i := 15) (v := undef) (some 38) rfl (by kernel_rfl) rfl (fun _ _ _ h => h) (Or.inr ⟨by rfl, rfl⟩) hS ?_
      try simp only [Act.put, List.setIfInBounds_toArray, List.set_cons_zero, List.set_cons_succ]
      replace hS := Till.list 15 hS
      refine take_w (i := 16) (v := undef) (some 39) rfl (by kernel_rfl) rfl (fun _ _ _ h => h) (Or.inr ⟨by rfl, rfl⟩) hS ?_
      try simp only [Act.put, List.setIfInBounds_toArray, List.set_cons_zero, List.set_cons_succ]
      replace hS := Till.list 16 hS
      refine take_w (i := 17) (v := undef) (some 40) rfl (by kernel_rfl) rfl (fun _ _ _ h => h) (Or.inr ⟨by rfl, rfl⟩) hS ?_
      try simp only [Act.put, List.setIfInBounds_toArray, List.set_cons_zero, List.set_cons_succ]
      replace hS := Till.list 17 hS
      refine take_w (i := 18) (v := undef) (some 41) rfl (by kernel_rfl) rfl (fun _ _ _ h => h) (Or.inr ⟨by rfl, rfl⟩) hS ?_
      try simp only [Act.put, List.setIfInBounds_toArray, List.set_cons_zero, List.set_cons_succ]
      replace hS := Till.list 18 hS
      refine take_w (i := 19) (v := undef) (some 42) rfl (by kernel_rfl) rfl (fun _ _ _ h => h) (Or.inr ⟨by rfl, rfl⟩) hS ?_
      try simp only [Act.put, List.setIfInBounds_toArray, List.set_cons_zero, List.set_cons_succ]
      replace hS := Till.list 19 hS
      refine take_w (i := 20) (v := undef) (some 43) rfl (by kernel_rfl) rfl (fun _ _ _ h => h) (Or.inr ⟨by rfl, rfl⟩) hS ?_
      try simp only [Act.put, List.setIfInBounds_toArray, List.set_cons_zero, List.set_cons_succ]
      replace hS := Till.list 20 hS
      refine take_w (i := 21) (v := ?_) (some 44) rfl (by kernel_rfl) rfl (fun _ _ _ h => h) (Or.inl ⟨by rfl, ?_⟩) hS ?_
      rotate_left
      · (intro wq hq; go_simp); first | done | with_reducible rfl
      try simp only [Act.put, List.setIfInBounds_toArray, List.set_cons_zero, List.set_cons_succ]
      replace hS := Till.list 21 hS
      refine take_w (i := 22) (v := ?_) (some 45) rfl (by kernel_rfl) rfl (fun _ _ _ h => h) (Or.inl ⟨by rfl, ?_⟩) hS ?_
      rotate_left
      · (intro wq hq; go_simp); first | done | with_reducible rfl
      try simp only [Act.put, List.setIfInBounds_toArray, List.set_cons_zero, List.set_cons_succ]
      replace hS := Till.list 22 hS
      refine done_g (by kernel_rfl) (NoPanic.normal ?_) _
      clear hS
      clear hst bp op hb3 hv hl
      go_wp2_with fail
      go_loopw [8, 9] (fun s i wr => ∃ j : Nat, j ≤ T ∧ i = .int .i64 (j : Int) ∧ s = .string (xs j) ∧ Below w.heap.size w wr) (fun _ i _ => T - (intOf i).toNat)
      case atStart => exact ⟨0, by omega, rfl, rfl, hb1⟩
      case round =>
        clear hb1
        obtain ⟨j, hj, rfl, rfl, hb1⟩ := hrel
        have hxz := xs_size j
        by_cases hlt : j < T
        · have hji : (j : Int) < (T : Int) := by omega
          have HX := Lib.hid (xs_snoc j)
          generalize xs j = s at hxz HX
          have hs1 : ¬ 9223372036854775807 < s.size + 1 := by omega
          go_wp2_with fail
          go_roundw
          case rel => exact ⟨j + 1, by omega, by go_num, by rw [← HX.out], hb1⟩
          case measure => simp [intOf]; omega
        · obtain rfl : j = T := by omega
          generalize xs j = s at hxz
          have hji : ¬ (j : Int) < (j : Int) := by omega
          have hone : TV (wr.alloc (.cells #[.string s] 9)) (some ⟨wr.heap.size, 0, none⟩) 1 [s] := SV.lit (k := 1) wr (tcells [s]) 1 9 rfl (tcells_one _)
          have hsm : Sm [s] := fun x hx => by rw [List.mem_singleton.1 hx]; omega
          have HPB := Lib.hid (putT_bytes (l := [s]) (by simp))
          go_wp2_with fail
          refine (putT_any _ 1 1 [s] _ hone hsm (by omega)).mono ?_
          rintro e w5 ⟨vp, rfl, op, hb5⟩
          obtain ⟨ap', cp', rfl, hcp', -, bp', -⟩ := op.bvn HPB.out _ rfl
          have hw5 := after1 hb5
          replace hb1 := Below.then hb1 hw5
          clear op hb5 hw5 hone
          go_wp2_with fail
          refine (takeT_any ap' _ cp' _ _ bp' hcp').mono ?_
          rintro e w6 he
          by_cases h60 : j ≤ 60
          · have h6i : (j : Int) ≤ 60 := by omega
            obtain ⟨A6, N6, C6, rfl, -, tv6, hb6⟩ := he.yes (l := [s]) ⟨by simp, fun x hx => by rw [List.mem_singleton.1 hx]; omega⟩
            obtain rfl : N6 = 1 := by have := TV.len tv6; simpa using this.symm
            obtain ⟨b6, o6, rfl, c6⟩ := TV.at tv6 0 (by omega)
            have c6' : w6.cell? ⟨b6, o6, none⟩ = some (.string s) := c6
            have hss : (s.toList == s.toList) = true := by simp
            replace hb1 := Below.then hb1 hb6
            clear he hb6 tv6 c6 bp'
            go_wp2_with fail
            go_ret
            exact ⟨rfl, hb1⟩
          · have h6i : ¬ (j : Int) ≤ 60 := by omega
            have HD := Lib.hid (decide_eq_false h6i)
            obtain ⟨rfl, hb6⟩ := he.no (long_no (s := s) (by omega) (by omega))
            replace hb1 := Below.then hb1 hb6
            clear he hb6 bp'
            go_wp2_with fail
            go_ret
            exact ⟨by show Ending.returned (.bool (!decide ((j : Int) ≤ 60))) = _; rw [HD.out]; rfl, hb1⟩
    · clear hno
      replace hb1 := Below.then hb1 hb2
      go_wp2_with fail
      refine wp_region_noPanic ?_
      refine region_g 23 (Ext (World.drew _)) (by kernel_rfl) (Ext.refl _) (fun hS => ?_)
      refine take_w (i := 0) (v := ?_) (some 23) rfl (by kernel_rfl) rfl (fun _ _ _ h => h) (Or.inl ⟨by rfl, ?_⟩) hS ?_
      rotate_left
      · (intro wq hq; go_simp); first | done | with_reducible rfl
      try simp only [Act.put, List.setIfInBounds_toArray, List.set_cons_zero, List.set_cons_succ]
      replace hS := Till.list 0 hS
      refine take_w (i := 1) (v := ?_) (some 24) rfl (by kernel_rfl) rfl (fun _ _ _ h => h) (Or.inl ⟨by rfl, ?_⟩) hS ?_
      rotate_left
      · (intro wq hq; go_simp); first | done | with_reducible rfl
      try simp only [Act.put, List.setIfInBounds_toArray, List.set_cons_zero, List.set_cons_succ]
      replace hS := Till.list 1 hS
      refine take_w (i := 2) (v := ?_) (some 25) rfl (by kernel_rfl) rfl (fun _ _ _ h => h) (Or.inl ⟨by rfl, ?_⟩) hS ?_
      rotate_left
      · (intro wq hq; go_simp); first | done | with_reducible rfl
      try simp only [Act.put, List.setIfInBounds_toArray, List.set_cons_zero, List.set_cons_succ]
      replace hS := Till.list 2 hS
      refine take_w (i := 3) (v := undef) (some 26) rfl (by kernel_rfl) rfl (fun _ _ _ h => h) (Or.inr ⟨by rfl, rfl⟩) hS ?_
      try simp only [Act.put, List.setIfInBounds_toArray, List.set_cons_zero, List.set_cons_succ]
      replace hS := Till.list 3 hS
      refine take_w (i := 6) (v := undef) (some 29) rfl (by kernel_rfl) rfl (fun _ _ _ h => h) (Or.inr ⟨by rfl, rfl⟩) hS ?_
      try simp only [Act.put, List.setIfInBounds_toArray, List.set_cons_zero, List.set_cons_succ]
      replace hS := Till.list 6 hS
      refine take_w (i := 4) (v := undef) (some 27) rfl (by kernel_rfl) rfl (fun _ _ _ h => h) (Or.inr ⟨by rfl, rfl⟩) hS ?_
      try simp only [Act.put, List.setIfInBounds_toArray, List.set_cons_zero, List.set_cons_succ]
      replace hS := Till.list 4 hS
      refine take_w (i := 7) (v := undef) (some 30) rfl (by kernel_rfl) rfl (fun _ _ _ h => h) (Or.inr ⟨by rfl, rfl⟩) hS ?_
      try simp only [Act.put, List.setIfInBounds_toArray, List.set_cons_zero, List.set_cons_succ]
      replace hS := Till.list 7 hS
      refine take_w (i := 5) (v := undef) (some 28) rfl (by kernel_rfl) rfl (fun _ _ _ h => h) (Or.inr ⟨by rfl, rfl⟩) hS ?_
      try simp only [Act.put, List.setIfInBounds_toArray, List.set_cons_zero, List.set_cons_succ]
      replace hS := Till.list 5 hS
      refine take_w (i := 8) (v := undef) (some 31) rfl (by kernel_rfl) rfl (fun _ _ _ h => h) (Or.inr ⟨by rfl, rfl⟩) hS ?_
      try simp only [Act.put, List.setIfInBounds_toArray, List.set_cons_zero, List.set_cons_succ]
      replace hS := Till.list 8 hS
      refine take_w (i := 9) (v := ?_) (some 32) rfl (by kernel_rfl) rfl (fun _ _ _ h => h) (Or.inl ⟨by rfl, ?_⟩) hS ?_
      rotate_left
      · (intro wq hq; go_simp); first | done | with_reducible rfl
      try simp only [Act.put, List.setIfInBounds_toArray, List.set_cons_zero, List.set_cons_succ]
      replace hS := Till.list 9 hS
      refine take_w (i := 10) (v := ?_) (some 33) rfl (by kernel_rfl) rfl (fun _ _ _ h => h) (Or.inl ⟨by rfl, ?_⟩) hS ?_
      rotate_left
      · (intro wq hq; go_simp); first | done | with_reducible rfl
      try simp only [Act.put, List.setIfInBounds_toArray, List.set_cons_zero, List.set_cons_succ]
      replace hS := Till.list 10 hS
      refine take_w (i := 11) (v := ?_) (some 34) rfl (by kernel_rfl) rfl (fun _ _ _ h => h) (Or.inl ⟨by rfl, ?_⟩) hS ?_
      rotate_left
      · (intro wq hq; go_simp); first | done | with_reducible rfl
      try simp only [Act.put, List.setIfInBounds_toArray, List.set_cons_zero, List.set_cons_succ]
      replace hS := Till.list 11 hS
      refine take_w (i := 12) (v := ?_) (some 35) rfl (by kernel_rfl) rfl (fun _ _ _ h => h) (Or.inl ⟨by rfl, ?_⟩) hS ?_
      rotate_left
      · (intro wq hq; go_simp); first | done | with_reducible rfl
      try simp only [Act.put, List.setIfInBounds_toArray, List.set_cons_zero, List.set_cons_succ]
      replace hS := Till.list 12 hS
      refine take_w (i := 13) (v := ?_) (some 36) rfl (by kernel_rfl) rfl (fun _ _ _ h => h) (Or.inl ⟨by rfl, ?_⟩) hS ?_
      rotate_left
      · (intro wq hq; go_simp); first | done | with_reducible rfl
      try simp only [Act.put, List.setIfInBounds_toArray, List.set_cons_zero, List.set_cons_succ]
      replace hS := Till.list 13 hS
      refine take_w (i := 14) (v := ?_) (some 37) rfl (by kernel_rfl) rfl (fun _ _ _ h => h) (Or.inl ⟨by rfl, ?_⟩) hS ?_
      rotate_left
      · (intro wq hq; go_simp); first | done | with_reducible rfl
      try simp only [Act.put, List.setIfInBounds_toArray, List.set_cons_zero, List.set_cons_succ]
      replace hS := Till.list 14 hS
      refine take_w (i := 15) (v := ?_) (some 38) rfl (by kernel_rfl) rfl (fun _ _ _ h => h) (Or.inl ⟨by rfl, ?_⟩) hS ?_
      rotate_left
      · (intro wq hq; go_simp); first | done | with_reducible rfl
      try simp only [Act.put, List.setIfInBounds_toArray, List.set_cons_zero, List.set_cons_succ]
      replace hS := Till.list 15 hS
      refine take_w (i := 16) (v := ?_) (some 39) rfl (by kernel_rfl) rfl (fun _ _ _ h => h) (Or.inl ⟨by rfl, ?_⟩) hS ?_
      rotate_left
      · (intro wq hq; go_simp); first | done | with_reducible rfl
      try simp only [Act.put, List.setIfInBounds_toArray, List.set_cons_zero, List.set_cons_succ]
      replace hS := Till.list 16 hS
      refine take_w (i := 17) (v := ?_) (some 40) rfl (by kernel_rfl) rfl (fun _ _ _ h => h) (Or.inl ⟨by rfl, ?_⟩) hS ?_
      rotate_left
      · (intro wq hq; go_simp); first | done | with_reducible rfl
      try simp only [Act.put, List.setIfInBounds_toArray, List.set_cons_zero, List.set_cons_succ]
      replace hS := Till.list 17 hS
      refine take_w (i := 18) (v := ?_) (some 41) rfl (by kernel_rfl) rfl (fun _ _ _ h => h) (Or.inl ⟨by rfl, ?_⟩) hS ?_
      rotate_left
      · (intro wq hq; go_simp); first | done | with_reducible rfl
      try simp only [Act.put, List.setIfInBounds_toArray, List.set_cons_zero, List.set_cons_succ]
      replace hS := Till.list 18 hS
      refine take_w (i := 19) (v := ?_) (some 42) rfl (by kernel_rfl) rfl (fun _ _ _ h => h) (Or.inl ⟨by rfl, ?_⟩) hS ?_
      rotate_left
      · (intro wq hq; go_simp); first | done | with_reducible rfl
      try simp only [Act.put, List.setIfInBounds_toArray, List.set_cons_zero, List.set_cons_succ]
      replace hS := Till.list 19 hS
      refine take_w (i := 20) (v := ?_) (some 43) rfl (by kernel_rfl) rfl (fun _ _ _ h => h) (Or.inl ⟨by rfl, ?_⟩) hS ?_
      rotate_left
      · (intro wq hq; go_simp); first | done | with_reducible rfl
      try simp only [Act.put, List.setIfInBounds_toArray, List.set_cons_zero, List.set_cons_succ]
      replace hS := Till.list 20 hS
      refine take_w (i := 21) (v := ?_) (some 44) rfl (by kernel_rfl) rfl (fun _ _ _ h => h) (Or.inl ⟨by rfl, ?_⟩) hS ?_
      rotate_left
      · (intro wq hq; go_simp); first | done | with_reducible rfl
      try simp only [Act.put, List.setIfInBounds_toArray, List.set_cons_zero, List.set_cons_succ]
      replace hS := Till.list 21 hS
      refine take_w (i := 22) (v := ?_) (some 45) rfl (by kernel_rfl) rfl (fun _ _ _ h => h) (Or.inl ⟨by rfl, ?_⟩) hS ?_
      rotate_left
      · (intro wq hq; go_simp); first | done | with_reducible rfl
      try simp only [Act.put, List.setIfInBounds_toArray, List.set_cons_zero, List.set_cons_succ]
      replace hS := Till.list 22 hS
      refine done_g (by kernel_rfl) (NoPanic.normal ?_) _
      clear hS
      replace hb1 := hb1.drew
      go_wp2_with fail
      go_loopw [8, 9] (fun s i wr => ∃ j : Nat, j ≤ T ∧ i = .int .i64 (j : Int) ∧ s = .string (xs j) ∧ Below w.heap.size w wr) (fun _ i _ => T - (intOf i).toNat)
      case atStart => exact ⟨0, by omega, rfl, rfl, hb1⟩
      case round =>
        clear hb1
        obtain ⟨j, hj, rfl, rfl, hb1⟩ := hrel
        have hxz := xs_size j
        by_cases hlt : j < T
        · have hji : (j : Int) < (T : Int) := by omega
          have HX := Lib.hid (xs_snoc j)
          generalize xs j = s at hxz HX
          have hs1 : ¬ 9223372036854775807 < s.size + 1 := by omega
          go_wp2_with fail
          go_roundw
          case rel => exact ⟨j + 1, by omega, by go_num, by rw [← HX.out], hb1⟩
          case measure => simp [intOf]; omega
        · obtain rfl : j = T := by omega
          generalize xs j = s at hxz
          have hji : ¬ (j : Int) < (j : Int) := by omega
          have hone : TV (wr.alloc (.cells #[.string s] 9)) (some ⟨wr.heap.size, 0, none⟩) 1 [s] := SV.lit (k := 1) wr (tcells [s]) 1 9 rfl (tcells_one _)
          have hsm : Sm [s] := fun x hx => by rw [List.mem_singleton.1 hx]; omega
          have HPB := Lib.hid (putT_bytes (l := [s]) (by simp))
          go_wp2_with fail
          refine (putT_any _ 1 1 [s] _ hone hsm (by omega)).mono ?_
          rintro e w5 ⟨vp, rfl, op, hb5⟩
          obtain ⟨ap', cp', rfl, hcp', -, bp', -⟩ := op.bvn HPB.out _ rfl
          have hw5 := after1 hb5
          replace hb1 := Below.then hb1 hw5
          clear op hb5 hw5 hone
          go_wp2_with fail
          refine (takeT_any ap' _ cp' _ _ bp' hcp').mono ?_
          rintro e w6 he
          by_cases h60 : j ≤ 60
          · have h6i : (j : Int) ≤ 60 := by omega
            obtain ⟨A6, N6, C6, rfl, -, tv6, hb6⟩ := he.yes (l := [s]) ⟨by simp, fun x hx => by rw [List.mem_singleton.1 hx]; omega⟩
            obtain rfl : N6 = 1 := by have := TV.len tv6; simpa using this.symm
            obtain ⟨b6, o6, rfl, c6⟩ := TV.at tv6 0 (by omega)
            have c6' : w6.cell? ⟨b6, o6, none⟩ = some (.string s) := c6
            have hss : (s.toList == s.toList) = true := by simp
            replace hb1 := Below.then hb1 hb6
            clear he hb6 tv6 c6 bp'
            go_wp2_with fail
            go_ret
            exact ⟨rfl, hb1⟩
          · have h6i : ¬ (j : Int) ≤ 60 := by omega
            have HD := Lib.hid (decide_eq_false h6i)
            obtain ⟨rfl, hb6⟩ := he.no (long_no (s := s) (by omega) (by omega))
            replace hb1 := Below.then hb1 hb6
            clear he hb6 bp'
            go_wp2_with fail
            go_ret
            exact ⟨by show Ending.returned (.bool (!decide ((j : Int) ≤ 60))) = _; rw [HD.out]; rfl, hb1⟩
end Go.Proofs.Ytmoppmifhhnolaa
