/- Texts that belong together, one behind the other: C2r. -/
import Derived.Test.YtbfihajgjbpmaaaGreatCrc
import Derived.Test.YtbfihajgjbpmaaaGreatOwn
/- The document's own answers for layer 2: contracts. -/
namespace Go.Proofs.YtbfihajgjbpmaaaGreat
open Go.ChangeShapes Go.WideShapes Go.ChangeAt Go.RowKit
set_option linter.unusedVariables false
set_option maxRecDepth 4000

theorem ref_step_ne (q d : Nat) (h : ¬ d % 2 = q % 2) : stepN (q ^^^ d) = (q / 2 ^^^ 3988292384) ^^^ d / 2 := by
  unfold stepN
  have hx := xor_low q d
  rw [if_pos (by rw [hx]; omega), xor_half, Nat.xor_assoc, Nat.xor_assoc, Nat.xor_comm (d / 2)]
theorem ref_step_eq (q d : Nat) (h : d % 2 = q % 2) : stepN (q ^^^ d) = q / 2 ^^^ d / 2 := by
  unfold stepN
  have hx := xor_low q d
  rw [if_neg (by rw [hx]; omega), xor_half]
theorem half_lt {d j : Nat} (hj : j < 8) (h : d < 2 ^ (8 - j)) : d / 2 < 2 ^ (8 - (j + 1)) := by
  have e : 2 ^ (8 - j) = 2 ^ (8 - (j + 1)) * 2 := by rw [← Nat.pow_succ]; congr 1; omega
  omega
theorem small_d {d j : Nat} (h : d < 2 ^ (8 - j)) : d ≤ 4294967295 := by
  have : 2 ^ (8 - j) ≤ 2 ^ 8 := Nat.pow_le_pow_right (by omega) (by omega)
  omega

set_option maxHeartbeats 1000000 in
theorem rsum_any (a : Option Addr) (n cap : Nat) (zs : List Int) (w : World) (hv : BV w a n zs) (hmax : n ≤ 140737488355328) :
    Calls Tryz.prog 64 #[.slice a n cap] w fun e w' => e = .returned (.int .u32 (crcN zs : Int)) ∧ w' = w := by
  obtain ⟨hlen, hz, hn⟩ := hv
  go_enter Tryz.func64, Tryz.ntmps64
  go_wp2
  go_loop [3, 4] (fun x i => ∃ (k r : Nat), k ≤ n ∧ i = .int .i64 (k : Int) ∧ x = .int .u32 (r : Int) ∧ r < 4294967296 ∧ Hid (r = regN (zs.take k) 4294967295)) (fun _ i => n - (intOf i).toNat)
  case atStart => exact ⟨0, 4294967295, by omega, rfl, rfl, by omega, rfl⟩
  case round =>
    obtain ⟨k, r, hkn, rfl, rfl, hr, HR⟩ := hrel
    by_cases hlt : k < n
    · rcases hn with hn | ⟨b, off, rfl, hcell⟩
      · omega
      have hc := hcell k hlt
      obtain ⟨c, hcd⟩ : ∃ c, c = zs.getD k 0 := ⟨_, rfl⟩
      rw [← hcd] at hc
      obtain ⟨hc0, hc1⟩ : 0 ≤ c ∧ c ≤ 255 := by apply hz; rw [hcd]; simp [show k < zs.length from by omega]
      obtain ⟨C, rfl⟩ : ∃ C : Nat, c = C := ⟨c.toNat, by omega⟩
      have HS : Hid (regN (zs.take (k + 1)) 4294967295 = stepsN 8 (r ^^^ C)) := by
        show _ = _
        rw [take_snoc zs k C (by omega) hcd, regN_snoc, ← HR.out, Int.toNat_natCast]
      clear hcd hcell hz HR
      go_wp2
      go_loop [3, 5, 6] (fun x y i => ∃ (j q d : Nat), j ≤ 8 ∧ i = .int .i64 (j : Int) ∧ x = .int .u32 (q : Int) ∧ y = .int .u32 (d : Int) ∧ q < 4294967296 ∧ Hid (d < 2 ^ (8 - j)) ∧ Hid (stepsN j (r ^^^ C) = q ^^^ d)) (fun _ _ i => 8 - (intOf i).toNat)
      case atStart => exact ⟨0, r, C, by omega, rfl, rfl, rfl, hr, (show C < 2 ^ 8 by omega), rfl⟩
      case round =>
        obtain ⟨j, q, d, hj, rfl, rfl, rfl, hq, HD, HQ⟩ := hrel
        have hd := small_d HD.out
        by_cases hj8 : j < 8
        · by_cases hdq : d % 2 = q % 2
          · have hb : ((d : Int) % 2 == (q : Int) % 2) = true := by rw [beq_iff_eq]; omega
            have HN : Hid (stepsN (j + 1) (r ^^^ C) = q / 2 ^^^ d / 2) := by show _ = _; rw [stepsN_last, HQ.out, ref_step_eq q d hdq]
            clear hdq HQ
            go_wp2
            go_round
            case rel => exact ⟨j + 1, q / 2, d / 2, by omega, by go_num, rfl, rfl, by omega, half_lt hj8 HD.out, HN⟩
            case measure => simp [intOf]; omega
          · have hb : ((d : Int) % 2 == (q : Int) % 2) = false := by rw [beq_eq_false_iff_ne]; omega
            have HN : Hid (stepsN (j + 1) (r ^^^ C) = (q / 2 ^^^ 3988292384) ^^^ d / 2) := by show _ = _; rw [stepsN_last, HQ.out, ref_step_ne q d hdq]
            have HP : Hid (bits BinOp.xor IntKind.u32 ((q : Int) / 2) 3988292384 = ((q / 2 ^^^ 3988292384 : Nat) : Int)) := u32_poly q hq
            clear hdq HQ
            go_wp2
            go_round
            case rel => exact ⟨j + 1, q / 2 ^^^ 3988292384, d / 2, by omega, by go_num, by rw [HP.out], rfl, xor_lt32 (by omega) (by omega), half_lt hj8 HD.out, HN⟩
            case measure => simp [intOf]; omega
        · obtain rfl : j = 8 := by omega
          have hd0 : d = 0 := by have := HD.out; simp at this; omega
          subst hd0
          go_wp2
          go_round
          case rel => exact ⟨k + 1, q, by omega, by go_num, rfl, hq, (show _ = _ by rw [HS.out, HQ.out, Nat.xor_zero])⟩
          case measure => simp [intOf]; omega
    · obtain rfl : k = n := by omega
      have HE : Hid (4294967295 - (r : Int) = (crcN zs : Int)) := by
        show _ = _
        have h := not32 r hr
        rw [crcN, show zs = zs.take k from (List.take_of_length_le (by omega)).symm, ← HR.out, h]; omega
      clear HR
      go_wp2
      go_ret
      exact ⟨ret_int HE.out, rfl⟩

set_option maxHeartbeats 400000 in
theorem rfour_any (x : Int) (w : World) (h0 : 0 ≤ x) (h1 : x ≤ 4294967295) :
    Calls Tryz.prog 63 #[.int .u32 x] w fun e w' => ∃ a c, e = .returned (.slice a 4 c) ∧ BV w' a 4 ((w8 x).take 4) ∧ Below w.heap.size w w' := by
  have h2 : IntKind.u64.wrap x = x := by rw [IntKind.wrap_u64]; omega
  have h3 : x ≤ 18446744073709551615 := by omega
  go_enter Tryz.func63, Tryz.ntmps63
  go_wp2_with (go_at_call 38; refine (rput64_any x _ h0 h3).mono ?_; rintro e w1 ⟨v, rfl, ho1, hb1⟩; obtain ⟨a1, c1, rfl, hc1, hB1, -⟩ := ho1.bvn (w8_bytes x) 8 rfl; have hsl := fun wx => slice_hi a1 8 c1 4 (by omega) (by omega) wx)
  go_ret
  exact ⟨a1, c1, rfl, hB1.take 4 (by omega), hb1⟩

set_option maxHeartbeats 400000 in
theorem rframe_any (a : Option Addr) (n cap : Nat) (zs : List Int) (w : World) (hv : BV w a n zs) (hmax : n ≤ 140737488350000) :
    Calls Tryz.prog 32 #[.slice a n cap] w fun e w' => ∃ v, e = .returned v ∧ OW w' w.heap.size v (frameL zs) ∧ Below w.heap.size w w' := by
  have h0 : (0 : Int) ≤ (n : Int) := by omega
  have h1 : (n : Int) ≤ 18446744073709551615 := by omega
  have h10 := pv_len10 (x := (n : Int)) (by omega)
  have HL : Hid (zs.length = n) := hv.1
  have hcr := crcN_lt hv.2.1
  go_enter Tryz.func32, Tryz.ntmps32
  go_wp2_with (go_at_call 62; refine (rputvar_any (n : Int) _ h0 h1).mono ?_; rintro e w1 ⟨v1, rfl, ho1, hb1⟩)
  have hv1 := hv.below hb1
  have hs1 := hb1.size
  refine (rsum_any _ _ _ _ _ hv1 (by omega)).mono ?_
  rintro e w' ⟨rfl, rfl⟩
  go_wp2_with fail
  refine (rfour_any (crcN zs : Int) _ (by omega) (by omega)).mono ?_
  rintro e w2 ⟨a2, c2, rfl, hq2, hb2⟩
  have hq2' : BV w2 a2 4 (sealL zs) := hq2
  have hb2' := hb1.trans (hb2.mono hs1)
  have ho2 := ho1.ow.below hb2
  have hs2 := hb2'.size
  clear hq2 ho1 hv1
  go_wp2_with (first | (at_builtin; refine append_ow rfl (.tmp 6) (.tmp 9) rfl w.heap.size _ _ rfl ho2 _ 4 _ (sealL zs) rfl hq2' (by omega) hs2 ?_; intro v3 w3 ho3 hb3; have hk3 := hb2'.trans hb3; have hv3 := hv.below hk3; have hs3 := hk3.size) | (at_builtin; refine append_ow rfl (.tmp 10) (.tmp 11) rfl w.heap.size _ _ rfl ho3 _ n _ zs rfl hv3 (by rw [List.length_append, sealL_len]; omega) hs3 ?_; intro v4 w4 ho4 hb4; have hk4 := hk3.trans hb4))
  go_ret
  refine ⟨_, rfl, ?_, hk4⟩
  rw [frameL, HL.out]
  exact ho4

set_option maxHeartbeats 1000000 in
theorem runframe_any (a : Option Addr) (n cap : Nat) (zs : List Int) (w : World) (hv : BV w a n zs) (hcap : n ≤ cap) (hmax : n ≤ 140737488350000) :
    Calls Tryz.prog 73 #[.slice a n cap] w fun e w' => ∃ v, e = .returned (.tuple #[v, .int .i64 (unf zs).2.1, .int .i64 (unf zs).2.2]) ∧ OW w' w.heap.size v (unf zs).1 ∧ Below w.heap.size w w' := by
  obtain ⟨hr0, hr1, hk0, hk1, hkn⟩ := varR_bd zs hv.2.1
  obtain ⟨s, hs⟩ : ∃ s, (varR zs).1 = s := ⟨_, rfl⟩
  obtain ⟨k, hk⟩ : ∃ k, (varR zs).2 = k := ⟨_, rfl⟩
  rw [hs] at hr0 hr1
  rw [hk] at hk0 hk1 hkn
  have hlen := hv.1
  have HS : Hid ((varR zs).1 = s) := hs
  have HK : Hid ((varR zs).2 = k) := hk
  clear hs hk
  by_cases h1 : k = 0
  · have HU : Hid (unf zs = ([], 0, 10)) := unf_bad HS.out HK.out (.inl h1)
    subst h1
    go_enter Tryz.func73, Tryz.ntmps73
    go_wp2_with (go_at_call 99; refine (rvar_any _ _ _ _ _ hv hcap).mono ?_; rintro e w1 ⟨rfl, hb1⟩; rw [HS.out, HK.out])
    go_ret3
    rw [HU.out]
    exact ⟨_, rfl, .inl ⟨rfl, rfl⟩, hb1⟩
  · have hk0' : (k == 0) = false := by rw [beq_eq_false_iff_ne]; exact h1
    by_cases h2 : 1048576 < s
    · have HU : Hid (unf zs = ([], 0, 10)) := unf_bad HS.out HK.out (.inr (.inl h2))
      go_enter Tryz.func73, Tryz.ntmps73
      go_wp2_with (go_at_call 99; refine (rvar_any _ _ _ _ _ hv hcap).mono ?_; rintro e w1 ⟨rfl, hb1⟩; rw [HS.out, HK.out])
      go_ret3
      rw [HU.out]
      exact ⟨_, rfl, .inl ⟨rfl, rfl⟩, hb1⟩
    · obtain ⟨S, rfl⟩ : ∃ S : Nat, s = S := ⟨s.toNat, by omega⟩
      obtain ⟨K, rfl⟩ : ∃ K : Nat, k = K := ⟨k.toNat, by omega⟩
      have hw1 : IntKind.i64.wrap (S : Int) = (S : Int) := by rw [IntKind.wrap_i64]; omega
      by_cases h3 : (n : Int) - (K : Int) < 4 + (S : Int)
      · have HU : Hid (unf zs = ([], 0, 10)) := unf_bad HS.out HK.out (.inr (.inr (by omega)))
        go_enter Tryz.func73, Tryz.ntmps73
        go_wp2_with (go_at_call 99; refine (rvar_any _ _ _ _ _ hv hcap).mono ?_; rintro e w1 ⟨rfl, hb1⟩; rw [HS.out, HK.out])
        go_ret3
        rw [HU.out]
        exact ⟨_, rfl, .inl ⟨rfl, rfl⟩, hb1⟩
      · have HU : Hid (unf zs = _) := unf_some HS.out HK.out (by omega)
        obtain ⟨b, off, rfl, -⟩ : ∃ b off, a = some ⟨b, off, none⟩ ∧ True := by
          rcases hv.2.2 with h | ⟨b, off, h, _⟩
          · omega
          · exact ⟨b, off, h, trivial⟩
        have hD := hv.part cap (K + 4) S hcap (by omega)
        have hF := hv.part cap K 4 hcap (by omega)
        have hsD := fun wx => slice_lh b off n cap ((K : Int) + 4) ((K : Int) + 4 + (S : Int)) (K + 4) S (by omega) (by omega) (by omega) wx
        have hsF := fun wx => slice_lh b off n cap (K : Int) ((K : Int) + 4) K 4 (by omega) (by omega) (by omega) wx
        generalize (zs.drop (K + 4)).take S = D at *
        generalize (zs.drop K).take 4 = F at *
        generalize cutAt b off cap (K + 4) = aD at *
        generalize cutAt b off cap K = aF at *
        have hDb := hD.2.1
        have HDl : Hid (D.length = S) := hD.1
        have hS48 : S ≤ 140737488355328 := by omega
        have hcr := crcN_lt hDb
        have hw2 : IntKind.i64.wrap ((K : Int) + 4) = (K : Int) + 4 := by rw [IntKind.wrap_i64]; omega
        go_enter Tryz.func73, Tryz.ntmps73
        go_wp2_with (first | (go_at_call 99; refine (rvar_any _ _ _ _ _ hv hcap).mono ?_; rintro e w1 ⟨rfl, hb1⟩; rw [HS.out, HK.out]; have hD1 := hD.below hb1) | (at_builtin; refine append_ow rfl (.tmp 29) (.tmp 38) rfl w1.heap.size _ [] rfl (OW.empty _ _ (Nat.le_refl _) _ rfl) _ S _ D rfl (hD1.alloc _) (by simp only [List.length_nil]; omega) (by rw [heap_alloc]; omega) ?_; intro v2 w2 ho2 hb2; rw [List.nil_append] at ho2; obtain ⟨aO, cO, rfl, -, -, hO2, -⟩ := id (ho2.bvn hDb S HDl.out)))
        have hk2 : Below w.heap.size w w2 := (hb1.alloc hb1.size _).trans (hb2.mono hb1.size)
        have ho2' := ho2.mono hb1.size
        clear ho2 hb2 hb1 hD1
        refine wp_region_noPanic ?_
        refine wp_region_held_drew (S := Ext (World.drew _)) (by kernel_rfl) (Ext.refl _) (fun hS => ?_)
        refine take_at (i := 0) (v := ?_) (some 40) rfl (by kernel_rfl) (by kernel_rfl) (by kernel_rfl) rfl (fun _ _ _ h => h) (Or.inl ⟨by rfl, ?_⟩) hS ?_
        rotate_left
        · (intro wq hq; go_simp); first | done | with_reducible rfl
        try simp only [Act.put, List.setIfInBounds_toArray, List.set_cons_zero, List.set_cons_succ]
        refine take_at (i := 4) (v := ?_) (some 44) rfl (by kernel_rfl) (by kernel_rfl) (by kernel_rfl) rfl (fun _ _ _ h => h) (Or.inl ⟨by rfl, ?_⟩) hS ?_
        rotate_left
        · (intro wq hq; go_simp); first | done | with_reducible rfl
        try simp only [Act.put, List.setIfInBounds_toArray, List.set_cons_zero, List.set_cons_succ]
        refine take_at (i := 5) (v := ?_) (some 45) rfl (by kernel_rfl) (by kernel_rfl) (by kernel_rfl) rfl (fun _ _ _ h => h) (Or.inl ⟨by rfl, ?_⟩) hS ?_
        rotate_left
        · (intro wq hq; go_simp); first | done | with_reducible rfl
        try simp only [Act.put, List.setIfInBounds_toArray, List.set_cons_zero, List.set_cons_succ]
        refine take_at (i := 6) (v := ?_) (some 46) rfl (by kernel_rfl) (by kernel_rfl) (by kernel_rfl) rfl (fun _ _ _ h => h) (Or.inl ⟨by rfl, ?_⟩) hS ?_
        rotate_left
        · (intro wq hq; go_simp); first | done | with_reducible rfl
        try simp only [Act.put, List.setIfInBounds_toArray, List.set_cons_zero, List.set_cons_succ]
        refine take_at (i := 7) (v := ?_) (some 47) rfl (by kernel_rfl) (by kernel_rfl) (by kernel_rfl) rfl (fun _ _ _ h => h) (Or.inl ⟨by rfl, ?_⟩) hS ?_
        rotate_left
        · (intro wq hq; go_simp); first | done | with_reducible rfl
        try simp only [Act.put, List.setIfInBounds_toArray, List.set_cons_zero, List.set_cons_succ]
        refine take_at (i := 8) (v := ?_) (some 48) rfl (by kernel_rfl) (by kernel_rfl) (by kernel_rfl) rfl (fun _ _ _ h => h) (Or.inl ⟨by rfl, ?_⟩) hS ?_
        rotate_left
        · (intro wq hq; go_simp); first | done | with_reducible rfl
        try simp only [Act.put, List.setIfInBounds_toArray, List.set_cons_zero, List.set_cons_succ]
        refine take_at (i := 9) (v := ?_) (some 49) rfl (by kernel_rfl) (by kernel_rfl) (by kernel_rfl) rfl (fun _ _ _ h => h) (Or.inl ⟨by rfl, ?_⟩) hS ?_
        rotate_left
        · (intro wq hq; have hk := conv_any ((hF.below hk2).ext hq) (cap - K); go_simp); first | done | with_reducible rfl
        try simp only [Act.put, List.setIfInBounds_toArray, List.set_cons_zero, List.set_cons_succ]
        refine wpAnyH_ready (rs := [1]) (by kernel_rfl) (by simp) ?_
        refine AllReadyH.cons rfl (fun K hK => ?_) AllReadyH.nil
        go_simp
        refine (rsum_any _ _ _ _ _ hO2.drew hS48).mono ?_
        rintro e w' ⟨rfl, rfl⟩
        refine hK.out _ _ (Ext.refl _) (fun hS0 => ?_)
        clear hK K
        try simp only [Act.put, List.setIfInBounds_toArray, List.set_cons_zero, List.set_cons_succ]
        clear hS
        refine held_now hS0 (fun hS => ?_)
        clear hS0
        refine wpAnyH_ready (rs := [2]) (by kernel_rfl) (by simp) ?_
        refine AllReadyH.cons rfl (fun K hK => ?_) AllReadyH.nil
        go_simp
        refine (rfour_any (crcN D : Int) _ (by omega) (by omega)).mono ?_
        rintro e w3 ⟨a3, c3, rfl, hq3, hb3⟩
        have hb3' : Below w2.heap.size w2 w3 := (Below.refl _ _).drew.trans hb3
        have hq3' : BV w3 a3 4 (sealL D) := hq3
        refine hK.out _ _ (Ext.below hb3) (fun hS0 => ?_)
        clear hK K
        try simp only [Act.put, List.setIfInBounds_toArray, List.set_cons_zero, List.set_cons_succ]
        clear hS
        refine held_now hS0 (fun hS => ?_)
        clear hS0
        refine take_at (i := 3) (v := ?_) (some 43) rfl (by kernel_rfl) (by kernel_rfl) (by kernel_rfl) rfl (fun _ _ _ h => h) (Or.inl ⟨by rfl, ?_⟩) hS ?_
        rotate_left
        · (intro wq hq; have hk := conv_any (hq3'.ext hq) c3; go_simp); first | done | with_reducible rfl
        try simp only [Act.put, List.setIfInBounds_toArray, List.set_cons_zero, List.set_cons_succ]
        have hstr := str_beq (sealL_bytes D) hF.2.1
        by_cases hfd : sealL D = F
        · have HU2 : Hid (unf zs = (D, (K : Int) + 4 + (S : Int), 0)) := by show _ = _; rw [HU.out, if_pos hfd.symm]
          rw [decide_eq_true hfd] at hstr
          refine take_at (i := 10) (v := ?_) (some 50) rfl (by kernel_rfl) (by kernel_rfl) (by kernel_rfl) rfl (fun _ _ _ h => h) (Or.inl ⟨by rfl, ?_⟩) hS ?_
          rotate_left
          · (intro wq hq; go_simp); first | done | with_reducible rfl
          try simp only [Act.put, List.setIfInBounds_toArray, List.set_cons_zero, List.set_cons_succ]
          refine wpAnyH_done (by kernel_rfl) (NoPanic.normal ?_) _
          have ho3 := ho2'.below hb3'
          have hk3 := hk2.trans (hb3'.mono hk2.size)
          clear hS hq3 hq3' hb3 hb3' hstr hfd ho2' hk2
          go_wp2_with fail
          go_ret3
          rw [HU2.out]
          exact ⟨_, rfl, ho3, hk3⟩
        · have HU2 : Hid (unf zs = ([], 0, 11)) := by show _ = _; rw [HU.out, if_neg (fun h => hfd h.symm)]
          rw [decide_eq_false hfd] at hstr
          refine take_at (i := 10) (v := ?_) (some 50) rfl (by kernel_rfl) (by kernel_rfl) (by kernel_rfl) rfl (fun _ _ _ h => h) (Or.inl ⟨by rfl, ?_⟩) hS ?_
          rotate_left
          · (intro wq hq; go_simp); first | done | with_reducible rfl
          try simp only [Act.put, List.setIfInBounds_toArray, List.set_cons_zero, List.set_cons_succ]
          refine wpAnyH_done (by kernel_rfl) (NoPanic.normal ?_) _
          have hk3 := hk2.trans (hb3'.mono hk2.size)
          clear hS hq3 hq3' hb3 hb3' hstr hfd ho2' hk2
          go_wp2_with fail
          go_ret3
          rw [HU2.out]
          exact ⟨_, rfl, .inl ⟨rfl, rfl⟩, hk3⟩
end Go.Proofs.YtbfihajgjbpmaaaGreat
