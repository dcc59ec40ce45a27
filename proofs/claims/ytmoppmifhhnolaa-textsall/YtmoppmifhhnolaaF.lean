/- The document's own Var: its contract. -/
import Derived.Test.YtmoppmifhhnolaaE
import Derived.Test.YtmoppmifhhnolaaQ
namespace Go.Proofs.Ytmoppmifhhnolaa
open Go.ChangeShapes Go.WideShapes Go.ChangeAt Go.RowKit
set_option linter.unusedVariables false

set_option maxHeartbeats 1000000 in
theorem rvar_any (a : Option Addr) (n cap : Nat) (zs : List Int) (w : World) (hv : BV w a n zs) (hcap : n ≤ cap) :
    Calls Try.prog 22 #[.slice a n cap] w fun e w' => e = .returned (.tuple #[.int .u64 (varR zs).1, .int .i64 (varR zs).2]) ∧ Below w.heap.size w w' := by
  have hv0 := hv
  obtain ⟨hlen, hz, hn⟩ := hv
  go_enter Try.func22, Try.ntmps22
  go_wp2
  go_loop [4, 5, 6] (fun x s i => ∃ (k : Nat) (y t : Int), k ≤ 10 ∧ k ≤ n ∧ i = .int .i64 (k : Int) ∧ x = .int .u64 y ∧ s = .int .u64 t ∧ Hid (y = valTo zs k % 18446744073709551616) ∧ Hid (t = 128 ^ k % 18446744073709551616) ∧ Hid (∀ j, j < k → 128 ≤ zs.getD j 0)) (fun _ _ i => n - (intOf i).toNat)
  case atStart => exact ⟨0, 0, 1, by omega, by omega, rfl, rfl, rfl, rfl, rfl, (show ∀ j, j < 0 → _ from fun j hj => by omega)⟩
  case round =>
    obtain ⟨k, y, t, hk10, hkn, rfl, rfl, rfl, HY, HT, HB⟩ := hrel
    by_cases hlt : k < n ∧ k < 10
    · obtain ⟨hlt1, hlt2⟩ := hlt
      rcases hn with hn | ⟨b, off, rfl, hcell⟩
      · omega
      have hc := hcell k hlt1
      obtain ⟨c, hcd⟩ : ∃ c, c = zs.getD k 0 := ⟨_, rfl⟩
      rw [← hcd] at hc
      have hcb : 0 ≤ c ∧ c ≤ 255 := by apply hz; rw [hcd]; simp [show k < zs.length from by omega]
      obtain ⟨hc0, hc1⟩ := hcb
      have hy0 : 0 ≤ y ∧ y ≤ 18446744073709551615 := by rw [HY.out]; omega
      have ht0 : 0 ≤ t ∧ t ≤ 18446744073709551615 := by rw [HT.out]; omega
      obtain ⟨hy0, hy1⟩ := hy0
      obtain ⟨ht0, ht1⟩ := ht0
      have HC : Hid (c = zs.getD k 0) := hcd
      clear hcd hcell
      have hX : IntKind.u64.wrap (y + IntKind.u64.wrap (c % 128 * t)) = valTo zs (k + 1) % 18446744073709551616 := by
        rw [IntKind.wrap_u64, IntKind.wrap_u64, HY.out, HT.out]; exact val_step zs k c HC.out
      have hXb : 0 ≤ IntKind.u64.wrap (y + IntKind.u64.wrap (c % 128 * t)) ∧ IntKind.u64.wrap (y + IntKind.u64.wrap (c % 128 * t)) ≤ 18446744073709551615 := by rw [hX]; omega
      have HX : Hid (_ = _) := hX
      by_cases h128 : c < 128
      · have hvar := rvar_some zs k hz (by omega) HB.out (by rw [← HC.out]; exact h128)
        rw [← hX] at hvar
        have HV : Hid (_ = _) := hvar
        clear hX hvar
        go_wp2
        generalize IntKind.u64.wrap (y + IntKind.u64.wrap (c % 128 * t)) = X at *
        obtain ⟨hX0, hX1⟩ := hXb
        have hwr : IntKind.i64.wrap ((k : Int) + 1) = (k : Int) + 1 := by rw [IntKind.wrap_i64]; omega
        have hs0 : (0 : Int) ≤ (k : Int) + 1 := by omega
        have hs1 : (k : Int) + 1 ≤ (cap : Int) := by omega
        have hst : ((k : Int) + 1).toNat = k + 1 := by omega
        have hT := hv0.take (k + 1) (by omega)
        clear hv0 hz HB HY HT hc HX HC
        by_cases heq : pv X = zs.take (k + 1)
        · rw [← heq] at hT
          have HR : Hid (varR zs = (X, (k : Int) + 1)) := by show _ = _; rw [HV.out, if_pos heq]
          clear heq HV
          refine wp_region_noPanic ?_
          refine wp_region_held_drew (S := Ext (World.drew _)) (by kernel_rfl) (Ext.refl _) (fun hS => ?_)
          refine take_at (i := 0) (v := ?_) (some 34) rfl (by kernel_rfl) (by kernel_rfl) (by kernel_rfl) rfl (fun _ _ _ h => h) (Or.inl ⟨by rfl, ?_⟩) hS ?_
          rotate_left
          · (intro wq hq; go_simp); first | done | with_reducible rfl
          try simp only [Act.put, List.setIfInBounds_toArray, List.set_cons_zero, List.set_cons_succ]
          refine take_at (i := 3) (v := ?_) (some 37) rfl (by kernel_rfl) (by kernel_rfl) (by kernel_rfl) rfl (fun _ _ _ h => h) (Or.inl ⟨by rfl, ?_⟩) hS ?_
          rotate_left
          · (intro wq hq; go_simp); first | done | with_reducible rfl
          try simp only [Act.put, List.setIfInBounds_toArray, List.set_cons_zero, List.set_cons_succ]
          refine take_at (i := 4) (v := ?_) (some 38) rfl (by kernel_rfl) (by kernel_rfl) (by kernel_rfl) rfl (fun _ _ _ h => h) (Or.inl ⟨by rfl, ?_⟩) hS ?_
          rotate_left
          · (intro wq hq; go_simp); first | done | with_reducible rfl
          try simp only [Act.put, List.setIfInBounds_toArray, List.set_cons_zero, List.set_cons_succ]
          refine take_at (i := 5) (v := ?_) (some 39) rfl (by kernel_rfl) (by kernel_rfl) (by kernel_rfl) rfl (fun _ _ _ h => h) (Or.inl ⟨by rfl, ?_⟩) hS ?_
          rotate_left
          · (intro wq hq; go_simp); first | done | with_reducible rfl
          try simp only [Act.put, List.setIfInBounds_toArray, List.set_cons_zero, List.set_cons_succ]
          refine take_at (i := 6) (v := ?_) (some 40) rfl (by kernel_rfl) (by kernel_rfl) (by kernel_rfl) rfl (fun _ _ _ h => h) (Or.inl ⟨by rfl, ?_⟩) hS ?_
          rotate_left
          · (intro wq hq; go_simp); first | done | with_reducible rfl
          try simp only [Act.put, List.setIfInBounds_toArray, List.set_cons_zero, List.set_cons_succ]
          refine take_at (i := 7) (v := ?_) (some 41) rfl (by kernel_rfl) (by kernel_rfl) (by kernel_rfl) rfl (fun _ _ _ h => h) (Or.inl ⟨by rfl, ?_⟩) hS ?_
          rotate_left
          · (intro wq hq; have hk := conv_any (hT.ext hq) cap; go_simp); first | done | with_reducible rfl
          try simp only [Act.put, List.setIfInBounds_toArray, List.set_cons_zero, List.set_cons_succ]
          refine wpAnyH_ready (rs := [1]) (by kernel_rfl) (by simp) ?_
          refine AllReadyH.cons rfl (fun K hK => ?_) AllReadyH.nil
          go_simp
          refine (rputvar_any X _ hX0 hX1).mono ?_
          rintro e w1 ⟨v, rfl, hob, hbel⟩
          obtain ⟨av, cv, rfl, -, hbv, -⟩ := hob.bv (pv_bytes hX0)
          clear hob
          have hbw : Below w.heap.size w w1 := (Below.refl _ _).drew.trans hbel
          refine hK.out _ _ (Ext.below hbel) (fun hS0 => ?_)
          clear hK K
          try simp only [Act.put, List.setIfInBounds_toArray, List.set_cons_zero, List.set_cons_succ]
          clear hS
          refine held_now hS0 (fun hS => ?_)
          clear hS0
          clear hbel
          refine take_at (i := 2) (v := ?_) (some 36) rfl (by kernel_rfl) (by kernel_rfl) (by kernel_rfl) rfl (fun _ _ _ h => h) (Or.inl ⟨by rfl, ?_⟩) hS ?_
          rotate_left
          · (intro wq hq; have hk := conv_any (hbv.ext hq) cv; go_simp); first | done | with_reducible rfl
          try simp only [Act.put, List.setIfInBounds_toArray, List.set_cons_zero, List.set_cons_succ]
          refine take_at (i := 8) (v := ?_) (some 42) rfl (by kernel_rfl) (by kernel_rfl) (by kernel_rfl) rfl (fun _ _ _ h => h) (Or.inl ⟨by rfl, ?_⟩) hS ?_
          rotate_left
          · (intro wq hq; go_simp); first | done | with_reducible rfl
          try simp only [Act.put, List.setIfInBounds_toArray, List.set_cons_zero, List.set_cons_succ]
          refine wpAnyH_done (by kernel_rfl) (NoPanic.normal ?_) _
          clear hbv hT hS
          go_wp2
          go_ret2
          exact ⟨ret_two (by rw [HR.out]) (by rw [HR.out]), hbw⟩
        · have HR : Hid (varR zs = (0, 0)) := by show _ = _; rw [HV.out, if_neg heq]
          have hstr : strOfNums (pv X) ≠ strOfNums (zs.take (k + 1)) := fun h => heq (strOfNums_inj (pv_bytes hX0) hT.2.1 h)
          have hbne : ((strOfNums (pv X)).toList == (strOfNums (zs.take (k + 1))).toList) = false := by
            rw [beq_eq_false_iff_ne]
            exact fun h => hstr (toList_inj h)
          clear heq HV hstr
          generalize zs.take (k + 1) = T at *
          refine wp_region_noPanic ?_
          refine wp_region_held_drew (S := Ext (World.drew _)) (by kernel_rfl) (Ext.refl _) (fun hS => ?_)
          refine take_at (i := 0) (v := ?_) (some 34) rfl (by kernel_rfl) (by kernel_rfl) (by kernel_rfl) rfl (fun _ _ _ h => h) (Or.inl ⟨by rfl, ?_⟩) hS ?_
          rotate_left
          · (intro wq hq; go_simp); first | done | with_reducible rfl
          try simp only [Act.put, List.setIfInBounds_toArray, List.set_cons_zero, List.set_cons_succ]
          refine take_at (i := 3) (v := ?_) (some 37) rfl (by kernel_rfl) (by kernel_rfl) (by kernel_rfl) rfl (fun _ _ _ h => h) (Or.inl ⟨by rfl, ?_⟩) hS ?_
          rotate_left
          · (intro wq hq; go_simp); first | done | with_reducible rfl
          try simp only [Act.put, List.setIfInBounds_toArray, List.set_cons_zero, List.set_cons_succ]
          refine take_at (i := 4) (v := ?_) (some 38) rfl (by kernel_rfl) (by kernel_rfl) (by kernel_rfl) rfl (fun _ _ _ h => h) (Or.inl ⟨by rfl, ?_⟩) hS ?_
          rotate_left
          · (intro wq hq; go_simp); first | done | with_reducible rfl
          try simp only [Act.put, List.setIfInBounds_toArray, List.set_cons_zero, List.set_cons_succ]
          refine take_at (i := 5) (v := ?_) (some 39) rfl (by kernel_rfl) (by kernel_rfl) (by kernel_rfl) rfl (fun _ _ _ h => h) (Or.inl ⟨by rfl, ?_⟩) hS ?_
          rotate_left
          · (intro wq hq; go_simp); first | done | with_reducible rfl
          try simp only [Act.put, List.setIfInBounds_toArray, List.set_cons_zero, List.set_cons_succ]
          refine take_at (i := 6) (v := ?_) (some 40) rfl (by kernel_rfl) (by kernel_rfl) (by kernel_rfl) rfl (fun _ _ _ h => h) (Or.inl ⟨by rfl, ?_⟩) hS ?_
          rotate_left
          · (intro wq hq; go_simp); first | done | with_reducible rfl
          try simp only [Act.put, List.setIfInBounds_toArray, List.set_cons_zero, List.set_cons_succ]
          refine take_at (i := 7) (v := ?_) (some 41) rfl (by kernel_rfl) (by kernel_rfl) (by kernel_rfl) rfl (fun _ _ _ h => h) (Or.inl ⟨by rfl, ?_⟩) hS ?_
          rotate_left
          · (intro wq hq; have hk := conv_any (hT.ext hq) cap; go_simp); first | done | with_reducible rfl
          try simp only [Act.put, List.setIfInBounds_toArray, List.set_cons_zero, List.set_cons_succ]
          refine wpAnyH_ready (rs := [1]) (by kernel_rfl) (by simp) ?_
          refine AllReadyH.cons rfl (fun K hK => ?_) AllReadyH.nil
          go_simp
          refine (rputvar_any X _ hX0 hX1).mono ?_
          rintro e w1 ⟨v, rfl, hob, hbel⟩
          obtain ⟨av, cv, rfl, -, hbv, -⟩ := hob.bv (pv_bytes hX0)
          clear hob
          have hbw : Below w.heap.size w w1 := (Below.refl _ _).drew.trans hbel
          refine hK.out _ _ (Ext.below hbel) (fun hS0 => ?_)
          clear hK K
          try simp only [Act.put, List.setIfInBounds_toArray, List.set_cons_zero, List.set_cons_succ]
          clear hS
          refine held_now hS0 (fun hS => ?_)
          clear hS0
          clear hbel
          refine take_at (i := 2) (v := ?_) (some 36) rfl (by kernel_rfl) (by kernel_rfl) (by kernel_rfl) rfl (fun _ _ _ h => h) (Or.inl ⟨by rfl, ?_⟩) hS ?_
          rotate_left
          · (intro wq hq; have hk := conv_any (hbv.ext hq) cv; go_simp); first | done | with_reducible rfl
          try simp only [Act.put, List.setIfInBounds_toArray, List.set_cons_zero, List.set_cons_succ]
          refine take_at (i := 8) (v := ?_) (some 42) rfl (by kernel_rfl) (by kernel_rfl) (by kernel_rfl) rfl (fun _ _ _ h => h) (Or.inl ⟨by rfl, ?_⟩) hS ?_
          rotate_left
          · (intro wq hq; go_simp); first | done | with_reducible rfl
          try simp only [Act.put, List.setIfInBounds_toArray, List.set_cons_zero, List.set_cons_succ]
          refine wpAnyH_done (by kernel_rfl) (NoPanic.normal ?_) _
          clear hbv hT hS
          go_wp2
          go_ret2
          exact ⟨ret_two (by rw [HR.out]) (by rw [HR.out]), hbw⟩
      · clear hX
        go_wp2
        go_round
        case rel =>
          refine ⟨k + 1, _, _, by omega, by omega, by go_num, rfl, rfl, HX.out, ?_, ?_⟩
          · show _ = _
            rw [IntKind.wrap_u64, HT.out]; exact scale_step k
          · show ∀ j, j < k + 1 → _
            intro j hj
            by_cases hjk : j = k
            · rw [hjk, ← HC.out]; omega
            · exact HB.out j (by omega)
        case measure => simp [intOf]; omega
    · have HR : Hid (varR zs = (0, 0)) := rvar_none zs k hz HB.out (by omega)
      by_cases hlt1 : k < n
      · have h10 : 10 ≤ k := by omega
        go_wp2
        go_ret2
        exact ⟨ret_two (by rw [HR.out]) (by rw [HR.out]), Below.refl _ _⟩
      · go_wp2
        go_ret2
        exact ⟨ret_two (by rw [HR.out]) (by rw [HR.out]), Below.refl _ _⟩
end Go.Proofs.Ytmoppmifhhnolaa
