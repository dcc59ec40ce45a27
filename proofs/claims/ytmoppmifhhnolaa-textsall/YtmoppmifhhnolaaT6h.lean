/- The document's own answers for layer 6: numbered. -/
import Derived.Test.YtmoppmifhhnolaaT6g
namespace Go.Proofs.Ytmoppmifhhnolaa
open Go.ChangeShapes Go.WideShapes Go.ChangeAt Go.RowKit
set_option linter.unusedVariables false

set_option maxHeartbeats 2000000 in
theorem rnumbered_any (N : Nat) (hN : N ≤ 2000) (a0 : Option Addr) (n0 c0 : Nat) (zs : List Int) (w : World) (hv0 : BV w a0 n0 zs) (hc0 : n0 ≤ c0) (hn0 : n0 ≤ 1000000) :
    Calls Try.prog 24 #[.slice a0 n0 c0, .int .i64 (N : Int)] w fun e w' => WayE w w' N (fun u => dictL u = zs) e := by
  have hlz := hv0.1
  have hwN : IntKind.u64.wrap (N : Int) = (N : Int) := u64_same (by omega) (by omega)
  go_enter Try.func24, Try.ntmps24
  by_cases hs0 : (varR zs).2 = 0
  · have hno := Lib.hid (varR_none hs0)
    have HF : Hid (∀ u, Few60 u → u.length = N → ¬ dictL u = zs) := Lib.hid (dict_no_size (fun k r hk => below_none hs0 k r (by omega)))
    clear hs0 hlz
    go_wp2_with fail
    refine (rvar_any a0 n0 c0 zs _ hv0 hc0).mono ?_
    rw [hno.out]
    rintro e w1 ⟨rfl, hb1⟩
    clear hno
    go_wp2_with fail
    go_ret2
    exact .inr ⟨rfl, HF.out, hb1⟩
  obtain ⟨y, rest, hrr, hy0, hy1, hvar⟩ := varR_back zs hv0.2.1 hs0
  have hpos := pv_pos y
  have hl10 := pv_len10 (x := y) (by omega)
  obtain ⟨s, hs⟩ : ∃ s, (pv y).length = s := ⟨_, rfl⟩
  rw [hs] at hvar hpos hl10
  have hsn : n0 = s + rest.length := by
    have := congrArg List.length hrr
    rw [List.length_append, hlz, hs] at this; exact this
  have HV := Lib.hid hvar
  have hsl : s ≤ n0 := by omega
  have HRR := Lib.hid hrr
  have HSS := Lib.hid hs
  clear hs0 hlz hvar hsn hrr hs
  have hs1 : ((s : Int) == 0) = false := by rw [beq_eq_false_iff_ne]; omega
  by_cases hmany : (N : Int) < y
  · have HF : Hid (∀ u, Few60 u → u.length = N → ¬ dictL u = zs) := Lib.hid (dict_no_size (fun k r hk => below_not ⟨hy0, hy1⟩ HRR.out k r (by omega)))
    go_wp2_with fail
    refine (rvar_any a0 n0 c0 zs _ hv0 hc0).mono ?_
    rw [HV.out]
    rintro e w1 ⟨rfl, hb1⟩
    go_wp2_with fail
    go_ret2
    exact .inr ⟨rfl, HF.out, hb1⟩
  obtain ⟨K, rfl⟩ : ∃ K : Nat, y = (K : Int) := ⟨y.toNat, by omega⟩
  have hKi : IntKind.i64.wrap (K : Int) = (K : Int) := by rw [IntKind.wrap_i64]; omega
  have hKu : IntKind.u64.wrap (K : Int) = (K : Int) := u64_same (by omega) (by omega)
  have hKN : K ≤ N := by omega
  obtain ⟨a1, hsl1, bv1⟩ := hv0.slice_lo s c0 hsl hc0
  rw [show zs.drop s = rest by rw [HRR.out, ← HSS.out]; exact List.drop_left' rfl] at bv1
  go_wp2_with fail
  refine (rvar_any a0 n0 c0 zs _ hv0 hc0).mono ?_
  rw [HV.out]
  rintro e w1 ⟨rfl, hb1⟩
  replace bv1 := bv1.below hb1
  clear hv0
  go_wp2_with fail
  refine (reachin_any K (by omega) a1 (n0 - s) (c0 - s) rest _ bv1 (by omega) (by omega)).mono ?_
  rintro e w2 he
  rcases he with ⟨Au, Cu, ws, r1, a2, n2, c2, rfl, hCu, hf, vu, hbd, hc2, hn2, hV2, hb2⟩ | ⟨rfl, hno, hb2⟩
  rotate_left
  · have HF := Lib.hid (dict_no_words hN (by omega) HRR.out hno)
    clear hno
    go_wp2_with fail
    go_ret2
    exact .inr ⟨rfl, HF.out, Below.then hb1 hb2⟩
  replace hb1 := Below.then hb1 hb2
  have hv2 := hV2 _ (bv1.below hb2)
  have HWL := Lib.hid (TV.len vu)
  have HD : Hid (∀ u, Few60 u → u.length = N → dictL u = zs → words u = ws ∧ joinN (placesL u) = r1) := Lib.hid (fun u hu hn hp => dict_rest hN (by omega) HRR.out hbd HWL.out hf hu hn hp)
  clear hV2 bv1 hb2 hbd HRR HSS hsl1
  have o0 : OS 1 (w2.alloc (.cells #[] 9)) w2.heap.size (.slice (some ⟨w2.heap.size, 0, none⟩) 0 0) 0 (tcells (byPlaces ws [])) := OS.lit (k := 1) w2 w2.heap.size (Nat.le_refl _) [] 0 9 rfl (by simp) (by unfold maxLen; omega) _ rfl
  have hw0 : Below w2.heap.size w2 (w2.alloc (.cells #[] 9)) := Joins.below_alloc1 _ _
  go_wp2_with fail
  go_loopw [9, 11, 12] (fun b v i wr => ∃ (j : Nat) (a : Option Addr) (n c : Nat) (ps : List Int) (r : List Int), j ≤ N ∧ i = .int .i64 (j : Int) ∧ b = .slice a n c ∧ n ≤ c ∧ n ≤ n0 ∧ BV w2 a n r ∧ Hid (ps.length = j) ∧ Hid (∀ q ∈ ps, 0 ≤ q ∧ q < (K : Int)) ∧ Hid (r1 = joinN ps ++ r) ∧ OS 1 wr w2.heap.size v j (tcells (byPlaces ws ps)) ∧ Below w2.heap.size w2 wr) (fun _ _ i _ => N - (intOf i).toNat)
  case atStart => exact ⟨0, _, _, _, [], r1, by omega, rfl, rfl, hc2, by omega, hv2, Lib.hid rfl, Lib.hid (fun x hx => by cases hx), Lib.hid rfl, o0, hw0⟩
  case round =>
    clear o0 hw0 hv2 hc2 hn2 HV hpos hs1 hl10 hsl
    obtain ⟨j, a, n, c, ps, r, hj, rfl, rfl, hc, hnn, hv, HP, HQ, HR, ho, hbel⟩ := hrel
    by_cases hlt : j < N
    · have hji : (j : Int) < (N : Int) := by omega
      have hvr := hv.below hbel
      by_cases hs0 : (varR r).2 = 0
      · have hno := Lib.hid (varR_none hs0)
        have HF := Lib.hid (dict_no_place (by omega) HWL.out HD.out HR.out (by rw [HP.out]; exact hlt) HQ.out (fun k r' hk => below_none hs0 k r' (by omega)))
        clear hs0
        go_wp2_with fail
        refine (rvar_any a n c r _ hvr hc).mono ?_
        rw [hno.out]
        rintro e w3 ⟨rfl, hb3⟩
        clear hno
        have hbel3 := Below.then hb1 (Below.then hbel hb3)
        go_wp2_with fail
        go_ret2
        exact .inr ⟨rfl, HF.out, hbel3⟩
      obtain ⟨y, r3, hr3, hz0, hz1, hvar⟩ := varR_back r hvr.2.1 hs0
      have hpos := pv_pos y
      have hl10 := pv_len10 (x := y) (by omega)
      obtain ⟨m, hm⟩ : ∃ m, (pv y).length = m := ⟨_, rfl⟩
      rw [hm] at hvar hpos hl10
      have hmn : m ≤ n := by
        have := congrArg List.length hr3
        rw [List.length_append, hvr.1, hm] at this; omega
      have HV := Lib.hid hvar
      have HR3 := Lib.hid hr3
      have HM := Lib.hid hm
      clear hs0 hvar hr3 hm
      have hs1 : ((m : Int) == 0) = false := by rw [beq_eq_false_iff_ne]; omega
      by_cases hbig : (K : Int) ≤ y
      · have HF := Lib.hid (dict_no_place (by omega) HWL.out HD.out HR.out (by rw [HP.out]; exact hlt) HQ.out (fun k r' hk => below_not ⟨hz0, hz1⟩ HR3.out k r' (by omega)))
        go_wp2_with fail
        refine (rvar_any a n c r _ hvr hc).mono ?_
        rw [HV.out]
        rintro e w3 ⟨rfl, hb3⟩
        have hbel3 := Below.then hb1 (Below.then hbel hb3)
        go_wp2_with fail
        go_ret2
        exact .inr ⟨rfl, HF.out, hbel3⟩
      obtain ⟨x, rfl⟩ : ∃ x : Nat, y = (x : Int) := ⟨y.toNat, by omega⟩
      have hxK : (x : Int) < (K : Int) := by omega
      have hbg : ¬ (K : Int) ≤ (x : Int) := by omega
      obtain ⟨a3, hsl3, bv3⟩ := hv.slice_lo m c hmn hc
      rw [show r.drop m = r3 by rw [HR3.out, ← HM.out]; exact List.drop_left' rfl] at bv3
      have HR4 : Hid (r1 = joinN (ps ++ [(x : Int)]) ++ r3) := Lib.hid (by rw [HR.out, HR3.out, joinN_snoc, List.append_assoc])
      have HQ3 : Hid (∀ q ∈ ps ++ [(x : Int)], 0 ≤ q ∧ q < (K : Int)) := Lib.hid (fun q hq => by
        rcases List.mem_append.1 hq with hq | hq
        · exact HQ.out q hq
        · rw [List.mem_singleton.1 hq]; omega)
      have HBP : Hid (byPlaces ws (ps ++ [(x : Int)]) = byPlaces ws ps ++ [ws.getD x ⟨#[]⟩]) := Lib.hid (by rw [byPlaces_snoc, Int.toNat_natCast])
      obtain ⟨bu, ou, rfl, hcx⟩ := TV.at vu x (by omega)
      go_wp2_with fail
      refine (rvar_any a n c r _ hvr hc).mono ?_
      rw [HV.out]
      rintro e w3 ⟨rfl, hb3⟩
      have hbel3 := Below.then hbel hb3
      replace hcx := keepc hcx hbel3
      replace ho := ho.below hb3
      generalize ws.getD x ⟨#[]⟩ = t at hcx HBP
      have hone : SV 1 (w3.alloc (.cells #[.string t] 9)) (some ⟨w3.heap.size, 0, none⟩) 1 (tcells [t]) := SV.lit (k := 1) w3 (tcells [t]) 1 9 rfl (tcells_one _)
      have ho1 := ho.alloc (.cells #[.string t] 9)
      have hw3 := hbel3.alloc hbel3.size (.cells #[.string t] 9)
      have hsz := hw3.size
      clear ho hbel hbel3 hb3 hvr
      go_wp2_with (at_builtin; refine append_os2 el_texts rfl (.tmp 60) (.tmp 65) rfl w2.heap.size _ j (tcells (byPlaces ws ps)) rfl ho1 _ 1 1 _ rfl hone (by omega) (by omega) hsz ?_; intro v4 w4 ho4 hb4 _ _)
      go_roundw
      case rel => exact ⟨j + 1, _, _, _, ps ++ [(x : Int)], r3, by omega, by go_num, rfl, by omega, by omega, bv3, Lib.hid (by rw [List.length_append, HP.out, List.length_singleton]), HQ3, HR4, by rw [HBP.out, tcells_app]; exact ho4, hw3.trans hb4⟩
      case measure => simp [intOf]; omega
    · obtain rfl : j = N := by omega
      have HF := Lib.hid (dict_done (by omega) (by omega) HD.out HR.out HP.out HQ.out)
      obtain ⟨A', C', rfl, hC1, -, hv', -⟩ := ho.sv
      go_wp2_with fail
      go_ret2
      exact .inl ⟨A', C', byPlaces ws ps, rfl, hC1, byPlaces_few hf ps, hv', HF.out, Below.then hb1 hbel⟩
end Go.Proofs.Ytmoppmifhhnolaa
