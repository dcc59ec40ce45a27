/- The document's own answers for layer 6: each, numbered. -/
import Derived.Test.YtmoppmifhhnolaaT6f
import Derived.Test.YtmoppmifhhnolaaT6v
import Derived.Test.YtmoppmifhhnolaaF
namespace Go.Proofs.Ytmoppmifhhnolaa
open Go.ChangeShapes Go.WideShapes Go.ChangeAt Go.RowKit
set_option linter.unusedVariables false

set_option maxHeartbeats 2000000 in
theorem reachin_any (N : Nat) (hN : N ≤ 2000) (a0 : Option Addr) (n0 c0 : Nat) (zs : List Int) (w : World) (hv0 : BV w a0 n0 zs) (hc0 : n0 ≤ c0) (hn0 : n0 ≤ 1000000) :
    Calls Try.prog 23 #[.slice a0 n0 c0, .int .i64 (N : Int)] w fun e w' => EachE w w' a0 n0 zs N e := by
  have o0 : OS 1 (w.alloc (.cells #[] 9)) w.heap.size (.slice (some ⟨w.heap.size, 0, none⟩) 0 0) 0 (tcells []) := OS.lit (k := 1) w w.heap.size (Nat.le_refl _) [] 0 9 rfl (by simp) (by unfold maxLen; omega) _ rfl
  have hw0 : Below w.heap.size w (w.alloc (.cells #[] 9)) := Joins.below_alloc1 _ _
  go_enter Try.func23, Try.ntmps23
  go_wp2_with fail
  go_loopw [0, 7, 8] (fun b v i wr => ∃ (j : Nat) (a : Option Addr) (n c : Nat) (p : List ByteArray) (r : List Int), j ≤ N ∧ i = .int .i64 (j : Int) ∧ b = .slice a n c ∧ n ≤ c ∧ n ≤ n0 ∧ Hid (∀ V, BV V a0 n0 zs → BV V a n r) ∧ Hid (p.length = j) ∧ Few60 p ∧ Hid (zs = eachL p ++ r) ∧ OS 1 wr w.heap.size v j (tcells p) ∧ Below w.heap.size w wr) (fun _ _ i _ => N - (intOf i).toNat)
  case atStart => exact ⟨0, _, _, _, [], zs, by omega, rfl, rfl, hc0, Nat.le_refl _, Lib.hid (fun V h => h), Lib.hid rfl, (fun x hx => by cases hx), Lib.hid rfl, o0, hw0⟩
  case round =>
    clear o0 hw0
    obtain ⟨j, a, n, c, p, r, hj, rfl, rfl, hc, hnn, HV, HP, hf, HZ, ho, hbel⟩ := hrel
    by_cases hlt : j < N
    · have hji : (j : Int) < (N : Int) := by omega
      have hvr := (HV.out w hv0).below hbel
      have hlr := hvr.1
      by_cases hs0 : (varR r).2 = 0
      · have hno := Lib.hid (varR_none hs0)
        have HF := Lib.hid (each_few HZ.out (by rw [HP.out]; exact hlt) hf (each_bad_none hs0))
        clear hs0 hlr
        go_wp2_with fail
        refine (rvar_any a n c r _ hvr hc).mono ?_
        rw [hno.out]
        rintro e w2 ⟨rfl, hb2⟩
        clear hno
        replace hbel := Below.then hbel hb2
        go_wp2_with fail
        go_ret3
        exact .inr ⟨rfl, HF.out, hbel⟩
      · obtain ⟨y, rest, hrr, hy0, hy1, hvar⟩ := varR_back r hvr.2.1 hs0
        have hpos := pv_pos y
        have hl10 := pv_len10 (x := y) (by omega)
        obtain ⟨s, hs⟩ : ∃ s, (pv y).length = s := ⟨_, rfl⟩
        rw [hs] at hvar hpos hl10
        have hsn : n = s + rest.length := by
          have := congrArg List.length hrr
          rw [List.length_append, hlr, hs] at this; exact this
        have HV2 := Lib.hid hvar
        clear hs0 hlr hvar
        have hs1 : ((s : Int) == 0) = false := by rw [beq_eq_false_iff_ne]; omega
        by_cases hlong : 60 < y
        · have HF := Lib.hid (each_few HZ.out (by rw [HP.out]; exact hlt) hf (each_bad_long ⟨hy0, hy1⟩ hrr hlong))
          clear hrr hsn hs
          go_wp2_with fail
          refine (rvar_any a n c r _ hvr hc).mono ?_
          rw [HV2.out]
          rintro e w2 ⟨rfl, hb2⟩
          replace hbel := Below.then hbel hb2
          go_wp2_with fail
          go_ret3
          exact .inr ⟨rfl, HF.out, hbel⟩
        · obtain ⟨x, rfl⟩ : ∃ x : Nat, y = (x : Int) := ⟨y.toNat, by omega⟩
          have hxi : IntKind.i64.wrap (x : Int) = (x : Int) := by rw [IntKind.wrap_i64]; omega
          have hns : IntKind.i64.wrap ((n : Int) - (s : Int)) = (n : Int) - (s : Int) := by rw [IntKind.wrap_i64]; omega
          by_cases hfew : n - s < x
          · have HF := Lib.hid (each_few HZ.out (by rw [HP.out]; exact hlt) hf (each_bad_few ⟨hy0, hy1⟩ hrr (by omega)))
            have hfi : (n : Int) - (s : Int) < (x : Int) := by omega
            clear hrr hsn hs
            go_wp2_with fail
            refine (rvar_any a n c r _ hvr hc).mono ?_
            rw [HV2.out]
            rintro e w2 ⟨rfl, hb2⟩
            replace hbel := Below.then hbel hb2
            go_wp2_with fail
            go_ret3
            exact .inr ⟨rfl, HF.out, hbel⟩
          · have hfi : ¬ (n : Int) - (s : Int) < (x : Int) := by omega
            obtain ⟨t, ht⟩ : ∃ t, s + x = t := ⟨_, rfl⟩
            have hti : IntKind.i64.wrap ((s : Int) + (x : Int)) = (t : Int) := by rw [IntKind.wrap_i64]; omega
            have htn : t ≤ n := by omega
            have HRR := Lib.hid hrr
            have HSS := Lib.hid hs
            have HTT := Lib.hid ht
            have hrx : x ≤ rest.length := by omega
            have hst : s ≤ t := by omega
            clear hrr hs ht hsn
            go_wp2_with fail
            refine (rvar_any a n c r _ hvr hc).mono ?_
            rw [HV2.out]
            rintro e w2 ⟨rfl, hb2⟩
            have hvr2 := hvr.below hb2
            have hrr := HRR.out
            have hs := HSS.out
            have ht := HTT.out
            replace hbel := Below.then hbel hb2
            replace ho := ho.below hb2
            obtain ⟨a3, hsl3, bv3⟩ := hvr2.slice_lh s t c (by omega) htn hc
            obtain ⟨a4, hsl4, -⟩ := hvr2.slice_lo t c htn hc
            have hrd : r.drop t = rest.drop x := by rw [hrr, ← ht, ← hs, ← List.drop_drop]; rw [List.drop_left' rfl]
            have hrt : (r.drop s).take (t - s) = rest.take x := by rw [hrr, ← hs, List.drop_left' rfl, ← ht, hs, Nat.add_sub_cancel_left]
            have HV4 : Hid (∀ V, BV V a0 n0 zs → BV V a4 (n - t) (rest.drop x)) := Lib.hid (fun V hV => by
              obtain ⟨a5, hsl5, hb5⟩ := (HV.out V hV).slice_lo t c htn hc
              have e1 := (hsl4 V).symm.trans (hsl5 V)
              simp only [Result.ok.injEq, Value.slice.injEq, and_true] at e1
              rw [e1, ← hrd]
              exact hb5)
            rw [hrt] at bv3
            have hcv := fun q => conv_any (bv3.alloc q) (c - s)
            have hcv0 := conv_any bv3 (c - s)
            have hql : (rest.take x).length = x := by rw [List.length_take]; omega
            have hqb := bv3.2.1
            have HST : Hid (eachL p ++ r = eachL (p ++ [strOfNums (rest.take x)]) ++ rest.drop x) := Lib.hid (each_step (by rw [hrr, List.take_append_drop]) (by rw [hql]) hqb)
            have hxs : (strOfNums (rest.take x)).size ≤ 60 := by rw [str_size, hql]; omega
            generalize strOfNums (rest.take x) = q at hcv0 HST hxs
            have hone : SV 1 (w2.alloc (.cells #[.string q] 9)) (some ⟨w2.heap.size, 0, none⟩) 1 (tcells [q]) := SV.lit (k := 1) w2 (tcells [q]) 1 9 rfl (tcells_one _)
            have ho1 := ho.alloc (.cells #[.string q] 9)
            have hb1 := hbel.alloc hbel.size (.cells #[.string q] 9)
            have hsz := hb1.size
            clear hrr hs ht hrd hrt hql hqb bv3 hvr hvr2 hb2 ho hbel hcv
            go_wp2_with (at_builtin; refine append_os2 el_texts rfl (.tmp 37) (.tmp 46) rfl w.heap.size _ j (tcells p) rfl ho1 _ 1 1 _ rfl hone (by omega) (by omega) hsz ?_; intro v3 w3 ho3 hb3 _ _)
            go_roundw
            case rel => exact ⟨j + 1, _, _, _, p ++ [q], rest.drop x, by omega, by go_num, rfl, by omega, by omega, HV4, Lib.hid (by rw [List.length_append, HP.out, List.length_singleton]), few_snoc6 hf hxs, Lib.hid (by rw [HZ.out, HST.out]), by rw [tcells_app]; exact ho3, hb1.trans hb3⟩
            case measure => simp [intOf]; omega
    · obtain rfl : j = N := by omega
      obtain ⟨A', C', rfl, hC1, -, hv', -⟩ := ho.sv
      go_wp2_with fail
      go_ret3
      exact .inl ⟨A', C', p, r, a, n, c, rfl, hC1, hf, hv', HZ.out, hc, hnn, HV.out, hbel⟩
end Go.Proofs.Ytmoppmifhhnolaa
