/- Texts that belong together, one behind the other: QBx, QBy. -/
import Derived.Test.YtbfihajgjbpmaaaGreatPrtD
import Derived.Test.YtbfihajgjbpmaaaGreatGrnF
import Derived.Test.YtbfihajgjbpmaaaGreatSchC
import Derived.Test.YtbfihajgjbpmaaaGreatBase
import Derived.Test.YtbfihajgjbpmaaaGreatGrnC
/- Stage 11: the statements' own helpers: made, shown. -/
namespace Go.Proofs.YtbfihajgjbpmaaaGreat
open Go.ChangeShapes Go.WideShapes Go.ChangeAt Go.RowKit
set_option linter.unusedVariables false
set_option maxRecDepth 4000

/-- the example's rows -/
abbrev exL : List RowV := [[(4, ⟨#[]⟩)], [(9, ⟨#[]⟩)]]
theorem ex_fits (n : Int) : fitsB 1 n ⟨#[]⟩ = true := by unfold fitsB; rw [if_pos (.inl rfl), empty_is]; rfl
theorem ex_row (n : Int) : rowB [1] [(n, ⟨#[]⟩)] = true := by simp [rowB, ex_fits]
theorem ex_rg {n : Int} (h : -9223372036854775808 ≤ n ∧ n ≤ 9223372036854775807) : RgV [(n, ⟨#[]⟩)] := fun v hv => by rw [List.mem_singleton.1 hv]; exact h
theorem ex_fr {n : Int} (h : -9223372036854775808 ≤ n ∧ n ≤ 9223372036854775807) : FR [1] [(n, ⟨#[]⟩)] := fr_row (fun x hx => by rw [List.mem_singleton.1 hx]; omega) (ex_row n) (ex_rg h)
theorem exPrt : Prt (partL [1] 1 1 1 exL) [1] 1 1 1 exL := by
  refine ⟨?_, fun r hr => ?_, rfl⟩
  · rw [chE_sorted (by decide) (by simp) (fun r hr => by
      rcases List.mem_cons.1 hr with rfl | hr
      · exact ex_row 4
      · rw [List.mem_singleton.1 hr]; exact ex_row 9), if_pos]
    refine decide_eq_true (fun i hi => ?_)
    have hi0 : i = 0 := by simp at hi; omega
    subst hi0
    have e := cN_ok (ts := [1]) 1 (ex_fr (n := 4) (by omega)) (ex_fr (n := 9) (by omega))
    show cN [1] 1 [(4, ⟨#[]⟩)] [(9, ⟨#[]⟩)] ≤ 0
    rw [e]
    have e2 : cmpV 1 4 ⟨#[]⟩ 9 ⟨#[]⟩ = cmpI 4 9 := by rw [cmpV_is (by rw [ex_fits, ex_fits]; rfl), if_pos rfl]
    simp [cR, cmpRow, cV, e2, cmpI]
  · rcases List.mem_cons.1 hr with rfl | hr
    · exact ex_rg (by omega)
    · rw [List.mem_singleton.1 hr]; exact ex_rg (by omega)
theorem ex_len : (partL [1] 1 1 1 exL).length ≤ 1000 := by
  have := part_most exPrt.part.1
  simp at this
  omega
theorem one_row (w : World) (x : Int) : RowAt (w.alloc (.cells #[.int .i64 x, .string ⟨#[]⟩] 62)) (.slice (some ⟨w.heap.size, 0, none⟩) 1 1) [(x, ⟨#[]⟩)] :=
  RowAt.of (SV.lit (k := 2) w (vcells [(x, ⟨#[]⟩)]) 1 62 rfl (vcells_one _)) (Nat.le_refl _) (Nat.le_refl _) (show (1 : Nat) ≤ maxLen by unfold maxLen; decide)
set_option maxHeartbeats 2000000 in
theorem shownB_is (w : World) : Calls Tryz.prog 8 #[] w fun e w' => e = .returned (.bool true) ∧ Below w.heap.size w w' := by
  have sx := (Sx.new (w.alloc (.cells #[.int .i64 1] 3)) (some ⟨w.heap.size, 0, none⟩) 1 1 1 1 1 24)
  rw [heap_alloc] at sx
  have hb1 := Joins.below_alloc2 w (.cells #[.int .i64 1] 3) (.cells #[.slice (some ⟨w.heap.size, 0, none⟩) 1 1, .int .i64 1, .int .i64 1, .int .i64 1] 24)
  have iv1 : IV ((w.alloc (.cells #[.int .i64 1] 3)).alloc (.cells #[.slice (some ⟨w.heap.size, 0, none⟩) 1 1, .int .i64 1, .int .i64 1, .int .i64 1] 24)) (some ⟨w.heap.size, 0, none⟩) 1 [1] := SV.alloc (SV.lit (k := 1) w (icells [1]) 1 3 rfl (icells_one _)) _
  have hs1 : ((w.alloc (.cells #[.int .i64 1] 3)).alloc (.cells #[.slice (some ⟨w.heap.size, 0, none⟩) 1 1, .int .i64 1, .int .i64 1, .int .i64 1] 24)).heap.size = w.heap.size + 1 + 1 := by rw [heap_alloc, heap_alloc]
  go_enter Tryz.func8, Tryz.ntmps8
  go_wp2_with fail
  generalize (w.alloc (.cells #[.int .i64 1] 3)).alloc (.cells #[.slice (some ⟨w.heap.size, 0, none⟩) 1 1, .int .i64 1, .int .i64 1, .int .i64 1] 24) = W at *
  have q1 := one_row W 4
  have q1 := RowAt.below q1 (Joins.below_alloc1 _ (.cells #[.int .i64 9, .string ⟨#[]⟩] 62))
  have q2 := one_row (W.alloc (.cells #[.int .i64 4, .string ⟨#[]⟩] 62)) 9
  have rv := RVs.two (T := 46) q1 q2
  have hb4 := (((hb1.alloc hb1.size (.cells #[.int .i64 4, .string ⟨#[]⟩] 62)).alloc (by have := hb1.size; rw [heap_alloc]; omega) (.cells #[.int .i64 9, .string ⟨#[]⟩] 62)).alloc (by have := hb1.size; rw [heap_alloc, heap_alloc]; omega) (.cells #[.slice (some ⟨W.heap.size, 0, none⟩) 1 1, .slice (some ⟨(W.alloc (.cells #[.int .i64 4, .string ⟨#[]⟩] 62)).heap.size, 0, none⟩) 1 1] 46))
  have iv4 := ((SV.alloc iv1 (.cells #[.int .i64 4, .string ⟨#[]⟩] 62)).alloc (.cells #[.int .i64 9, .string ⟨#[]⟩] 62)).alloc (.cells #[.slice (some ⟨W.heap.size, 0, none⟩) 1 1, .slice (some ⟨(W.alloc (.cells #[.int .i64 4, .string ⟨#[]⟩] 62)).heap.size, 0, none⟩) 1 1] 46)
  rw [heap_alloc, heap_alloc, heap_alloc, hs1] at rv
  rw [heap_alloc, hs1] at hb4 iv4
  clear q1 q2 iv1 sx hb1 hs1
  generalize ((W.alloc (.cells #[.int .i64 4, .string ⟨#[]⟩] 62)).alloc (.cells #[.int .i64 9, .string ⟨#[]⟩] 62)).alloc (.cells #[.slice (some ⟨w.heap.size + 1 + 1, 0, none⟩) 1 1, .slice (some ⟨w.heap.size + 1 + 1 + 1, 0, none⟩) 1 1] 46) = W4 at *
  refine (pwrite_any (some ⟨w.heap.size, 0, none⟩) 1 1 [1] 1 1 1 (some ⟨w.heap.size + 1 + 1 + 1 + 1, 0, none⟩) 2 2 exL W4 iv4 (by unfold maxLen; omega) (Nat.le_refl _) rv (by unfold maxLen; omega) exPrt.rg).mono ?_
  rintro e w5 (⟨-, v5, rfl, ou5, hb5⟩ | ⟨hbad, -⟩)
  case inr => exact absurd exPrt.ok hbad
  have ou5 : OU w5 W4.heap.size v5 (partL [1] 1 1 1 exL) := ou5
  have hw5 := Below.then hb4 hb5
  obtain ⟨pl, hpl⟩ : ∃ pl, (partL [1] 1 1 1 exL).length = pl := ⟨_, rfl⟩
  have hplm := ex_len
  rw [hpl] at hplm
  obtain ⟨a5, c5, rfl, h51, -, bv5, -⟩ := ou5.ow.bvn exPrt.part.1.byt pl hpl
  clear ou5 hb4 hb5 rv iv4 hpl
  go_wp2_with fail
  refine (popen_any a5 pl c5 _ w5 bv5 h51 (by omega)).mono ?_
  rintro e w6 ⟨⟨p, ts, K, m, G, l, rfl, hpt, -, hpr⟩ | ⟨rfl, hno⟩, hb6⟩
  case inr => exact absurd exPrt (hno.out _ _ _ _ _)
  obtain ⟨rfl, rfl, rfl, rfl, rfl⟩ := exPrt.one hpr.out
  have hw6 := Below.then hw5 hb6
  clear hpr hw5 hb6 bv5
  go_wp2_with fail
  refine (pmark_any hpt exPrt.part.1 1).mono ?_
  rintro e w7 ⟨⟨-, v7, rfl, o7⟩ | ⟨hbad, -⟩, hb7⟩
  case inr => exact absurd hbad (by decide)
  have hpt7 := hpt.below hb7
  have hw7 := Below.then hw6 hb7
  obtain ⟨a7, c7, rfl, -, -, sv7, -⟩ := o7.sv
  have hc7 : ∃ b off, a7 = some ⟨b, off, none⟩ ∧ w7.cell? ⟨b, off, none⟩ = some (.int .i64 9) := by
    rcases sv7.2.2 with h | ⟨b, off, rfl, hc⟩
    · cases h
    · exact ⟨b, off, rfl, hc 0 (.int .i64 9) rfl⟩
  obtain ⟨b7, f7, rfl, hc7⟩ := hc7
  clear o7 sv7 hpt hb7 hw6
  go_wp2_with fail
  refine (pgrans_any hpt7).mono ?_
  rw [show cntG 1 exL.length = 2 from rfl]
  rintro e w8 ⟨rfl, hw8⟩
  subst hw8
  go_wp2_with fail
  go_ret
  exact ⟨rfl, hw7⟩
end Go.Proofs.YtbfihajgjbpmaaaGreat
/- Stage 11: the statements' own few, short. -/
namespace Go.Proofs.YtbfihajgjbpmaaaGreat
open Go.ChangeShapes Go.WideShapes Go.ChangeAt Go.RowKit
set_option linter.unusedVariables false
set_option maxRecDepth 4000

/-- the first rows, made short -/
def fewP (vss : List RowV) (j : Nat) : List RowV := (vss.take j).map shortR
def fewR (vss : List RowV) : List RowV := fewP vss 40
theorem fewP_snoc {vss : List RowV} {j : Nat} (h : j < vss.length) : fewP vss (j + 1) = fewP vss j ++ [shortR (vss.getD j [])] := by
  rw [fewP, List.take_succ_eq_append_getElem h, List.map_append]; simp [fewP, List.getD, h]
theorem fewR_at {vss : List RowV} {j : Nat} (h : j = 40 ∨ (j ≤ 40 ∧ vss.length ≤ j)) : fewP vss j = fewR vss := by
  rcases h with rfl | ⟨h1, h2⟩
  · rfl
  · rw [fewR, fewP, fewP, List.take_of_length_le h2, List.take_of_length_le (by omega)]
theorem fewR_rg {vss : List RowV} (h : ∀ v ∈ vss, RgV v) : ∀ v ∈ fewR vss, RgV v := by
  intro v hv
  obtain ⟨x, hx, rfl⟩ := List.mem_map.1 hv
  exact shortR_rg (h x (List.mem_of_mem_take hx))
set_option maxHeartbeats 8000000 in
theorem fewB_any (R : Option Addr) (n c : Nat) (vss : List RowV) (w : World) (hr : RVs w R n vss) (hn : n ≤ maxLen) :
    Calls Tryz.prog 10 #[.slice R n c] w fun e w' => ∃ (j : Nat) (v : Value), e = .returned v ∧ j ≤ 40 ∧ OwnRows w' w.heap.size v j (fewR vss) ∧ Below w.heap.size w w' := by
  unfold maxLen at hn
  have hl := Lib.hid hr.1
  have or0 : OwnRows (w.alloc (.cells #[] 46)) w.heap.size (.slice (some ⟨w.heap.size, 0, none⟩) 0 0) 0 (fewP vss 0) := ⟨[], OS.lit (k := 1) w w.heap.size (Nat.le_refl _) [] 0 46 rfl (by simp) (by simp) _ rfl, rfl, fun i hi => by omega⟩
  go_enter Tryz.func10, Tryz.ntmps10
  go_wp2_with fail
  go_loopw [3, 4, 5, 6, 7] (fun o i r kk v7 wr => ∃ (j : Nat), j ≤ n ∧ j ≤ 40 ∧ i = .int .i64 (j : Int) ∧ OwnRows wr w.heap.size o j (fewP vss j) ∧ Below w.heap.size w wr) (fun _ i _ _ _ _ => 40 - (intOf i).toNat)
  case atStart => exact ⟨0, by omega, by omega, rfl, or0, Joins.below_alloc1 _ _⟩
  case round =>
    clear or0
    obtain ⟨j, hj, hj4, rfl, orr, hb⟩ := hrel
    obtain ⟨wi, ewi⟩ : ∃ z, z = wr := ⟨wr, rfl⟩
    subst ewi
    by_cases hlt : j < n
    · have hji : (j : Int) < (n : Int) := by omega
      by_cases h4 : j < 40
      · have hj40 : (j : Int) < 40 := by omega
        obtain ⟨b, off, A1, L1, C1, rfl, hc, hL1, hw1⟩ := hr.at j hlt
        have hc := keepc hc hb
        have hw1 := SV.below hw1 hb
        have HSN := Lib.hid (fewP_snoc (vss := vss) (j := j) (by rw [hl.out]; exact hlt))
        obtain ⟨rj, hrj⟩ : ∃ rj, vss.getD j [] = rj := ⟨_, rfl⟩
        rw [hrj] at hw1 HSN
        have hl2 := Lib.hid (WV.len hw1)
        have ho0 : OS 2 (wi.alloc (.cells #[] 62)) wi.heap.size (.slice (some ⟨wi.heap.size, 0, none⟩) 0 0) 0 (vcells (shortP rj 0)) := OS.lit (k := 2) wi wi.heap.size (by simp) [] 0 62 rfl (by simp) (by simp) _ (by simp)
        unfold maxLen at hL1
        clear hrj
        go_wp2_with fail
        go_loopw [5, 6, 7] (fun r kk v7 wz => ∃ (k : Nat) (a : Option Addr) (c' : Nat), k ≤ L1 ∧ k ≤ 70 ∧ kk = .int .i64 (k : Int) ∧ r = .slice a k c' ∧ OS 2 wz wi.heap.size (.slice a k c') k (vcells (shortP rj k)) ∧ Below wi.heap.size wi wz) (fun _ kk _ _ => 70 - (intOf kk).toNat)
        case atStart => exact ⟨0, _, _, by omega, by omega, rfl, rfl, ho0, Joins.below_alloc1 _ _⟩
        case round =>
          clear ho0
          obtain ⟨k, a, c', hk, hk7, rfl, rfl, ho, hbel⟩ := hrel
          have hsz := hbel.size
          have hcr := keepc hc hbel
          by_cases hltk : k < L1
          · have hki : (k : Int) < (L1 : Int) := by omega
            by_cases h7 : k < 70
            · have hk70 : (k : Int) < 70 := by omega
              obtain ⟨b2, off2, rfl, hd1, hd2⟩ := WV.at hw1 k hltk
              have hd1 := keepc hd1 hbel
              have hd2 := keepc hd2 hbel
              have lb2 := cell_lt hd1
              have HS := Lib.hid (shortP_snoc (vs := rj) (j := k) (by rw [hl2.out]; exact hltk))
              generalize rj.getD k v0 = y at hd1 hd2 HS
              by_cases hs : y.2.size ≤ 70
              · have hs' : (y.2.size : Int) ≤ 70 := by omega
                go_wp2_with (refine append_os el_row rfl (.tmp 48) (.tmp 50) rfl wi.heap.size _ k _ rfl ((ho.alloc _).alloc _) _ 1 1 [.int .i64 y.1, .string y.2] rfl (SV.lit' (k := 2) _ [.int .i64 y.1, .string y.2] 1 62 rfl (two_one _ _) _ (by simp)) (by omega) (by omega) (by simp; omega) ?_; intro v2 w2 ho2 hb2)
                obtain ⟨a3, c3, rfl⟩ := ho2.shape
                have hw2 : Below wi.heap.size wi w2 := ((hbel.alloc (by omega) _).alloc (by simp; omega) _).trans (hb2.mono (by omega))
                have ho3 : OS 2 w2 wi.heap.size (.slice a3 (k + 1) c3) (k + 1) (vcells (shortP rj (k + 1))) := by
                  rw [HS.out, vcells_app]
                  simpa only [vcells, cut7, cut_all hs] using ho2
                go_wp2_with fail
                go_roundw
                case rel => exact ⟨k + 1, a3, c3, by omega, by omega, by go_num, rfl, ho3, hw2⟩
                case measure => simp [intOf]; omega
              · have hs' : ¬ (y.2.size : Int) ≤ 70 := by omega
                go_wp2_with (refine append_os el_row rfl (.tmp 48) (.tmp 50) rfl wi.heap.size _ k _ rfl ((ho.alloc _).alloc _) _ 1 1 [.int .i64 y.1, .string (y.2.extract 0 70)] rfl (SV.lit' (k := 2) _ [.int .i64 y.1, .string (y.2.extract 0 70)] 1 62 rfl (two_one _ _) _ (by simp)) (by omega) (by omega) (by simp; omega) ?_; intro v2 w2 ho2 hb2)
                obtain ⟨a3, c3, rfl⟩ := ho2.shape
                have hw2 : Below wi.heap.size wi w2 := ((hbel.alloc (by omega) _).alloc (by simp; omega) _).trans (hb2.mono (by omega))
                have ho3 : OS 2 w2 wi.heap.size (.slice a3 (k + 1) c3) (k + 1) (vcells (shortP rj (k + 1))) := by
                  rw [HS.out, vcells_app]
                  simpa only [vcells, cut7, cut_part hs] using ho2
                go_wp2_with fail
                go_roundw
                case rel => exact ⟨k + 1, a3, c3, by omega, by omega, by go_num, rfl, ho3, hw2⟩
                case measure => simp [intOf]; omega
            · have hk70 : ¬ (k : Int) < 70 := by omega
              rw [shortR_at (.inl (by omega))] at ho
              have or6 := orr.below hbel
              have ro5 : RO wr u3.ownBlock (.slice a k c') (shortR rj) := RO.own ho (fun b hb => orr.lt b hb)
              have hbw6 := Below.then hb hbel
              clear orr hbel ho hb
              obtain ⟨cs, ocs, hlr, hro⟩ := or6
              have ho6 := ocs.alloc (.cells #[.slice a k c'] 46)
              have hcl : cs.length = j := by have := ocs.1; omega
              have hsv : SV 1 (wr.alloc (.cells #[.slice a k c'] 46)) (some ⟨wr.heap.size, 0, none⟩) 1 [.slice a k c'] := SV.lit' (k := 1) wr [.slice a k c'] 1 46 rfl (by simp [Value.oneCell']) _ rfl
              have hbase : w.heap.size ≤ (wr.alloc (.cells #[.slice a k c'] 46)).heap.size := by have := hbw6.size; rw [heap_alloc]; omega
              go_wp2_with (at_builtin; refine append_os2 el_rows rfl (.tmp 52) (.tmp 54) rfl w.heap.size u3 j _ rfl ho6 _ 1 1 [.slice a k c'] rfl hsv (by omega) (by omega) hbase ?_; intro v6 w6 ho7 hb6 hk6 hst6)
              have hba := Joins.below_alloc1 wr (.cells #[.slice a k c'] 46)
              have or7 := OwnRows.snoc (v := u3) ho7 hlr hcl (fun i hi => (hro i hi).below hba) (ro5.below hba) hk6 hst6
              have hb7 := (hbw6.alloc hbw6.size (.cells #[.slice a k c'] 46)).trans hb6
              rw [← HSN.out] at or7
              clear ho6 ho7 hb6 hk6 hst6 hba ro5 hro ocs hlr hcl cs hsv hbase hbw6
              go_roundw
              case rel => exact ⟨j + 1, by omega, by omega, by go_num, or7, hb7⟩
              case measure => simp [intOf]; omega
          · have hki : ¬ (k : Int) < (L1 : Int) := by omega
            rw [shortR_at (.inr ⟨hk7, by rw [hl2.out]; omega⟩)] at ho
            have or6 := orr.below hbel
            have ro5 : RO wr u3.ownBlock (.slice a k c') (shortR rj) := RO.own ho (fun b hb => orr.lt b hb)
            have hbw6 := Below.then hb hbel
            clear orr hbel ho hb
            obtain ⟨cs, ocs, hlr, hro⟩ := or6
            have ho6 := ocs.alloc (.cells #[.slice a k c'] 46)
            have hcl : cs.length = j := by have := ocs.1; omega
            have hsv : SV 1 (wr.alloc (.cells #[.slice a k c'] 46)) (some ⟨wr.heap.size, 0, none⟩) 1 [.slice a k c'] := SV.lit' (k := 1) wr [.slice a k c'] 1 46 rfl (by simp [Value.oneCell']) _ rfl
            have hbase : w.heap.size ≤ (wr.alloc (.cells #[.slice a k c'] 46)).heap.size := by have := hbw6.size; rw [heap_alloc]; omega
            go_wp2_with (at_builtin; refine append_os2 el_rows rfl (.tmp 52) (.tmp 54) rfl w.heap.size u3 j _ rfl ho6 _ 1 1 [.slice a k c'] rfl hsv (by omega) (by omega) hbase ?_; intro v6 w6 ho7 hb6 hk6 hst6)
            have hba := Joins.below_alloc1 wr (.cells #[.slice a k c'] 46)
            have or7 := OwnRows.snoc (v := u3) ho7 hlr hcl (fun i hi => (hro i hi).below hba) (ro5.below hba) hk6 hst6
            have hb7 := (hbw6.alloc hbw6.size (.cells #[.slice a k c'] 46)).trans hb6
            rw [← HSN.out] at or7
            clear ho6 ho7 hb6 hk6 hst6 hba ro5 hro ocs hlr hcl cs hsv hbase hbw6
            go_roundw
            case rel => exact ⟨j + 1, by omega, by omega, by go_num, or7, hb7⟩
            case measure => simp [intOf]; omega
      · have hj40 : ¬ (j : Int) < 40 := by omega
        rw [fewR_at (.inl (by omega))] at orr
        go_wp2_with fail
        go_ret
        exact ⟨j, _, rfl, hj4, orr, hb⟩
    · have hji : ¬ (j : Int) < (n : Int) := by omega
      rw [fewR_at (.inr ⟨hj4, by rw [hl.out]; omega⟩)] at orr
      go_wp2_with fail
      go_ret
      exact ⟨j, _, rfl, hj4, orr, hb⟩
/-- what short tells -/
def ShortB (w w' : World) (A : Option Addr) (N C : Nat) (k m g : Int) (e : Ending) : Prop :=
  ∃ M, e = .returned (SS A M C k m g) ∧ M ≤ 10 ∧ M ≤ N ∧ Below w.heap.size w w'
set_option maxHeartbeats 1000000 in
theorem shortB_any (A : Option Addr) (N C : Nat) (ts : List Int) (k m g : Int) (w : World) (hv : IV w A N ts) (hC : N ≤ C) (hN : N ≤ maxLen) :
    Calls Tryz.prog 9 #[SS A N C k m g] w fun e w' => ShortB w w' A N C k m g e := by
  unfold maxLen at hN
  by_cases h : (N : Int) ≤ 10
  · go_enter Tryz.func9, Tryz.ntmps9
    go_wp2_with fail
    exact bodyPost_ret (res_ss rfl _ _ rfl (by have := Bk.new (w.alloc (.cells #[.slice A N C, .int .i64 k, .int .i64 m, .int .i64 g] 24)) #[.slice A N C, .int .i64 k, .int .i64 m, .int .i64 g] 24; rw [heap_alloc] at this; exact this.sx)) rfl ⟨N, rfl, by omega, by omega, Joins.below_alloc2 _ _ _⟩
  · have h7 : (10 : Int) ≤ (C : Int) := by omega
    have h7c : 10 ≤ C := by omega
    go_enter Tryz.func9, Tryz.ntmps9
    go_wp2_with fail
    exact bodyPost_ret (res_ss rfl _ _ rfl (by have := Bk.new (w.alloc (.cells #[.slice A 10 C, .int .i64 k, .int .i64 m, .int .i64 g] 24)) #[.slice A 10 C, .int .i64 k, .int .i64 m, .int .i64 g] 24; rw [heap_alloc] at this; exact this.sx)) rfl ⟨10, rfl, by omega, by omega, Joins.below_alloc2 _ _ _⟩
theorem IV.takesB {w : World} {A : Option Addr} {N : Nat} {ts : List Int} (h : IV w A N ts) (k : Nat) (hk : k ≤ N) : IV w A k (ts.take k) := by
  have := SV.take h k hk
  have e : (icells ts).take (k * 1) = icells (ts.take k) := by simp [icells, List.map_take]
  rwa [e] at this
end Go.Proofs.YtbfihajgjbpmaaaGreat
