/- Texts that belong together, one behind the other: Q9d, Q9e. -/
import Derived.Test.YtloohkgiicgndaaOrdB
/- Rows that are put in order in place, in memory: two halves that are in order are merged: whatever they are. -/
namespace Go.Proofs.Ytloohkgiicgndaa
open Go.ChangeShapes Go.WideShapes Go.ChangeAt Go.RowKit
set_option linter.unusedVariables false
set_option maxRecDepth 4000

set_option maxHeartbeats 4000000 in
theorem sym_step (w0 : World) (g n : Nat) (e : Nat → Rw) (fp : Value) (c : Nat → Nat → Int) (hc : CmpG w0 g n e fp c) (ho : OrdN c) (hn : n ≤ maxN) (D : Nat) (hD : SymC w0 g n e fp c D)
    (a m b : Nat) (s : Nat → Nat) (w : World) (hba : b - a ≤ D + 1) (ham : a < m) (hmb : m < b) (hb : b ≤ n) (hs : StA c n s) (h1 : InS c s a m) (h2 : InS c s m b) (hw : SW w0 g n e s w) (hA : m - a ≠ 1) (hB : b - m ≠ 1) :
    Calls Try.prog 39 #[Gs g n, .int .i64 (a : Int), .int .i64 (m : Int), .int .i64 (b : Int), FV fp] w fun en w' => en = .returned (.tuple #[]) ∧ ∃ t, SymS c n s t a b ∧ SW w0 g n e t w' := by
  have hn' := hn
  unfold maxN at hn'
  obtain ⟨v, hv⟩ : ∃ v, m - a = v := ⟨_, rfl⟩
  have w1 : IntKind.i64.wrap ((m : Int) - (a : Int)) = (v : Int) := by rw [IntKind.wrap_i64]; omega
  have hv1 : ((v : Int) == 1) = false := by rw [beq_eq_false_iff_ne]; omega
  obtain ⟨v', hv'⟩ : ∃ v, b - m = v := ⟨_, rfl⟩
  have w2 : IntKind.i64.wrap ((b : Int) - (m : Int)) = (v' : Int) := by rw [IntKind.wrap_i64]; omega
  have hv2 : ((v' : Int) == 1) = false := by rw [beq_eq_false_iff_ne]; omega
  obtain ⟨d, hd⟩ : ∃ d : Nat, (a + b) / 2 = d := ⟨_, rfl⟩
  have w3 : ((a : Int) + (b : Int)) / 2 = (d : Int) := by omega
  have w4 : IntKind.i64.wrap ((a : Int) + (b : Int)) = (a : Int) + (b : Int) := by rw [IntKind.wrap_i64]; omega
  obtain ⟨N, hN⟩ : ∃ N : Nat, d + m = N := ⟨_, rfl⟩
  have w5 : IntKind.i64.wrap ((d : Int) + (m : Int)) = (N : Int) := by rw [IntKind.wrap_i64]; omega
  have hadb : a < d ∧ d < b := by omega
  have HD := Lib.hid hd
  have HN := Lib.hid hN
  have H1 := Lib.hid h1
  have H2 := Lib.hid h2
  have HSt := Lib.hid hs
  have hlow := hs.low
  clear hv hv' hA hB h1 h2 hs hN hd
  go_enter Try.func39, Try.ntmps39
  go_upto_if 140 with fail
  clear w1 w2 w3 w4 w5 hv1 hv2
  go_cut [20, 21] (fun v1 v2 wx => ∃ (lo hi : Nat), v1 = .int .i64 (lo : Int) ∧ v2 = .int .i64 (hi : Int) ∧ wx = w ∧ Hid (Mir a m b d lo hi))
  case first => as_aux_lemma =>
    by_cases hdm : d < m
    · have hdm' : (d : Int) < (m : Int) := by omega
      obtain ⟨lo, hlo⟩ : ∃ lo, d + m - b = lo := ⟨_, rfl⟩
      have w1 : IntKind.i64.wrap ((N : Int) - (b : Int)) = (lo : Int) := by have := HN.out; have := HD.out; rw [IntKind.wrap_i64]; omega
      have HM := Lib.hid (mir_of ham hmb HD.out lo d (.inl ⟨hdm, hlo.symm, rfl⟩))
      clear hlo
      go_wp2_with fail
      go_meet
      exact ⟨lo, d, rfl, rfl, rfl, HM⟩
    · have hdm' : ¬ (d : Int) < (m : Int) := by omega
      have HM := Lib.hid (mir_of ham hmb HD.out a m (.inr ⟨by omega, rfl, rfl⟩))
      go_wp2_with fail
      go_meet
      exact ⟨a, m, rfl, rfl, rfl, HM⟩
  case rest => as_aux_lemma =>
    obtain ⟨lo, hi, rfl, rfl, rfl, HM⟩ := hcut
    obtain ⟨q, hq⟩ : ∃ q, N - 1 = q := ⟨_, rfl⟩
    have w1 : IntKind.i64.wrap ((N : Int) - 1) = (q : Int) := by have := HN.out; rw [IntKind.wrap_i64]; omega
    have HQ : Hid (d + m - 1 = q) := by have := HN.out; show d + m - 1 = q; omega
    have HMo : Hid (MonP (fun x => c (s (q - x)) (s x) < 0) lo hi) := by
      have := mon_both (q := q) ho H1.out H2.out HM.out.a_lo HM.out.hi_m (by rw [← HQ.out]; exact HM.out.far)
      exact this
    clear hq
    go_wp2_with fail
    clear w1
    go_loopw [20, 21] (fun vi vj wr => ∃ (i j : Nat), vi = .int .i64 (i : Int) ∧ vj = .int .i64 (j : Int) ∧ (lo ≤ i ∧ i ≤ j ∧ j ≤ hi) ∧ SW w0 g n e s wr ∧ Hid (SchP (fun x => c (s (q - x)) (s x) < 0) lo hi i j)) (fun vi vj _ => (intOf vj).toNat - (intOf vi).toNat)
    case atStart => exact ⟨lo, hi, rfl, rfl, by have := HM.out.lo_hi; omega, hw, SchP.start HM.out.lo_hi⟩
    case round =>
      clear hw
      obtain ⟨i, j, rfl, rfl, hij, hr, HJ⟩ := hrel
      by_cases hlt : i < j
      · have hlt' : (i : Int) < (j : Int) := by omega
        obtain ⟨h, hh⟩ : ∃ h : Nat, (i + j) / 2 = h := ⟨_, rfl⟩
        have w1 : ((i : Int) + (j : Int)) / 2 = (h : Int) := by omega
        have hih := half_of hh hlt
        obtain ⟨y, hy⟩ : ∃ y, q - h = y := ⟨_, rfl⟩
        have hfar := HM.out.far h (by omega) (by omega)
        rw [HQ.out, hy] at hfar
        have hhm := HM.out.hi_m
        have w2 : IntKind.i64.wrap ((q : Int) - (h : Int)) = (y : Int) := by rw [IntKind.wrap_i64]; omega
        have w5 : IntKind.i64.wrap ((i : Int) + (j : Int)) = (i : Int) + (j : Int) := by rw [IntKind.wrap_i64]; omega
        have hhn : h < n := by omega
        have hyn : y < n := by omega
        have w3 : IntKind.i64.wrap ((h : Int) + 1) = ((h + 1 : Nat) : Int) := by rw [IntKind.wrap_i64]; omega
        have HY := Lib.hid hy
        clear hh hfar hy hhm
        have e1 := hr.bk.cell y (rowsA_at hyn)
        have e2 := hr.bk.cell h (rowsA_at hhn)
        have cc := hc _ hr.drew.kp (s y) (s h) (hlow y hyn) (hlow h hhn)
        obtain ⟨r, hcr⟩ : ∃ r, c (s y) (s h) = r := ⟨_, rfl⟩
        rw [hcr] at cc
        have HR := Lib.hid hcr
        clear hcr
        go_wp2_with fail
        refine wp_region_noPanic ?_
        refine region_g 11 (Ext (World.drew _)) (by kernel_rfl) (Ext.refl _) (fun hS => ?_)
        refine take_w (i := 0) (v := ?_) (some 158) rfl (by kernel_rfl) rfl (fun _ _ _ h => h) (Or.inl ⟨by rfl, ?_⟩) hS ?_
        rotate_left
        · (intro wq hq; go_simp); first | done | with_reducible rfl
        try simp only [Act.put, List.setIfInBounds_toArray, List.set_cons_zero, List.set_cons_succ]
        replace hS := Till.list 0 hS
        refine take_w (i := 1) (v := ?_) (some 159) rfl (by kernel_rfl) rfl (fun _ _ _ h => h) (Or.inl ⟨by rfl, ?_⟩) hS ?_
        rotate_left
        · (intro wq hq; go_simp); first | done | with_reducible rfl
        try simp only [Act.put, List.setIfInBounds_toArray, List.set_cons_zero, List.set_cons_succ]
        replace hS := Till.list 1 hS
        refine take_w (i := 2) (v := ?_) (some 160) rfl (by kernel_rfl) rfl (fun _ _ _ h => h) (Or.inl ⟨by rfl, ?_⟩) hS ?_
        rotate_left
        · (intro wq hq; go_simp); first | done | with_reducible rfl
        try simp only [Act.put, List.setIfInBounds_toArray, List.set_cons_zero, List.set_cons_succ]
        replace hS := Till.list 2 hS
        refine take_w (i := 3) (v := ?_) (some 161) rfl (by kernel_rfl) rfl (fun _ _ _ h => h) (Or.inl ⟨by rfl, ?_⟩) hS ?_
        rotate_left
        · (intro wq hq; go_simp); first | done | with_reducible rfl
        try simp only [Act.put, List.setIfInBounds_toArray, List.set_cons_zero, List.set_cons_succ]
        replace hS := Till.list 3 hS
        refine take_w (i := 7) (v := ?_) (some 165) rfl (by kernel_rfl) rfl (fun _ _ _ h => h) (Or.inl ⟨by rfl, ?_⟩) hS ?_
        rotate_left
        · (intro wq hq; go_simp); first | done | with_reducible rfl
        try simp only [Act.put, List.setIfInBounds_toArray, List.set_cons_zero, List.set_cons_succ]
        replace hS := Till.list 7 hS
        refine take_w (i := 8) (v := ?_) (some 166) rfl (by kernel_rfl) rfl (fun _ _ _ h => h) (Or.inl ⟨by rfl, ?_⟩) hS ?_
        rotate_left
        · (intro wq hq; go_simp); first | done | with_reducible rfl
        try simp only [Act.put, List.setIfInBounds_toArray, List.set_cons_zero, List.set_cons_succ]
        replace hS := Till.list 8 hS
        refine take_w (i := 4) (v := ?_) (some 162) rfl (by kernel_rfl) rfl (fun _ _ _ h => h) (Or.inl ⟨by rfl, ?_⟩) hS ?_
        rotate_left
        · (intro wq hq; go_simp); first | done | with_reducible rfl
        try simp only [Act.put, List.setIfInBounds_toArray, List.set_cons_zero, List.set_cons_succ]
        replace hS := Till.list 4 hS
        refine take_w (i := 9) (v := ?_) (some 167) rfl (by kernel_rfl) rfl (fun _ _ _ h => h) (Or.inl ⟨by rfl, ?_⟩) hS ?_
        rotate_left
        · (intro wq hq; go_simp); first | done | with_reducible rfl
        try simp only [Act.put, List.setIfInBounds_toArray, List.set_cons_zero, List.set_cons_succ]
        replace hS := Till.list 9 hS
        refine take_w (i := 5) (v := ?_) (some 163) rfl (by kernel_rfl) rfl (fun _ _ _ h => h) (Or.inl ⟨by rfl, ?_⟩) hS ?_
        rotate_left
        · (intro wq hq; go_simp); first | done | with_reducible rfl
        try simp only [Act.put, List.setIfInBounds_toArray, List.set_cons_zero, List.set_cons_succ]
        replace hS := Till.list 5 hS
        refine take_g (i := 10) (v := ?_) [10] (some 168) rfl (by kernel_rfl) rfl (fun _ _ _ h => h) (Or.inl ⟨by rfl, ?_⟩) hS ?_
        rotate_left
        · (intro wq hq; have q0 := hq _ _ _ e1; have q1 := hq _ _ _ e2; go_simp); first | done | with_reducible rfl
        try simp only [Act.put, List.setIfInBounds_toArray, List.set_cons_zero, List.set_cons_succ]
        replace hS := Till.list 10 hS
        refine take_g (i := 6) (v := ?_) [6] (some 164) rfl (by kernel_rfl) rfl (fun _ _ _ h => h) (Or.inl ⟨by rfl, ?_⟩) hS ?_
        rotate_left
        · (intro wq hq; have q0 := hq _ _ _ e1; have q1 := hq _ _ _ e2; go_simp); first | done | with_reducible rfl
        try simp only [Act.put, List.setIfInBounds_toArray, List.set_cons_zero, List.set_cons_succ]
        replace hS := Till.list 6 hS
        refine ready_g (rs := [11]) (by kernel_rfl) (by simp) ?_
        refine AllReadyG.cons rfl (fun Kont hK => ?_) AllReadyG.nil
        go_simp
        refine cc.mono ?_
        rintro en w' ⟨rfl, hb'⟩
        refine hK.out _ _ (Or.inl (by kernel_rfl)) (fun hS0 => ?_)
        clear hK Kont
        try simp only [Act.put, List.setIfInBounds_toArray, List.set_cons_zero, List.set_cons_succ]
        clear hS
        have hS := hS0
        clear hS0
        refine take_w (i := 12) (v := ?_) (some 170) rfl (by kernel_rfl) rfl (fun _ _ _ h => h) (Or.inl ⟨by rfl, ?_⟩) hS ?_
        rotate_left
        · (intro wq hq; go_simp); first | done | with_reducible rfl
        try simp only [Act.put, List.setIfInBounds_toArray, List.set_cons_zero, List.set_cons_succ]
        replace hS := Till.list 12 hS
        refine take_w (i := 13) (v := ?_) (some 171) rfl (by kernel_rfl) rfl (fun _ _ _ h => h) (Or.inl ⟨by rfl, ?_⟩) hS ?_
        rotate_left
        · (intro wq hq; go_simp); first | done | with_reducible rfl
        try simp only [Act.put, List.setIfInBounds_toArray, List.set_cons_zero, List.set_cons_succ]
        replace hS := Till.list 13 hS
        refine done_g (by kernel_rfl) (NoPanic.normal ?_) _
        clear hS
        have h1 := hr.drew.below hb'
        clear hr e1 e2 cc hb' w1 w2 w5
        cases hq : decide (r < 0)
        · have hr0 := of_decide_eq_false hq
          have HJ2 := Lib.hid (HJ.out.up HMo.out hih.1 hih.2 (by rw [HY.out, HR.out]; omega))
          clear hq hr0
          go_wp2_with fail
          go_roundw
          case rel => exact ⟨h + 1, j, by go_num, rfl, by omega, h1, HJ2⟩
          case measure => simp [intOf]; omega
        · have hr0 := of_decide_eq_true hq
          have HJ2 := Lib.hid (HJ.out.down HMo.out hih.1 hih.2 (by rw [HY.out, HR.out]; omega))
          clear hq hr0
          go_wp2_with fail
          go_roundw
          case rel => exact ⟨i, h, rfl, rfl, by omega, h1, HJ2⟩
          case measure => simp [intOf]; omega
      · have hlt' : ¬ (i : Int) < (j : Int) := by omega
        obtain rfl : i = j := by omega
        obtain ⟨E, hE⟩ : ∃ E, d + m - i = E := ⟨_, rfl⟩
        have hcut := cut_of ho HSt.out hb hmb H1.out H2.out HM.out (t := i) (e := E) (by rw [HQ.out]; exact HJ.out) hE
        have w1 : IntKind.i64.wrap ((N : Int) - (i : Int)) = (E : Int) := by have := HN.out; have := hcut.2; rw [IntKind.wrap_i64]; omega
        have HC := Lib.hid hcut.1
        have hc2 := hcut.2
        clear hcut hE
        go_upto_region 39 with fail
        clear w1
        obtain ⟨wv, hwv⟩ : ∃ wv : World, wv = wr := ⟨_, rfl⟩
        rw [← hwv] at hr ⊢
        clear hwv
        go_cut [185] (fun v wx => v = .bool (decide (i < m ∧ m < E)) ∧ wx = wv)
        case first => as_aux_lemma =>
          by_cases k1 : i < m
          · have k1' : (i : Int) < (m : Int) := by omega
            by_cases k2 : m < E
            · have k2' : (m : Int) < (E : Int) := by omega
              go_wp2_with fail
              go_meet
              exact ⟨by simp [k1, k2], rfl⟩
            · have k2' : ¬ (m : Int) < (E : Int) := by omega
              go_wp2_with fail
              go_meet
              exact ⟨by simp [k2], rfl⟩
          · have k1' : ¬ (i : Int) < (m : Int) := by omega
            go_wp2_with fail
            go_meet
            exact ⟨by simp [k1], rfl⟩
        case rest => as_aux_lemma =>
          obtain ⟨rfl, rfl⟩ := hcut
          go_upto_if 185 with fail
          go_cut [] (fun wx => SW w0 g n e (fun x => s (roP i m E x)) wx)
          case first => as_aux_lemma =>
            cases hq : decide (i < m ∧ m < E)
            · have hq := of_decide_eq_false hq
              have h1 : SW w0 g n e (fun x => s (roP i m E x)) wc := hr.same (fun x _ => by
                rcases (show i = m ∨ m = E by omega) with e1 | e1
                · rw [e1, roP_nil]
                · rw [← e1, roP_nil'])
              clear hq hr
              go_wp2_with fail
              go_meet
              exact h1
            · have hq := of_decide_eq_true hq
              go_wp2_with fail
              refine (rotate_any w0 g n e fp (maxN_len hn) i m E hq.1 hq.2 (by omega) s _ hr).mono ?_
              rintro en w' ⟨rfl, h1⟩
              go_wp2_with fail
              go_meet
              exact h1
          case rest => as_aux_lemma =>
            clear hr HJ HMo
            obtain ⟨w1, hw1⟩ : ∃ w1 : World, w1 = wc := ⟨_, rfl⟩
            rw [← hw1] at hcut ⊢
            clear hw1
            have hr := hcut
            clear hcut
            go_upto_region 41 with fail
            go_cut [199] (fun v wx => v = .bool (decide (a < i ∧ i < d)) ∧ wx = w1)
            case first => as_aux_lemma =>
              by_cases k1 : a < i
              · have k1' : (a : Int) < (i : Int) := by omega
                by_cases k2 : i < d
                · have k2' : (i : Int) < (d : Int) := by omega
                  go_wp2_with fail
                  go_meet
                  exact ⟨by simp [k1, k2], rfl⟩
                · have k2' : ¬ (i : Int) < (d : Int) := by omega
                  go_wp2_with fail
                  go_meet
                  exact ⟨by simp [k2], rfl⟩
              · have k1' : ¬ (a : Int) < (i : Int) := by omega
                go_wp2_with fail
                go_meet
                exact ⟨by simp [k1], rfl⟩
            case rest => as_aux_lemma =>
              obtain ⟨rfl, rfl⟩ := hcut
              go_upto_if 199 with fail
              go_cut [] (fun wx => ∃ t, SW w0 g n e t wx ∧ Hid (StA c n t ∧ MvS a d (fun x => s (roP i m E x)) t ∧ InS c t a d))
              case first => as_aux_lemma =>
                cases hq : decide (a < i ∧ i < d)
                · have hq := of_decide_eq_false hq
                  have HR : Hid (StA c n (fun x => s (roP i m E x)) ∧ MvS a d (fun x => s (roP i m E x)) (fun x => s (roP i m E x)) ∧ InS c (fun x => s (roP i m E x)) a d) := ⟨HC.out.st, MvS.refl _ _ _, by
                    rcases (show a = i ∨ i = d by omega) with e1 | e1
                    · exact HC.out.in2.mono (by omega) (Nat.le_refl _)
                    · exact HC.out.in1.mono (Nat.le_refl _) (by omega)⟩
                  clear hq
                  go_wp2_with fail
                  go_meet
                  exact ⟨_, hr, HR⟩
                · have hq := of_decide_eq_true hq
                  go_wp2_with fail
                  refine (hD a i d (fun x => s (roP i m E x)) _ (by omega) hq.1 hq.2 (by omega) HC.out.st HC.out.in1 HC.out.in2 hr).mono ?_
                  rintro en w' ⟨rfl, t, hS, h1⟩
                  go_wp2_with fail
                  go_meet
                  exact ⟨t, h1, hS.st, hS.mv, hS.ins⟩
              case rest => as_aux_lemma =>
                clear hr
                obtain ⟨t, hr, HT⟩ := hcut
                obtain ⟨w2, hw2⟩ : ∃ w2 : World, w2 = wc := ⟨_, rfl⟩
                rw [← hw2] at hr ⊢
                clear hw2
                go_upto_region 43 with fail
                go_cut [213] (fun v wx => v = .bool (decide (d < E ∧ E < b)) ∧ wx = w2)
                case first => as_aux_lemma =>
                  by_cases k1 : d < E
                  · have k1' : (d : Int) < (E : Int) := by omega
                    by_cases k2 : E < b
                    · have k2' : (E : Int) < (b : Int) := by omega
                      go_wp2_with fail
                      go_meet
                      exact ⟨by simp [k1, k2], rfl⟩
                    · have k2' : ¬ (E : Int) < (b : Int) := by omega
                      go_wp2_with fail
                      go_meet
                      exact ⟨by simp [k2], rfl⟩
                  · have k1' : ¬ (d : Int) < (E : Int) := by omega
                    go_wp2_with fail
                    go_meet
                    exact ⟨by simp [k1], rfl⟩
                case rest => as_aux_lemma =>
                  obtain ⟨rfl, rfl⟩ := hcut
                  cases hq : decide (d < E ∧ E < b)
                  · have hq := of_decide_eq_false hq
                    have HR : Hid (SymS c n s t a b) := sym_join HC.out (by omega) (by omega) HT.out.1 HT.out.2.1 HT.out.2.2 HT.out.1 (MvS.refl d b t) (by
                      rcases (show d = E ∨ E = b by omega) with e1 | e1
                      · exact ((HC.out.in4).out HT.out.2.1 (.inr (by omega))).mono (by omega) (Nat.le_refl _)
                      · exact ((HC.out.in3).out HT.out.2.1 (.inr (by omega))).mono (Nat.le_refl _) (by omega))
                    clear hq
                    go_wp2_with fail
                    (try simp only [Exit.inBlock, Exit.then])
                    refine Great.bodyPost_end0 rfl rfl ?_
                    exact ⟨rfl, t, HR.out, hr⟩
                  · have hq := of_decide_eq_true hq
                    go_wp2_with fail
                    refine (hD d E b t _ (by omega) hq.1 hq.2 hb HT.out.1 ((HC.out.in3).out HT.out.2.1 (.inr (by omega))) ((HC.out.in4).out HT.out.2.1 (.inr (by omega))) hr).mono ?_
                    rintro en w' ⟨rfl, u, hS, h1⟩
                    go_wp2_with fail
                    (try simp only [Exit.inBlock, Exit.then])
                    refine Great.bodyPost_end0 rfl rfl ?_
                    exact ⟨rfl, u, sym_join HC.out (by omega) (by omega) HT.out.1 HT.out.2.1 HT.out.2.2 hS.st hS.mv hS.ins, h1⟩
theorem sym_any (w0 : World) (g n : Nat) (e : Nat → Rw) (fp : Value) (c : Nat → Nat → Int) (hc : CmpG w0 g n e fp c) (ho : OrdN c) (hn : n ≤ maxN) : ∀ D, SymC w0 g n e fp c D
  | 0 => fun a m b s w h0 h1 h2 => by omega
  | D + 1 => fun a m b s w h0 h1 h2 h3 h4 h5 h6 h7 => by
    by_cases hA : m - a = 1
    · obtain rfl : m = a + 1 := by omega
      exact sym_left_any w0 g n e fp c hc ho hn a b h3 h2 s h4 h6 w h7
    · by_cases hB : b - m = 1
      · obtain rfl : b = m + 1 := by omega
        exact sym_right_any w0 g n e fp c hc ho hn a m h3 h1 hA s h4 h5 w h7
      · exact sym_step w0 g n e fp c hc ho hn D (sym_any w0 g n e fp c hc ho hn D) a m b s w h0 h1 h2 h3 h4 h5 h6 h7 hA hB
end Go.Proofs.Ytloohkgiicgndaa
/- Rows that are put in order in place, in memory: the whole: blocks of twenty, then twice as many, and so on. -/
namespace Go.Proofs.Ytloohkgiicgndaa
open Go.ChangeShapes Go.WideShapes Go.ChangeAt Go.RowKit
set_option linter.unusedVariables false
set_option maxRecDepth 4000

section
variable {c : Nat → Nat → Int}
/-- all blocks of z are in order -/
def BlS (c : Nat → Nat → Int) (t : Nat → Nat) (z n : Nat) : Prop := ∀ q, InS c t (q * z) (min n ((q + 1) * z))
/-- the first k blocks of z are in order -/
def DonS (c : Nat → Nat → Int) (t : Nat → Nat) (z k : Nat) : Prop := ∀ q, q < k → InS c t (q * z) ((q + 1) * z)
/-- the blocks of z from a on are in order -/
def RsS (c : Nat → Nat → Int) (t : Nat → Nat) (z a n : Nat) : Prop := ∀ q, InS c t (a + q * z) (min n (a + (q + 1) * z))
theorem DonS.zero (c : Nat → Nat → Int) (t : Nat → Nat) (z : Nat) : DonS c t z 0 := fun q h => by omega
theorem mul_up {q k z : Nat} (h : q < k) : (q + 1) * z ≤ k * z := Nat.mul_le_mul_right _ h
theorem DonS.step {t t' : Nat → Nat} {z k a b : Nat} (h : DonS c t z k) (ha : a = k * z) (hb : b = (k + 1) * z) (hm : MvS a b t t') (hi : InS c t' a b) : DonS c t' z (k + 1) := fun q hq => by
  by_cases e : q = k
  · subst e; rw [← ha, ← hb]; exact hi
  · have := mul_up (z := z) (show q < k by omega)
    exact (h q (by omega)).out hm (.inl (by omega))
theorem DonS.close {t : Nat → Nat} {z k a n : Nat} (h : DonS c t z k) (ha : a = k * z) (hi : InS c t a n) (hn : n ≤ (k + 1) * z) (hz : 0 < z) : BlS c t z n := fun q => by
  by_cases e : q < k
  · exact (h q e).mono (Nat.le_refl _) (Nat.min_le_right _ _)
  · by_cases e2 : q = k
    · subst e2; rw [← ha]; exact hi.mono (Nat.le_refl _) (Nat.min_le_left _ _)
    · have := mul_up (z := z) (show k < q by omega)
      refine InS.none _ _ ?_
      have := Nat.min_le_left n ((q + 1) * z)
      omega
theorem BlS.all {t : Nat → Nat} {z n : Nat} (h : BlS c t z n) (hz : n ≤ z) : InS c t 0 n := by
  have := h 0
  rw [Nat.zero_mul, Nat.zero_add, Nat.one_mul, Nat.min_eq_left hz] at this
  exact this
theorem RsS.start {t : Nat → Nat} {z n : Nat} (h : BlS c t z n) : RsS c t z 0 n := fun q => by rw [Nat.zero_add, Nat.zero_add]; exact h q
theorem RsS.step {t t' : Nat → Nat} {z a b n : Nat} (h : RsS c t z a n) (hb : b = a + 2 * z) (hm : MvS a b t t') : RsS c t' z b n := fun q => by
  have e1 : b + q * z = a + (q + 2) * z := by rw [Nat.add_mul, hb]; omega
  have e2 : b + (q + 1) * z = a + (q + 2 + 1) * z := by rw [Nat.add_mul (q + 2), Nat.add_mul q 2, Nat.add_mul q 1, hb]; omega
  rw [e1, e2]
  refine (h (q + 2)).out hm (.inr ?_)
  rw [Nat.add_mul]; omega
theorem RsS.one {t : Nat → Nat} {z a n : Nat} (h : RsS c t z a n) : InS c t a (min n (a + z)) := by
  have := h 0
  rw [Nat.zero_mul, Nat.add_zero, Nat.zero_add, Nat.one_mul] at this
  exact this
theorem RsS.two {t : Nat → Nat} {z a n : Nat} (h : RsS c t z a n) : InS c t (a + z) (min n (a + 2 * z)) := by
  have := h 1
  rw [Nat.one_mul] at this
  exact this
end
set_option maxHeartbeats 4000000 in
theorem stable_any (w0 : World) (g n : Nat) (e : Nat → Rw) (fp : Value) (c : Nat → Nat → Int) (hc : CmpG w0 g n e fp c) (ho : OrdN c) (hn : n ≤ maxN) (s : Nat → Nat) (hs : StA c n s) (w : World) (hw : SW w0 g n e s w) :
    Calls Try.prog 31 #[Gs g n, .int .i64 (n : Int), FV fp] w fun en w' => en = .returned (.tuple #[]) ∧ ∃ t, (StA c n t ∧ InS c t 0 n) ∧ SW w0 g n e t w' := by
  have hn' := hn
  unfold maxN at hn'
  have HSt := Lib.hid hs
  clear hs
  go_enter Try.func31, Try.ntmps31
  go_wp2_with fail
  go_loopw [7, 8] (fun va vb wr => ∃ (k a b : Nat) (t : Nat → Nat), va = .int .i64 (a : Int) ∧ vb = .int .i64 (b : Int) ∧ (a ≤ n ∧ b = a + 20) ∧ SW w0 g n e t wr ∧ Hid (a = k * 20 ∧ StA c n t ∧ DonS c t 20 k)) (fun va _ _ => n - (intOf va).toNat)
  case atStart => exact ⟨0, 0, 20, s, rfl, rfl, by omega, hw, ⟨rfl, HSt.out, DonS.zero _ _ _⟩⟩
  case round =>
    clear hw HSt
    obtain ⟨k, a, b, t, rfl, rfl, hab, hr, HI⟩ := hrel
    by_cases hbn : b ≤ n
    · have hbn' : (b : Int) ≤ (n : Int) := by omega
      obtain ⟨b2, hb2⟩ : ∃ b2, b + 20 = b2 := ⟨_, rfl⟩
      have w1 : IntKind.i64.wrap ((b : Int) + 20) = (b2 : Int) := by rw [IntKind.wrap_i64]; omega
      have HAB := Lib.hid hab
      have HB2 := Lib.hid hb2
      clear hab hb2
      go_wp2_with fail
      refine (insort_any w0 g n e fp c hc ho hn a b (by have := HAB.out; omega) hbn t HI.out.2.1 _ hr).mono ?_
      rintro en w' ⟨rfl, u, hS, h1⟩
      have hI := HI.out
      have HJ : Hid (b = (k + 1) * 20 ∧ StA c n u ∧ DonS c u 20 (k + 1)) := ⟨by have := HAB.out; omega, hS.st, hI.2.2.step hI.1 (by have := HAB.out; omega) hS.mv hS.ins⟩
      clear hI hS
      go_wp2_with fail
      go_roundw
      case rel => exact ⟨k + 1, b, b2, u, rfl, rfl, by have := HB2.out; omega, h1, HJ⟩
      case measure => have := HAB.out; simp [intOf]; omega
    · have hbn' : ¬ (b : Int) ≤ (n : Int) := by omega
      have HAB := Lib.hid hab
      have han : a ≤ n := hab.1
      clear hab
      go_wp2_with fail
      refine (insort_any w0 g n e fp c hc ho hn a n han (Nat.le_refl _) t HI.out.2.1 _ hr).mono ?_
      rintro en w' ⟨rfl, u, hS, h1⟩
      have hI := HI.out
      have HB : Hid (StA c n u ∧ BlS c u 20 n) := ⟨hS.st, DonS.close (k := k) (fun q hq => by
        have := mul_up (z := 20) hq
        exact (hI.2.2 q hq).out hS.mv (.inl (by omega))) hI.1 hS.ins (by have := HAB.out; omega) (by omega)⟩
      clear hI hS hr HI
      obtain ⟨v7, hv7⟩ : ∃ v, Value.int .i64 (a : Int) = v := ⟨_, rfl⟩
      obtain ⟨v8, hv8⟩ : ∃ v, Value.int .i64 (b : Int) = v := ⟨_, rfl⟩
      go_wp2_with fail
      go_loopw [6] (fun vz wr => ∃ (z : Nat) (t : Nat → Nat), vz = .int .i64 (z : Int) ∧ (1 ≤ z ∧ (z ≤ 20 ∨ z ≤ 2 * n)) ∧ SW w0 g n e t wr ∧ Hid (StA c n t ∧ BlS c t z n)) (fun vz _ => n - (intOf vz).toNat)
      case atStart => exact ⟨20, u, rfl, by omega, h1, HB⟩
      case round =>
        clear h1 HB
        obtain ⟨z, t, rfl, hz, hr, HI⟩ := hrel
        by_cases hzn : z < n
        · have hzn' : (z : Int) < (n : Int) := by omega
          obtain ⟨y, hy⟩ : ∃ y, 2 * z = y := ⟨_, rfl⟩
          have w1 : IntKind.i64.wrap (2 * (z : Int)) = (y : Int) := by rw [IntKind.wrap_i64]; omega
          have w2 : IntKind.i64.wrap ((z : Int) * 2) = (y : Int) := by rw [IntKind.wrap_i64]; omega
          have HY := Lib.hid hy
          have hy2 : y ≤ 2305843009213693952 := by omega
          clear hy
          go_wp2_with fail
          go_loopw [7, 8] (fun va vb wr => ∃ (k a b : Nat) (t : Nat → Nat), va = .int .i64 (a : Int) ∧ vb = .int .i64 (b : Int) ∧ a ≤ n ∧ b ≤ 3458764513820540928 ∧ SW w0 g n e t wr ∧ Hid (b = a + y ∧ a = k * y ∧ StA c n t ∧ DonS c t y k ∧ RsS c t z a n)) (fun va _ _ => n - (intOf va).toNat)
          case atStart => exact ⟨0, 0, y, t, rfl, rfl, by omega, by omega, hr, ⟨by omega, by omega, HI.out.1, DonS.zero _ _ _, RsS.start HI.out.2⟩⟩
          case round =>
            clear hr HI
            obtain ⟨k, a, b, t, rfl, rfl, hab, hb3, hr, HI⟩ := hrel
            obtain ⟨m, hm⟩ : ∃ m, a + z = m := ⟨_, rfl⟩
            have w3 : IntKind.i64.wrap ((a : Int) + (z : Int)) = (m : Int) := by rw [IntKind.wrap_i64]; omega
            have HM := Lib.hid hm
            clear hm
            by_cases hbn : b ≤ n
            · have hbn' : (b : Int) ≤ (n : Int) := by omega
              obtain ⟨b2, hb2⟩ : ∃ b2, b + y = b2 := ⟨_, rfl⟩
              have w4 : IntKind.i64.wrap ((b : Int) + (y : Int)) = (b2 : Int) := by rw [IntKind.wrap_i64]; omega
              have hb4 : b2 ≤ 3458764513820540928 := by omega
              have HB2 := Lib.hid hb2
              clear hb2
              go_wp2_with fail
              have hI := HI.out
              have hM := HM.out
              have hY := HY.out
              refine (sym_any w0 g n e fp c hc ho hn (b - a) a m b t _ (Nat.le_refl _) (by omega) (by omega) hbn hI.2.2.1 (by have := hI.2.2.2.2.one; exact this.mono (Nat.le_refl _) (by omega)) (by have := hI.2.2.2.2.two; rw [hM] at this; exact this.mono (Nat.le_refl _) (by omega)) hr).mono ?_
              rintro en w' ⟨rfl, u, hS, h1⟩
              have HJ : Hid (b2 = b + y ∧ b = (k + 1) * y ∧ StA c n u ∧ DonS c u y (k + 1) ∧ RsS c u z b n) := ⟨HB2.out.symm, by rw [Nat.add_mul]; omega, hS.st, hI.2.2.2.1.step hI.2.1 (by rw [Nat.add_mul]; omega) hS.mv hS.ins, hI.2.2.2.2.step (by omega) hS.mv⟩
              have hlt : a < b := by omega
              clear hI hM hY hS
              go_wp2_with fail
              go_roundw
              case rel => exact ⟨k + 1, b, b2, u, rfl, rfl, hbn, hb4, h1, HJ⟩
              case measure => simp [intOf]; omega
            · have hbn' : ¬ (b : Int) ≤ (n : Int) := by omega
              have hI := HI.out
              have hM := HM.out
              have hY := HY.out
              by_cases hmn : m < n
              · have hmn' : (m : Int) < (n : Int) := by omega
                have q1 := hI.2.2.2.2.one
                have q2 := hI.2.2.2.2.two
                rw [hM] at q2
                have H1 : Hid (a < m ∧ InS c t a m ∧ InS c t m n) := ⟨by omega, q1.mono (Nat.le_refl _) (by omega), q2.mono (Nat.le_refl _) (by omega)⟩
                clear hI hM hY q1 q2
                go_wp2_with fail
                refine (sym_any w0 g n e fp c hc ho hn (n - a) a m n t _ (Nat.le_refl _) H1.out.1 hmn (Nat.le_refl _) HI.out.2.2.1 H1.out.2.1 H1.out.2.2 hr).mono ?_
                rintro en w' ⟨rfl, u, hS, h1⟩
                have hI := HI.out
                have HJ : Hid (StA c n u ∧ BlS c u y n) := ⟨hS.st, DonS.close (k := k) (fun q hq => by
                  have := mul_up (z := y) hq
                  exact (hI.2.2.2.1 q hq).out hS.mv (.inl (by omega))) hI.2.1 hS.ins (by rw [Nat.add_mul]; omega) (by have := HY.out; omega)⟩
                clear hI hS
                go_wp2_with fail
                go_roundw
                case rel => exact ⟨y, u, rfl, by have := HY.out; omega, h1, HJ⟩
                case measure => have := HY.out; simp [intOf]; omega
              · have hmn' : ¬ (m : Int) < (n : Int) := by omega
                have q1 := hI.2.2.2.2.one
                have HJ : Hid (StA c n t ∧ BlS c t y n) := ⟨hI.2.2.1, DonS.close (k := k) hI.2.2.2.1 hI.2.1 (q1.mono (Nat.le_refl _) (by omega)) (by rw [Nat.add_mul]; omega) (by omega)⟩
                clear hI hM hY q1
                go_wp2_with fail
                go_roundw
                case rel => exact ⟨y, t, rfl, by have := HY.out; omega, hr, HJ⟩
                case measure => have := HY.out; simp [intOf]; omega
        · have hzn' : ¬ (z : Int) < (n : Int) := by omega
          go_wp2_with fail
          (try simp only [Exit.inBlock, Exit.then])
          refine Great.bodyPost_end0 rfl rfl ?_
          exact ⟨rfl, t, ⟨HI.out.1, HI.out.2.all (by omega)⟩, hr⟩
theorem sortstable_any (w0 : World) (g n : Nat) (e : Nat → Rw) (fp : Value) (c : Nat → Nat → Int) (hc : CmpG w0 g n e fp c) (ho : OrdN c) (hn : n ≤ maxN) (s : Nat → Nat) (hs : StA c n s) (w : World) (hw : SW w0 g n e s w) :
    Calls Try.prog 24 #[Gs g n, FV fp] w fun en w' => en = .returned (.tuple #[]) ∧ ∃ t, (StA c n t ∧ InS c t 0 n) ∧ SW w0 g n e t w' := by
  go_enter Try.func24, Try.ntmps24
  go_wp2_with fail
  refine (stable_any w0 g n e fp c hc ho hn s hs _ hw).mono ?_
  rintro en w' ⟨rfl, h⟩
  go_wp2_with fail
  (try simp only [Exit.inBlock, Exit.then])
  refine Great.bodyPost_end0 rfl rfl ?_
  exact ⟨rfl, h⟩
end Go.Proofs.Ytloohkgiicgndaa
