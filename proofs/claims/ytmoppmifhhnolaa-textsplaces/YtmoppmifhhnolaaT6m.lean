/- TextsPlaces: the walk. -/
import Derived.Test.YtmoppmifhhnolaaT6d
import Derived.Test.YtmoppmifhhnolaaH5
import Derived.Test.YtmoppmifhhnolaaR2
namespace Go.Proofs.Ytmoppmifhhnolaa
open Go.ChangeShapes Go.WideShapes Go.ChangeAt Go.RowKit
set_option linter.unusedVariables false

theorem places_sameD {l : List ByteArray} {i k : Nat} (hi : i < l.length) (hk : k < l.length) : l.getD k ⟨#[]⟩ = l.getD i ⟨#[]⟩ ↔ (placesL l).getD k 0 = (placesL l).getD i 0 := by
  rw [← places_same hi hk]
  simp [List.getD, hi, hk]
theorem places_step {l : List ByteArray} {i : Nat} (h : i < l.length) : ∃ p : Nat, (placesL l).getD i 0 = (p : Int) ∧ p ≤ (words (l.take i)).length ∧ (words (l.take (i + 1))).length = max (words (l.take i)).length (p + 1) :=
  ⟨_, places_at h, place_le _ _, words_take_len h⟩
theorem places_drop {l : List ByteArray} {K : Nat} (h : l.length ≤ 127) (hK : (dictL l).length = K + l.length) : (dictL l).drop K = placesL l := by
  have e := dictL_small h
  rw [e] at hK ⊢
  rw [List.length_cons, List.length_append, places_len] at hK
  obtain rfl : K = (eachL (words l)).length + 1 := by omega
  rw [List.drop_succ_cons]
  exact List.drop_left' rfl
theorem places_room {l : List ByteArray} (h : l.length ≤ 127) : 1 + l.length ≤ (dictL l).length := by
  rw [dictL_small h, List.length_cons, List.length_append, places_len]; omega
theorem dict_head {l : List ByteArray} (h : l.length ≤ 127) : (dictL l).getD 0 0 = ((words l).length : Int) := by rw [dictL_small h]; rfl
set_option maxHeartbeats 4000000 in
theorem places6_is (A0 : Option Addr) (n0 C0 : Nat) (l0 : List ByteArray) (w : World) (hv0 : TV w A0 n0 l0) :
    Calls Try.prog 8 #[.slice A0 n0 C0] w fun e w' => e = .returned (.bool true) ∧ Below w.heap.size w w' := by
  go_enter Try.func8, Try.ntmps8
  go_wp2_with fail
  refine (shown6_is _).mono ?_
  rintro e w0 ⟨rfl, hb1⟩
  have hv1 := hv0.below hb1
  go_wp2_with fail
  refine (few6_any A0 n0 C0 l0 _ hv1).mono ?_
  rintro e w1 ⟨A, N, C, l, rfl, hNC, hN, hv, hf, -, hb2⟩
  replace hb1 := Below.then hb1 hb2
  clear hv0 hv1 hb2
  have hl := TV.len hv
  have HL := Lib.hid hl
  have hl127 : l.length ≤ 127 := by omega
  have HDB := Lib.hid (dictL_bytes (l := l) (by omega))
  have hdl := dictL_len hf.sm (by omega)
  have hroom := places_room hl127
  have hhead := dict_head hl127
  rw [hl] at hroom
  obtain ⟨K, hK⟩ : ∃ K, (dictL l).length = K + N := ⟨(dictL l).length - N, by omega⟩
  have hdrop := places_drop (K := K) hl127 (by rw [hl]; exact hK)
  obtain ⟨D, hD⟩ : ∃ D, (dictL l).length = D := ⟨_, rfl⟩
  rw [hD] at hdl hroom hK
  go_wp2_with fail
  refine (dict_any A N C l _ hv hf.sm (by omega)).mono ?_
  rintro e w2 ⟨vd, rfl, od, hb2⟩
  replace hb1 := Below.then hb1 hb2
  replace hv := hv.below hb2
  obtain ⟨ad, cd, rfl, hcd, -, bd, -⟩ := od.bvn HDB.out D hD
  obtain ⟨ap, hsl, bp⟩ := bd.slice_lo K cd (by omega) hcd
  rw [hdrop, show D - K = N by omega] at bp
  rw [show D - K = N by omega] at hsl
  obtain ⟨b, off, rfl, hcell⟩ := bd.opened (by omega)
  have c0 := hcell 0 (by omega)
  rw [hhead] at c0
  have c0' : w2.cell? ⟨b, off, none⟩ = some (.int .u8 ((words l).length : Int)) := c0
  have hwl := words_len l
  rw [hl] at hwl
  have hwt : IntKind.i64.wrap ((D : Int) - (N : Int)) = (K : Int) := by rw [IntKind.wrap_i64]; omega
  have hi1 : ¬ (D : Int) < 1 + (N : Int) := by omega
  clear hcell c0 od bd hdrop hhead hl hD hb2 hK
  go_wp2_with fail
  clear hsl hwt hi1
  go_loopw [6, 7] (fun m i wr => ∃ (j q : Nat), j ≤ N ∧ i = .int .i64 (j : Int) ∧ m = .int .i64 ((q : Int) - 1) ∧ Hid (q = (words (l.take j)).length) ∧ q ≤ j ∧ Below w2.heap.size w2 wr) (fun _ i _ => N - (intOf i).toNat)
  case atStart => exact ⟨0, 0, by omega, rfl, rfl, Lib.hid rfl, by omega, Below.refl _ _⟩
  case round =>
    obtain ⟨j, q, hj, rfl, rfl, HQ, hqj, hbel⟩ := hrel
    by_cases hlt : j < N
    · have hji : (j : Int) < (N : Int) := by omega
      obtain ⟨p, hp, hpq, hq'⟩ := places_step (l := l) (i := j) (by rw [HL.out]; exact hlt)
      rw [← HQ.out] at hpq hq'
      obtain ⟨bl, ol, rfl, -⟩ := TV.at hv j hlt
      obtain ⟨bq, oq, rfl, hpc⟩ := bp.opened (by omega)
      have hcj := keepc (hpc j hlt) hbel
      rw [hp] at hcj
      have hwp : IntKind.i64.wrap (p : Int) = (p : Int) := by rw [IntKind.wrap_i64]; omega
      have hi2 : ¬ (q : Int) < (p : Int) := by omega
      have HQ' := Lib.hid hq'
      have HPJ := Lib.hid hp
      clear hq' hp
      by_cases hmx : (p : Int) ≤ (q : Int) - 1
      · skip
        skip
        go_wp2_with fail
        go_loopw [8] (fun k wi => ∃ i : Nat, i ≤ j ∧ k = .int .i64 (i : Int) ∧ Below w2.heap.size w2 wi) (fun k _ => j - (intOf k).toNat)
        case atStart => exact ⟨0, by omega, rfl, hbel⟩
        case round =>
          clear hcj hbel
          obtain ⟨i, hi, rfl, hbel⟩ := hrel
          by_cases hij : i < j
          · have hiji : (i : Int) < (j : Int) := by omega
            have hiN : (i : Int) < (N : Int) := by omega
            obtain ⟨_, _, hab, x1⟩ := TV.at hv j hlt
            cases hab
            obtain ⟨_, _, hab, x2⟩ := TV.at hv i (by omega)
            cases hab
            have p1 := hpc j hlt
            have p2 := hpc i (by omega)
            have hsd := places_sameD (l := l) (i := j) (k := i) (by rw [HL.out]; exact hlt) (by rw [HL.out]; omega)
            replace x1 := keepc x1 hbel
            replace x2 := keepc x2 hbel
            replace p1 := keepc p1 hbel
            replace p2 := keepc p2 hbel
            generalize l.getD j ⟨#[]⟩ = x at x1 hsd
            generalize l.getD i ⟨#[]⟩ = y at x2 hsd
            generalize (placesL l).getD j 0 = P at p1 hsd
            generalize (placesL l).getD i 0 = Q at p2 hsd
            by_cases hxy : y = x
            · obtain rfl := hsd.1 hxy
              subst hxy
              have hcmp : (y.toList == y.toList) = true := by simp
              clear hsd
              go_wp2_with fail
              refine wp_region_noPanic ?_
              refine region_g 19 (Ext (World.drew _)) (by kernel_rfl) (Ext.refl _) (fun hS => ?_)
              refine take_w (i := 0) (v := ?_) (some 53) rfl (by kernel_rfl) rfl (fun _ _ _ h => h) (Or.inl ⟨by rfl, ?_⟩) hS ?_
              rotate_left
              · (intro wq hq; go_simp); first | done | with_reducible rfl
              try simp only [Act.put, List.setIfInBounds_toArray, List.set_cons_zero, List.set_cons_succ]
              replace hS := Till.list 0 hS
              refine take_w (i := 1) (v := ?_) (some 54) rfl (by kernel_rfl) rfl (fun _ _ _ h => h) (Or.inl ⟨by rfl, ?_⟩) hS ?_
              rotate_left
              · (intro wq hq; go_simp); first | done | with_reducible rfl
              try simp only [Act.put, List.setIfInBounds_toArray, List.set_cons_zero, List.set_cons_succ]
              replace hS := Till.list 1 hS
              refine take_w (i := 4) (v := ?_) (some 57) rfl (by kernel_rfl) rfl (fun _ _ _ h => h) (Or.inl ⟨by rfl, ?_⟩) hS ?_
              rotate_left
              · (intro wq hq; go_simp); first | done | with_reducible rfl
              try simp only [Act.put, List.setIfInBounds_toArray, List.set_cons_zero, List.set_cons_succ]
              replace hS := Till.list 4 hS
              refine take_w (i := 5) (v := ?_) (some 58) rfl (by kernel_rfl) rfl (fun _ _ _ h => h) (Or.inl ⟨by rfl, ?_⟩) hS ?_
              rotate_left
              · (intro wq hq; go_simp); first | done | with_reducible rfl
              try simp only [Act.put, List.setIfInBounds_toArray, List.set_cons_zero, List.set_cons_succ]
              replace hS := Till.list 5 hS
              refine take_w (i := 9) (v := ?_) (some 62) rfl (by kernel_rfl) rfl (fun _ _ _ h => h) (Or.inl ⟨by rfl, ?_⟩) hS ?_
              rotate_left
              · (intro wq hq; go_simp); first | done | with_reducible rfl
              try simp only [Act.put, List.setIfInBounds_toArray, List.set_cons_zero, List.set_cons_succ]
              replace hS := Till.list 9 hS
              refine take_w (i := 10) (v := ?_) (some 63) rfl (by kernel_rfl) rfl (fun _ _ _ h => h) (Or.inl ⟨by rfl, ?_⟩) hS ?_
              rotate_left
              · (intro wq hq; go_simp); first | done | with_reducible rfl
              try simp only [Act.put, List.setIfInBounds_toArray, List.set_cons_zero, List.set_cons_succ]
              replace hS := Till.list 10 hS
              refine take_w (i := 13) (v := ?_) (some 66) rfl (by kernel_rfl) rfl (fun _ _ _ h => h) (Or.inl ⟨by rfl, ?_⟩) hS ?_
              rotate_left
              · (intro wq hq; go_simp); first | done | with_reducible rfl
              try simp only [Act.put, List.setIfInBounds_toArray, List.set_cons_zero, List.set_cons_succ]
              replace hS := Till.list 13 hS
              refine take_w (i := 14) (v := ?_) (some 67) rfl (by kernel_rfl) rfl (fun _ _ _ h => h) (Or.inl ⟨by rfl, ?_⟩) hS ?_
              rotate_left
              · (intro wq hq; go_simp); first | done | with_reducible rfl
              try simp only [Act.put, List.setIfInBounds_toArray, List.set_cons_zero, List.set_cons_succ]
              replace hS := Till.list 14 hS
              refine take_w (i := 2) (v := ?_) (some 55) rfl (by kernel_rfl) rfl (fun _ _ _ h => h) (Or.inl ⟨by rfl, ?_⟩) hS ?_
              rotate_left
              · (intro wq hq; go_simp); first | done | with_reducible rfl
              try simp only [Act.put, List.setIfInBounds_toArray, List.set_cons_zero, List.set_cons_succ]
              replace hS := Till.list 2 hS
              refine take_w (i := 6) (v := ?_) (some 59) rfl (by kernel_rfl) rfl (fun _ _ _ h => h) (Or.inl ⟨by rfl, ?_⟩) hS ?_
              rotate_left
              · (intro wq hq; go_simp); first | done | with_reducible rfl
              try simp only [Act.put, List.setIfInBounds_toArray, List.set_cons_zero, List.set_cons_succ]
              replace hS := Till.list 6 hS
              refine take_w (i := 11) (v := ?_) (some 64) rfl (by kernel_rfl) rfl (fun _ _ _ h => h) (Or.inl ⟨by rfl, ?_⟩) hS ?_
              rotate_left
              · (intro wq hq; go_simp); first | done | with_reducible rfl
              try simp only [Act.put, List.setIfInBounds_toArray, List.set_cons_zero, List.set_cons_succ]
              replace hS := Till.list 11 hS
              refine take_w (i := 15) (v := ?_) (some 68) rfl (by kernel_rfl) rfl (fun _ _ _ h => h) (Or.inl ⟨by rfl, ?_⟩) hS ?_
              rotate_left
              · (intro wq hq; go_simp); first | done | with_reducible rfl
              try simp only [Act.put, List.setIfInBounds_toArray, List.set_cons_zero, List.set_cons_succ]
              replace hS := Till.list 15 hS
              refine take_n (i := 3) (v := ?_) (some 56) rfl (by kernel_rfl) rfl (fun _ _ _ h => h) (Or.inl ⟨by rfl, ?_⟩) hS ?_
              rotate_left
              · (intro wq hq; have q0 := hq _ _ _ x1; have q1 := hq _ _ _ x2; have q2 := hq _ _ _ p1; have q3 := hq _ _ _ p2; go_simp); first | done | with_reducible rfl
              try simp only [Act.put, List.setIfInBounds_toArray, List.set_cons_zero, List.set_cons_succ]
              replace hS := Till.list 3 hS
              refine take_n (i := 7) (v := ?_) (some 60) rfl (by kernel_rfl) rfl (fun _ _ _ h => h) (Or.inl ⟨by rfl, ?_⟩) hS ?_
              rotate_left
              · (intro wq hq; have q0 := hq _ _ _ x1; have q1 := hq _ _ _ x2; have q2 := hq _ _ _ p1; have q3 := hq _ _ _ p2; go_simp); first | done | with_reducible rfl
              try simp only [Act.put, List.setIfInBounds_toArray, List.set_cons_zero, List.set_cons_succ]
              replace hS := Till.list 7 hS
              refine take_n (i := 12) (v := ?_) (some 65) rfl (by kernel_rfl) rfl (fun _ _ _ h => h) (Or.inl ⟨by rfl, ?_⟩) hS ?_
              rotate_left
              · (intro wq hq; have q0 := hq _ _ _ x1; have q1 := hq _ _ _ x2; have q2 := hq _ _ _ p1; have q3 := hq _ _ _ p2; go_simp); first | done | with_reducible rfl
              try simp only [Act.put, List.setIfInBounds_toArray, List.set_cons_zero, List.set_cons_succ]
              replace hS := Till.list 12 hS
              refine take_n (i := 16) (v := ?_) (some 69) rfl (by kernel_rfl) rfl (fun _ _ _ h => h) (Or.inl ⟨by rfl, ?_⟩) hS ?_
              rotate_left
              · (intro wq hq; have q0 := hq _ _ _ x1; have q1 := hq _ _ _ x2; have q2 := hq _ _ _ p1; have q3 := hq _ _ _ p2; go_simp); first | done | with_reducible rfl
              try simp only [Act.put, List.setIfInBounds_toArray, List.set_cons_zero, List.set_cons_succ]
              replace hS := Till.list 16 hS
              refine take_w (i := 8) (v := ?_) (some 61) rfl (by kernel_rfl) rfl (fun _ _ _ h => h) (Or.inl ⟨by rfl, ?_⟩) hS ?_
              rotate_left
              · (intro wq hq; go_simp); first | done | with_reducible rfl
              try simp only [Act.put, List.setIfInBounds_toArray, List.set_cons_zero, List.set_cons_succ]
              replace hS := Till.list 8 hS
              refine take_w (i := 17) (v := ?_) (some 70) rfl (by kernel_rfl) rfl (fun _ _ _ h => h) (Or.inl ⟨by rfl, ?_⟩) hS ?_
              rotate_left
              · (intro wq hq; go_simp); first | done | with_reducible rfl
              try simp only [Act.put, List.setIfInBounds_toArray, List.set_cons_zero, List.set_cons_succ]
              replace hS := Till.list 17 hS
              refine take_w (i := 18) (v := ?_) (some 71) rfl (by kernel_rfl) rfl (fun _ _ _ h => h) (Or.inl ⟨by rfl, ?_⟩) hS ?_
              rotate_left
              · (intro wq hq; go_simp); first | done | with_reducible rfl
              try simp only [Act.put, List.setIfInBounds_toArray, List.set_cons_zero, List.set_cons_succ]
              replace hS := Till.list 18 hS
              refine done_g (by kernel_rfl) (NoPanic.normal ?_) _
              clear hS
              go_wp2_with fail
              go_roundw
              case rel => exact ⟨i + 1, by omega, by go_num, hbel.drew⟩
              case measure => simp [intOf]; omega
            · have hPQ : (Q == P) = false := by rw [beq_eq_false_iff_ne]; exact fun h => hxy (hsd.2 h)
              have hcmp : (y.toList == x.toList) = false := by rw [beq_eq_false_iff_ne]; exact fun h => hxy (toList_inj h)
              clear hsd
              go_wp2_with fail
              refine wp_region_noPanic ?_
              refine region_g 19 (Ext (World.drew _)) (by kernel_rfl) (Ext.refl _) (fun hS => ?_)
              refine take_w (i := 0) (v := ?_) (some 53) rfl (by kernel_rfl) rfl (fun _ _ _ h => h) (Or.inl ⟨by rfl, ?_⟩) hS ?_
              rotate_left
              · (intro wq hq; go_simp); first | done | with_reducible rfl
              try simp only [Act.put, List.setIfInBounds_toArray, List.set_cons_zero, List.set_cons_succ]
              replace hS := Till.list 0 hS
              refine take_w (i := 1) (v := ?_) (some 54) rfl (by kernel_rfl) rfl (fun _ _ _ h => h) (Or.inl ⟨by rfl, ?_⟩) hS ?_
              rotate_left
              · (intro wq hq; go_simp); first | done | with_reducible rfl
              try simp only [Act.put, List.setIfInBounds_toArray, List.set_cons_zero, List.set_cons_succ]
              replace hS := Till.list 1 hS
              refine take_w (i := 4) (v := ?_) (some 57) rfl (by kernel_rfl) rfl (fun _ _ _ h => h) (Or.inl ⟨by rfl, ?_⟩) hS ?_
              rotate_left
              · (intro wq hq; go_simp); first | done | with_reducible rfl
              try simp only [Act.put, List.setIfInBounds_toArray, List.set_cons_zero, List.set_cons_succ]
              replace hS := Till.list 4 hS
              refine take_w (i := 5) (v := ?_) (some 58) rfl (by kernel_rfl) rfl (fun _ _ _ h => h) (Or.inl ⟨by rfl, ?_⟩) hS ?_
              rotate_left
              · (intro wq hq; go_simp); first | done | with_reducible rfl
              try simp only [Act.put, List.setIfInBounds_toArray, List.set_cons_zero, List.set_cons_succ]
              replace hS := Till.list 5 hS
              refine take_w (i := 9) (v := ?_) (some 62) rfl (by kernel_rfl) rfl (fun _ _ _ h => h) (Or.inl ⟨by rfl, ?_⟩) hS ?_
              rotate_left
              · (intro wq hq; go_simp); first | done | with_reducible rfl
              try simp only [Act.put, List.setIfInBounds_toArray, List.set_cons_zero, List.set_cons_succ]
              replace hS := Till.list 9 hS
              refine take_w (i := 10) (v := ?_) (some 63) rfl (by kernel_rfl) rfl (fun _ _ _ h => h) (Or.inl ⟨by rfl, ?_⟩) hS ?_
              rotate_left
              · (intro wq hq; go_simp); first | done | with_reducible rfl
              try simp only [Act.put, List.setIfInBounds_toArray, List.set_cons_zero, List.set_cons_succ]
              replace hS := Till.list 10 hS
              refine take_w (i := 13) (v := ?_) (some 66) rfl (by kernel_rfl) rfl (fun _ _ _ h => h) (Or.inl ⟨by rfl, ?_⟩) hS ?_
              rotate_left
              · (intro wq hq; go_simp); first | done | with_reducible rfl
              try simp only [Act.put, List.setIfInBounds_toArray, List.set_cons_zero, List.set_cons_succ]
              replace hS := Till.list 13 hS
              refine take_w (i := 14) (v := ?_) (some 67) rfl (by kernel_rfl) rfl (fun _ _ _ h => h) (Or.inl ⟨by rfl, ?_⟩) hS ?_
              rotate_left
              · (intro wq hq; go_simp); first | done | with_reducible rfl
              try simp only [Act.put, List.setIfInBounds_toArray, List.set_cons_zero, List.set_cons_succ]
              replace hS := Till.list 14 hS
              refine take_w (i := 2) (v := ?_) (some 55) rfl (by kernel_rfl) rfl (fun _ _ _ h => h) (Or.inl ⟨by rfl, ?_⟩) hS ?_
              rotate_left
              · (intro wq hq; go_simp); first | done | with_reducible rfl
              try simp only [Act.put, List.setIfInBounds_toArray, List.set_cons_zero, List.set_cons_succ]
              replace hS := Till.list 2 hS
              refine take_w (i := 6) (v := ?_) (some 59) rfl (by kernel_rfl) rfl (fun _ _ _ h => h) (Or.inl ⟨by rfl, ?_⟩) hS ?_
              rotate_left
              · (intro wq hq; go_simp); first | done | with_reducible rfl
              try simp only [Act.put, List.setIfInBounds_toArray, List.set_cons_zero, List.set_cons_succ]
              replace hS := Till.list 6 hS
              refine take_w (i := 11) (v := ?_) (some 64) rfl (by kernel_rfl) rfl (fun _ _ _ h => h) (Or.inl ⟨by rfl, ?_⟩) hS ?_
              rotate_left
              · (intro wq hq; go_simp); first | done | with_reducible rfl
              try simp only [Act.put, List.setIfInBounds_toArray, List.set_cons_zero, List.set_cons_succ]
              replace hS := Till.list 11 hS
              refine take_w (i := 15) (v := ?_) (some 68) rfl (by kernel_rfl) rfl (fun _ _ _ h => h) (Or.inl ⟨by rfl, ?_⟩) hS ?_
              rotate_left
              · (intro wq hq; go_simp); first | done | with_reducible rfl
              try simp only [Act.put, List.setIfInBounds_toArray, List.set_cons_zero, List.set_cons_succ]
              replace hS := Till.list 15 hS
              refine take_n (i := 3) (v := ?_) (some 56) rfl (by kernel_rfl) rfl (fun _ _ _ h => h) (Or.inl ⟨by rfl, ?_⟩) hS ?_
              rotate_left
              · (intro wq hq; have q0 := hq _ _ _ x1; have q1 := hq _ _ _ x2; have q2 := hq _ _ _ p1; have q3 := hq _ _ _ p2; go_simp); first | done | with_reducible rfl
              try simp only [Act.put, List.setIfInBounds_toArray, List.set_cons_zero, List.set_cons_succ]
              replace hS := Till.list 3 hS
              refine take_n (i := 7) (v := ?_) (some 60) rfl (by kernel_rfl) rfl (fun _ _ _ h => h) (Or.inl ⟨by rfl, ?_⟩) hS ?_
              rotate_left
              · (intro wq hq; have q0 := hq _ _ _ x1; have q1 := hq _ _ _ x2; have q2 := hq _ _ _ p1; have q3 := hq _ _ _ p2; go_simp); first | done | with_reducible rfl
              try simp only [Act.put, List.setIfInBounds_toArray, List.set_cons_zero, List.set_cons_succ]
              replace hS := Till.list 7 hS
              refine take_n (i := 12) (v := ?_) (some 65) rfl (by kernel_rfl) rfl (fun _ _ _ h => h) (Or.inl ⟨by rfl, ?_⟩) hS ?_
              rotate_left
              · (intro wq hq; have q0 := hq _ _ _ x1; have q1 := hq _ _ _ x2; have q2 := hq _ _ _ p1; have q3 := hq _ _ _ p2; go_simp); first | done | with_reducible rfl
              try simp only [Act.put, List.setIfInBounds_toArray, List.set_cons_zero, List.set_cons_succ]
              replace hS := Till.list 12 hS
              refine take_n (i := 16) (v := ?_) (some 69) rfl (by kernel_rfl) rfl (fun _ _ _ h => h) (Or.inl ⟨by rfl, ?_⟩) hS ?_
              rotate_left
              · (intro wq hq; have q0 := hq _ _ _ x1; have q1 := hq _ _ _ x2; have q2 := hq _ _ _ p1; have q3 := hq _ _ _ p2; go_simp); first | done | with_reducible rfl
              try simp only [Act.put, List.setIfInBounds_toArray, List.set_cons_zero, List.set_cons_succ]
              replace hS := Till.list 16 hS
              refine take_w (i := 8) (v := ?_) (some 61) rfl (by kernel_rfl) rfl (fun _ _ _ h => h) (Or.inl ⟨by rfl, ?_⟩) hS ?_
              rotate_left
              · (intro wq hq; go_simp); first | done | with_reducible rfl
              try simp only [Act.put, List.setIfInBounds_toArray, List.set_cons_zero, List.set_cons_succ]
              replace hS := Till.list 8 hS
              refine take_w (i := 17) (v := ?_) (some 70) rfl (by kernel_rfl) rfl (fun _ _ _ h => h) (Or.inl ⟨by rfl, ?_⟩) hS ?_
              rotate_left
              · (intro wq hq; go_simp); first | done | with_reducible rfl
              try simp only [Act.put, List.setIfInBounds_toArray, List.set_cons_zero, List.set_cons_succ]
              replace hS := Till.list 17 hS
              refine take_w (i := 18) (v := ?_) (some 71) rfl (by kernel_rfl) rfl (fun _ _ _ h => h) (Or.inl ⟨by rfl, ?_⟩) hS ?_
              rotate_left
              · (intro wq hq; go_simp); first | done | with_reducible rfl
              try simp only [Act.put, List.setIfInBounds_toArray, List.set_cons_zero, List.set_cons_succ]
              replace hS := Till.list 18 hS
              refine done_g (by kernel_rfl) (NoPanic.normal ?_) _
              clear hS
              go_wp2_with fail
              go_roundw
              case rel => exact ⟨i + 1, by omega, by go_num, hbel.drew⟩
              case measure => simp [intOf]; omega
          · go_wp2_with fail
            go_roundw
            case rel => exact ⟨j + 1, q, by omega, by go_num, rfl, Lib.hid (by rw [HQ'.out]; omega), by omega, hbel⟩
            case measure => simp [intOf]; omega
      · skip
        skip
        go_wp2_with fail
        go_loopw [8] (fun k wi => ∃ i : Nat, i ≤ j ∧ k = .int .i64 (i : Int) ∧ Below w2.heap.size w2 wi) (fun k _ => j - (intOf k).toNat)
        case atStart => exact ⟨0, by omega, rfl, hbel⟩
        case round =>
          clear hcj hbel
          obtain ⟨i, hi, rfl, hbel⟩ := hrel
          by_cases hij : i < j
          · have hiji : (i : Int) < (j : Int) := by omega
            have hiN : (i : Int) < (N : Int) := by omega
            obtain ⟨_, _, hab, x1⟩ := TV.at hv j hlt
            cases hab
            obtain ⟨_, _, hab, x2⟩ := TV.at hv i (by omega)
            cases hab
            have p1 := hpc j hlt
            have p2 := hpc i (by omega)
            have hsd := places_sameD (l := l) (i := j) (k := i) (by rw [HL.out]; exact hlt) (by rw [HL.out]; omega)
            replace x1 := keepc x1 hbel
            replace x2 := keepc x2 hbel
            replace p1 := keepc p1 hbel
            replace p2 := keepc p2 hbel
            generalize l.getD j ⟨#[]⟩ = x at x1 hsd
            generalize l.getD i ⟨#[]⟩ = y at x2 hsd
            generalize (placesL l).getD j 0 = P at p1 hsd
            generalize (placesL l).getD i 0 = Q at p2 hsd
            by_cases hxy : y = x
            · obtain rfl := hsd.1 hxy
              subst hxy
              have hcmp : (y.toList == y.toList) = true := by simp
              clear hsd
              go_wp2_with fail
              refine wp_region_noPanic ?_
              refine region_g 19 (Ext (World.drew _)) (by kernel_rfl) (Ext.refl _) (fun hS => ?_)
              refine take_w (i := 0) (v := ?_) (some 53) rfl (by kernel_rfl) rfl (fun _ _ _ h => h) (Or.inl ⟨by rfl, ?_⟩) hS ?_
              rotate_left
              · (intro wq hq; go_simp); first | done | with_reducible rfl
              try simp only [Act.put, List.setIfInBounds_toArray, List.set_cons_zero, List.set_cons_succ]
              replace hS := Till.list 0 hS
              refine take_w (i := 1) (v := ?_) (some 54) rfl (by kernel_rfl) rfl (fun _ _ _ h => h) (Or.inl ⟨by rfl, ?_⟩) hS ?_
              rotate_left
              · (intro wq hq; go_simp); first | done | with_reducible rfl
              try simp only [Act.put, List.setIfInBounds_toArray, List.set_cons_zero, List.set_cons_succ]
              replace hS := Till.list 1 hS
              refine take_w (i := 4) (v := ?_) (some 57) rfl (by kernel_rfl) rfl (fun _ _ _ h => h) (Or.inl ⟨by rfl, ?_⟩) hS ?_
              rotate_left
              · (intro wq hq; go_simp); first | done | with_reducible rfl
              try simp only [Act.put, List.setIfInBounds_toArray, List.set_cons_zero, List.set_cons_succ]
              replace hS := Till.list 4 hS
              refine take_w (i := 5) (v := ?_) (some 58) rfl (by kernel_rfl) rfl (fun _ _ _ h => h) (Or.inl ⟨by rfl, ?_⟩) hS ?_
              rotate_left
              · (intro wq hq; go_simp); first | done | with_reducible rfl
              try simp only [Act.put, List.setIfInBounds_toArray, List.set_cons_zero, List.set_cons_succ]
              replace hS := Till.list 5 hS
              refine take_w (i := 9) (v := ?_) (some 62) rfl (by kernel_rfl) rfl (fun _ _ _ h => h) (Or.inl ⟨by rfl, ?_⟩) hS ?_
              rotate_left
              · (intro wq hq; go_simp); first | done | with_reducible rfl
              try simp only [Act.put, List.setIfInBounds_toArray, List.set_cons_zero, List.set_cons_succ]
              replace hS := Till.list 9 hS
              refine take_w (i := 10) (v := ?_) (some 63) rfl (by kernel_rfl) rfl (fun _ _ _ h => h) (Or.inl ⟨by rfl, ?_⟩) hS ?_
              rotate_left
              · (intro wq hq; go_simp); first | done | with_reducible rfl
              try simp only [Act.put, List.setIfInBounds_toArray, List.set_cons_zero, List.set_cons_succ]
              replace hS := Till.list 10 hS
              refine take_w (i := 13) (v := ?_) (some 66) rfl (by kernel_rfl) rfl (fun _ _ _ h => h) (Or.inl ⟨by rfl, ?_⟩) hS ?_
              rotate_left
              · (intro wq hq; go_simp); first | done | with_reducible rfl
              try simp only [Act.put, List.setIfInBounds_toArray, List.set_cons_zero, List.set_cons_succ]
              replace hS := Till.list 13 hS
              refine take_w (i := 14) (v := ?_) (some 67) rfl (by kernel_rfl) rfl (fun _ _ _ h => h) (Or.inl ⟨by rfl, ?_⟩) hS ?_
              rotate_left
              · (intro wq hq; go_simp); first | done | with_reducible rfl
              try simp only [Act.put, List.setIfInBounds_toArray, List.set_cons_zero, List.set_cons_succ]
              replace hS := Till.list 14 hS
              refine take_w (i := 2) (v := ?_) (some 55) rfl (by kernel_rfl) rfl (fun _ _ _ h => h) (Or.inl ⟨by rfl, ?_⟩) hS ?_
              rotate_left
              · (intro wq hq; go_simp); first | done | with_reducible rfl
              try simp only [Act.put, List.setIfInBounds_toArray, List.set_cons_zero, List.set_cons_succ]
              replace hS := Till.list 2 hS
              refine take_w (i := 6) (v := ?_) (some 59) rfl (by kernel_rfl) rfl (fun _ _ _ h => h) (Or.inl ⟨by rfl, ?_⟩) hS ?_
              rotate_left
              · (intro wq hq; go_simp); first | done | with_reducible rfl
              try simp only [Act.put, List.setIfInBounds_toArray, List.set_cons_zero, List.set_cons_succ]
              replace hS := Till.list 6 hS
              refine take_w (i := 11) (v := ?_) (some 64) rfl (by kernel_rfl) rfl (fun _ _ _ h => h) (Or.inl ⟨by rfl, ?_⟩) hS ?_
              rotate_left
              · (intro wq hq; go_simp); first | done | with_reducible rfl
              try simp only [Act.put, List.setIfInBounds_toArray, List.set_cons_zero, List.set_cons_succ]
              replace hS := Till.list 11 hS
              refine take_w (i := 15) (v := ?_) (some 68) rfl (by kernel_rfl) rfl (fun _ _ _ h => h) (Or.inl ⟨by rfl, ?_⟩) hS ?_
              rotate_left
              · (intro wq hq; go_simp); first | done | with_reducible rfl
              try simp only [Act.put, List.setIfInBounds_toArray, List.set_cons_zero, List.set_cons_succ]
              replace hS := Till.list 15 hS
              refine take_n (i := 3) (v := ?_) (some 56) rfl (by kernel_rfl) rfl (fun _ _ _ h => h) (Or.inl ⟨by rfl, ?_⟩) hS ?_
              rotate_left
              · (intro wq hq; have q0 := hq _ _ _ x1; have q1 := hq _ _ _ x2; have q2 := hq _ _ _ p1; have q3 := hq _ _ _ p2; go_simp); first | done | with_reducible rfl
              try simp only [Act.put, List.setIfInBounds_toArray, List.set_cons_zero, List.set_cons_succ]
              replace hS := Till.list 3 hS
              refine take_n (i := 7) (v := ?_) (some 60) rfl (by kernel_rfl) rfl (fun _ _ _ h => h) (Or.inl ⟨by rfl, ?_⟩) hS ?_
              rotate_left
              · (intro wq hq; have q0 := hq _ _ _ x1; have q1 := hq _ _ _ x2; have q2 := hq _ _ _ p1; have q3 := hq _ _ _ p2; go_simp); first | done | with_reducible rfl
              try simp only [Act.put, List.setIfInBounds_toArray, List.set_cons_zero, List.set_cons_succ]
              replace hS := Till.list 7 hS
              refine take_n (i := 12) (v := ?_) (some 65) rfl (by kernel_rfl) rfl (fun _ _ _ h => h) (Or.inl ⟨by rfl, ?_⟩) hS ?_
              rotate_left
              · (intro wq hq; have q0 := hq _ _ _ x1; have q1 := hq _ _ _ x2; have q2 := hq _ _ _ p1; have q3 := hq _ _ _ p2; go_simp); first | done | with_reducible rfl
              try simp only [Act.put, List.setIfInBounds_toArray, List.set_cons_zero, List.set_cons_succ]
              replace hS := Till.list 12 hS
              refine take_n (i := 16) (v := ?_) (some 69) rfl (by kernel_rfl) rfl (fun _ _ _ h => h) (Or.inl ⟨by rfl, ?_⟩) hS ?_
              rotate_left
              · (intro wq hq; have q0 := hq _ _ _ x1; have q1 := hq _ _ _ x2; have q2 := hq _ _ _ p1; have q3 := hq _ _ _ p2; go_simp); first | done | with_reducible rfl
              try simp only [Act.put, List.setIfInBounds_toArray, List.set_cons_zero, List.set_cons_succ]
              replace hS := Till.list 16 hS
              refine take_w (i := 8) (v := ?_) (some 61) rfl (by kernel_rfl) rfl (fun _ _ _ h => h) (Or.inl ⟨by rfl, ?_⟩) hS ?_
              rotate_left
              · (intro wq hq; go_simp); first | done | with_reducible rfl
              try simp only [Act.put, List.setIfInBounds_toArray, List.set_cons_zero, List.set_cons_succ]
              replace hS := Till.list 8 hS
              refine take_w (i := 17) (v := ?_) (some 70) rfl (by kernel_rfl) rfl (fun _ _ _ h => h) (Or.inl ⟨by rfl, ?_⟩) hS ?_
              rotate_left
              · (intro wq hq; go_simp); first | done | with_reducible rfl
              try simp only [Act.put, List.setIfInBounds_toArray, List.set_cons_zero, List.set_cons_succ]
              replace hS := Till.list 17 hS
              refine take_w (i := 18) (v := ?_) (some 71) rfl (by kernel_rfl) rfl (fun _ _ _ h => h) (Or.inl ⟨by rfl, ?_⟩) hS ?_
              rotate_left
              · (intro wq hq; go_simp); first | done | with_reducible rfl
              try simp only [Act.put, List.setIfInBounds_toArray, List.set_cons_zero, List.set_cons_succ]
              replace hS := Till.list 18 hS
              refine done_g (by kernel_rfl) (NoPanic.normal ?_) _
              clear hS
              go_wp2_with fail
              go_roundw
              case rel => exact ⟨i + 1, by omega, by go_num, hbel.drew⟩
              case measure => simp [intOf]; omega
            · have hPQ : (Q == P) = false := by rw [beq_eq_false_iff_ne]; exact fun h => hxy (hsd.2 h)
              have hcmp : (y.toList == x.toList) = false := by rw [beq_eq_false_iff_ne]; exact fun h => hxy (toList_inj h)
              clear hsd
              go_wp2_with fail
              refine wp_region_noPanic ?_
              refine region_g 19 (Ext (World.drew _)) (by kernel_rfl) (Ext.refl _) (fun hS => ?_)
              refine take_w (i := 0) (v := ?_) (some 53) rfl (by kernel_rfl) rfl (fun _ _ _ h => h) (Or.inl ⟨by rfl, ?_⟩) hS ?_
              rotate_left
              · (intro wq hq; go_simp); first | done | with_reducible rfl
              try simp only [Act.put, List.setIfInBounds_toArray, List.set_cons_zero, List.set_cons_succ]
              replace hS := Till.list 0 hS
              refine take_w (i := 1) (v := ?_) (some 54) rfl (by kernel_rfl) rfl (fun _ _ _ h => h) (Or.inl ⟨by rfl, ?_⟩) hS ?_
              rotate_left
              · (intro wq hq; go_simp); first | done | with_reducible rfl
              try simp only [Act.put, List.setIfInBounds_toArray, List.set_cons_zero, List.set_cons_succ]
              replace hS := Till.list 1 hS
              refine take_w (i := 4) (v := ?_) (some 57) rfl (by kernel_rfl) rfl (fun _ _ _ h => h) (Or.inl ⟨by rfl, ?_⟩) hS ?_
              rotate_left
              · (intro wq hq; go_simp); first | done | with_reducible rfl
              try simp only [Act.put, List.setIfInBounds_toArray, List.set_cons_zero, List.set_cons_succ]
              replace hS := Till.list 4 hS
              refine take_w (i := 5) (v := ?_) (some 58) rfl (by kernel_rfl) rfl (fun _ _ _ h => h) (Or.inl ⟨by rfl, ?_⟩) hS ?_
              rotate_left
              · (intro wq hq; go_simp); first | done | with_reducible rfl
              try simp only [Act.put, List.setIfInBounds_toArray, List.set_cons_zero, List.set_cons_succ]
              replace hS := Till.list 5 hS
              refine take_w (i := 9) (v := ?_) (some 62) rfl (by kernel_rfl) rfl (fun _ _ _ h => h) (Or.inl ⟨by rfl, ?_⟩) hS ?_
              rotate_left
              · (intro wq hq; go_simp); first | done | with_reducible rfl
              try simp only [Act.put, List.setIfInBounds_toArray, List.set_cons_zero, List.set_cons_succ]
              replace hS := Till.list 9 hS
              refine take_w (i := 10) (v := ?_) (some 63) rfl (by kernel_rfl) rfl (fun _ _ _ h => h) (Or.inl ⟨by rfl, ?_⟩) hS ?_
              rotate_left
              · (intro wq hq; go_simp); first | done | with_reducible rfl
              try simp only [Act.put, List.setIfInBounds_toArray, List.set_cons_zero, List.set_cons_succ]
              replace hS := Till.list 10 hS
              refine take_w (i := 13) (v := ?_) (some 66) rfl (by kernel_rfl) rfl (fun _ _ _ h => h) (Or.inl ⟨by rfl, ?_⟩) hS ?_
              rotate_left
              · (intro wq hq; go_simp); first | done | with_reducible rfl
              try simp only [Act.put, List.setIfInBounds_toArray, List.set_cons_zero, List.set_cons_succ]
              replace hS := Till.list 13 hS
              refine take_w (i := 14) (v := ?_) (some 67) rfl (by kernel_rfl) rfl (fun _ _ _ h => h) (Or.inl ⟨by rfl, ?_⟩) hS ?_
              rotate_left
              · (intro wq hq; go_simp); first | done | with_reducible rfl
              try simp only [Act.put, List.setIfInBounds_toArray, List.set_cons_zero, List.set_cons_succ]
              replace hS := Till.list 14 hS
              refine take_w (i := 2) (v := ?_) (some 55) rfl (by kernel_rfl) rfl (fun _ _ _ h => h) (Or.inl ⟨by rfl, ?_⟩) hS ?_
              rotate_left
              · (intro wq hq; go_simp); first | done | with_reducible rfl
              try simp only [Act.put, List.setIfInBounds_toArray, List.set_cons_zero, List.set_cons_succ]
              replace hS := Till.list 2 hS
              refine take_w (i := 6) (v := ?_) (some 59) rfl (by kernel_rfl) rfl (fun _ _ _ h => h) (Or.inl ⟨by rfl, ?_⟩) hS ?_
              rotate_left
              · (intro wq hq; go_simp); first | done | with_reducible rfl
              try simp only [Act.put, List.setIfInBounds_toArray, List.set_cons_zero, List.set_cons_succ]
              replace hS := Till.list 6 hS
              refine take_w (i := 11) (v := ?_) (some 64) rfl (by kernel_rfl) rfl (fun _ _ _ h => h) (Or.inl ⟨by rfl, ?_⟩) hS ?_
              rotate_left
              · (intro wq hq; go_simp); first | done | with_reducible rfl
              try simp only [Act.put, List.setIfInBounds_toArray, List.set_cons_zero, List.set_cons_succ]
              replace hS := Till.list 11 hS
              refine take_w (i := 15) (v := ?_) (some 68) rfl (by kernel_rfl) rfl (fun _ _ _ h => h) (Or.inl ⟨by rfl, ?_⟩) hS ?_
              rotate_left
              · (intro wq hq; go_simp); first | done | with_reducible rfl
              try simp only [Act.put, List.setIfInBounds_toArray, List.set_cons_zero, List.set_cons_succ]
              replace hS := Till.list 15 hS
              refine take_n (i := 3) (v := ?_) (some 56) rfl (by kernel_rfl) rfl (fun _ _ _ h => h) (Or.inl ⟨by rfl, ?_⟩) hS ?_
              rotate_left
              · (intro wq hq; have q0 := hq _ _ _ x1; have q1 := hq _ _ _ x2; have q2 := hq _ _ _ p1; have q3 := hq _ _ _ p2; go_simp); first | done | with_reducible rfl
              try simp only [Act.put, List.setIfInBounds_toArray, List.set_cons_zero, List.set_cons_succ]
              replace hS := Till.list 3 hS
              refine take_n (i := 7) (v := ?_) (some 60) rfl (by kernel_rfl) rfl (fun _ _ _ h => h) (Or.inl ⟨by rfl, ?_⟩) hS ?_
              rotate_left
              · (intro wq hq; have q0 := hq _ _ _ x1; have q1 := hq _ _ _ x2; have q2 := hq _ _ _ p1; have q3 := hq _ _ _ p2; go_simp); first | done | with_reducible rfl
              try simp only [Act.put, List.setIfInBounds_toArray, List.set_cons_zero, List.set_cons_succ]
              replace hS := Till.list 7 hS
              refine take_n (i := 12) (v := ?_) (some 65) rfl (by kernel_rfl) rfl (fun _ _ _ h => h) (Or.inl ⟨by rfl, ?_⟩) hS ?_
              rotate_left
              · (intro wq hq; have q0 := hq _ _ _ x1; have q1 := hq _ _ _ x2; have q2 := hq _ _ _ p1; have q3 := hq _ _ _ p2; go_simp); first | done | with_reducible rfl
              try simp only [Act.put, List.setIfInBounds_toArray, List.set_cons_zero, List.set_cons_succ]
              replace hS := Till.list 12 hS
              refine take_n (i := 16) (v := ?_) (some 69) rfl (by kernel_rfl) rfl (fun _ _ _ h => h) (Or.inl ⟨by rfl, ?_⟩) hS ?_
              rotate_left
              · (intro wq hq; have q0 := hq _ _ _ x1; have q1 := hq _ _ _ x2; have q2 := hq _ _ _ p1; have q3 := hq _ _ _ p2; go_simp); first | done | with_reducible rfl
              try simp only [Act.put, List.setIfInBounds_toArray, List.set_cons_zero, List.set_cons_succ]
              replace hS := Till.list 16 hS
              refine take_w (i := 8) (v := ?_) (some 61) rfl (by kernel_rfl) rfl (fun _ _ _ h => h) (Or.inl ⟨by rfl, ?_⟩) hS ?_
              rotate_left
              · (intro wq hq; go_simp); first | done | with_reducible rfl
              try simp only [Act.put, List.setIfInBounds_toArray, List.set_cons_zero, List.set_cons_succ]
              replace hS := Till.list 8 hS
              refine take_w (i := 17) (v := ?_) (some 70) rfl (by kernel_rfl) rfl (fun _ _ _ h => h) (Or.inl ⟨by rfl, ?_⟩) hS ?_
              rotate_left
              · (intro wq hq; go_simp); first | done | with_reducible rfl
              try simp only [Act.put, List.setIfInBounds_toArray, List.set_cons_zero, List.set_cons_succ]
              replace hS := Till.list 17 hS
              refine take_w (i := 18) (v := ?_) (some 71) rfl (by kernel_rfl) rfl (fun _ _ _ h => h) (Or.inl ⟨by rfl, ?_⟩) hS ?_
              rotate_left
              · (intro wq hq; go_simp); first | done | with_reducible rfl
              try simp only [Act.put, List.setIfInBounds_toArray, List.set_cons_zero, List.set_cons_succ]
              replace hS := Till.list 18 hS
              refine done_g (by kernel_rfl) (NoPanic.normal ?_) _
              clear hS
              go_wp2_with fail
              go_roundw
              case rel => exact ⟨i + 1, by omega, by go_num, hbel.drew⟩
              case measure => simp [intOf]; omega
          · go_wp2_with fail
            go_roundw
            case rel => exact ⟨j + 1, (p + 1), by omega, by go_num, (by rw [show ((p + 1 : Nat) : Int) - 1 = (p : Int) by omega]), Lib.hid (by rw [HQ'.out]; omega), by omega, hbel⟩
            case measure => simp [intOf]; omega
    · obtain rfl : j = N := by omega
      have HE : Hid (l.take j = l) := Lib.hid (by rw [← HL.out, List.take_length])
      rw [HE.out] at HQ
      have hcd0 := keepc c0' hbel
      rw [← HQ.out] at hcd0
      replace hb1 := Below.then hb1 hbel
      have hwq : IntKind.i64.wrap (q : Int) = (q : Int) := by rw [IntKind.wrap_i64]; omega
      have hD0 : (0 : Int) < (D : Int) := by omega
      go_wp2_with fail
      go_ret
      exact ⟨rfl, hb1⟩
end Go.Proofs.Ytmoppmifhhnolaa
