/- NumWhole: the walk. -/
import Derived.Test.YtidcbdgeidbkiaaR
import Derived.Below
namespace Go.Proofs.Ytidcbdgeidbkiaa
open Go.ChangeShapes Go.WideShapes Go.ChangeAt Go.RowKit
set_option linter.unusedVariables false

set_option maxHeartbeats 1000000 in
theorem numWhole_none (a : Option Addr) (n cap : Nat) (zs : List Int) (w : World) (hv : BV w a n zs) (hcap : n ≤ cap) (hr : varR (zs.take (min n 40)) = (0, 0)) :
    Calls Try.prog 8 #[.slice a n cap] w fun e w' => e = .returned (.bool true) ∧ Below w.heap.size w w' := by
  have hL := hv.take (min n 40) (by omega)
  obtain ⟨m, L, hm, hLe⟩ : ∃ m L, m = min n 40 ∧ L = zs.take (min n 40) := ⟨_, _, rfl, rfl⟩
  have hr1 : (varR L).1 = 0 := by rw [hLe, hr]
  have hr2 : (varR L).2 = 0 := by rw [hLe, hr]
  have HR : Hid (varR L = (0, 0)) := by rw [hLe]; exact hr
  rw [← hLe, ← hm] at hL
  have hm40 : m ≤ 40 := by omega
  have HM : Hid (m = min n 40) := hm
  clear hr hm hLe
  have hL0 := hL
  obtain ⟨hLl, hLz, hLc⟩ := hL
  go_enter Try.func8, Try.ntmps8
  go_wp2_with (first | (go_at_call 9; refine (shown_any _).mono ?_; rintro e w' ⟨rfl, rfl⟩) | (go_at_call 10; refine (short_is (hv.alloc _) hcap HM.out).mono ?_; rintro e w' ⟨rfl, rfl⟩) | (go_at_call 11; refine (var_any a m cap L _ (hL0.alloc _)).mono ?_; rintro e w' ⟨rfl, rfl⟩))
  go_loop [6, 7] (fun s i => ∃ (k : Nat) (y : Int), k ≤ 9 ∧ k ≤ m ∧ i = .int .i64 (k : Int) ∧ s = .bool false ∧ Hid (varR L = varGo (L.drop k) k y)) (fun _ i => m - (intOf i).toNat)
  case atStart => exact ⟨0, 0, by omega, by omega, rfl, rfl, rfl⟩
  case round =>
    obtain ⟨k, y, hk9, hkm, rfl, rfl, HV⟩ := hrel
    by_cases hlt : k < m ∧ k < 9
    · obtain ⟨hlt1, hlt2⟩ := hlt
      rcases hLc with hn | ⟨b, off, rfl, hcell⟩
      · omega
      have hc := cell_alloc w (pvObj 300) (hcell k hlt1)
      obtain ⟨c, hcd⟩ : ∃ c, c = L.getD k 0 := ⟨_, rfl⟩
      rw [← hcd] at hc
      have hdrop : L.drop k = c :: L.drop (k + 1) := by
        rw [List.drop_eq_getElem_cons (by omega), hcd]; simp [show k < L.length from by omega]
      have hcb : 0 ≤ c ∧ c ≤ 255 := by apply hLz; rw [hcd]; simp [show k < L.length from by omega]
      obtain ⟨hc0, hc1⟩ := hcb
      have HD : Hid (varR L = varGo (c :: L.drop (k + 1)) k y) := by show _ = _; rw [← hdrop]; exact HV.out
      clear hdrop hcd hcell hLz HV
      by_cases h128 : 128 ≤ c
      · go_wp2
        go_round
        case rel =>
          refine ⟨k + 1, y + c % 128 * 128 ^ k, by omega, by omega, by go_num, rfl, ?_⟩
          show _ = _
          rw [HD.out, varGo_big _ _ _ _ (by omega) h128]
        case measure => simp [intOf]; omega
      · have hbad : c = 0 ∧ 0 < k := by
          by_cases hh : c = 0 ∧ 0 < k
          · exact hh
          · have h1 := HD.out
            rw [HR.out, varGo_last _ _ _ _ (by omega) (by omega) hh] at h1
            have := congrArg Prod.snd h1
            simp at this; omega
        obtain ⟨rfl, hkp⟩ := hbad
        have hk0 : ((k : Int) == 0) = false := by rw [beq_eq_false_iff_ne]; omega
        go_wp2
        go_ret
        exact ⟨rfl, (Below.refl _ _).alloc (Nat.le_refl _) _⟩
    · by_cases hlt1 : k < m
      · have h9 : 9 ≤ k := by omega
        go_wp2
        go_ret
        exact ⟨rfl, (Below.refl _ _).alloc (Nat.le_refl _) _⟩
      · go_wp2
        go_ret
        exact ⟨rfl, (Below.refl _ _).alloc (Nat.le_refl _) _⟩

set_option maxHeartbeats 1000000 in
theorem numWhole_some (a : Option Addr) (n cap : Nat) (zs : List Int) (w : World) (hv : BV w a n zs) (hcap : n ≤ cap) (hr : (varR (zs.take (min n 40))).2 ≠ 0) :
    Calls Try.prog 8 #[.slice a n cap] w fun e w' => e = .returned (.bool true) ∧ Below w.heap.size w w' := by
  have hL := hv.take (min n 40) (by omega)
  obtain ⟨m, L, hm, hLe⟩ : ∃ m L, m = min n 40 ∧ L = zs.take (min n 40) := ⟨_, _, rfl, rfl⟩
  rw [← hLe] at hr
  rw [← hLe, ← hm] at hL
  obtain ⟨y, rest, hsp, hy0, hy1, he⟩ := varR_back L hL.2.1 hr
  have hr1 : (varR L).1 = y := by rw [he]
  have hr2 : (varR L).2 = ((pv y).length : Int) := by rw [he]
  have hm40 : m ≤ 40 := by omega
  have HM : Hid (m = min n 40) := hm
  have hkm : (pv y).length ≤ m := by rw [← hL.1, hsp]; simp
  have hpos := pv_pos y
  have hcap' : m ≤ cap := by omega
  have hne : (((pv y).length : Int) == 0) = false := by rw [beq_eq_false_iff_ne]; omega
  have hT := hL.take (pv y).length hkm
  have hTe : L.take (pv y).length = pv y := by rw [hsp]; simp
  rw [hTe] at hT
  have hT1 := hT.alloc (pvObj 300)
  obtain ⟨b, off, rfl, -⟩ : ∃ b off, a = some ⟨b, off, none⟩ ∧ True := by
    rcases hL.2.2 with h | ⟨b, off, h, _⟩
    · omega
    · exact ⟨b, off, h, trivial⟩
  clear hr hm hLe he hsp hT hTe
  go_enter Try.func8, Try.ntmps8
  go_wp2_with (first | (go_at_call 9; refine (shown_any _).mono ?_; rintro e w' ⟨rfl, rfl⟩) | (go_at_call 10; refine (short_is (hv.alloc _) hcap HM.out).mono ?_; rintro e w' ⟨rfl, rfl⟩) | (go_at_call 11; refine (var_any _ m cap L _ (hL.alloc _)).mono ?_; rintro e w' ⟨rfl, rfl⟩))
  have hbel : Below w.heap.size w (w.alloc (pvObj 300)) := (Below.refl _ _).alloc (Nat.le_refl _) _
  generalize w.alloc (pvObj 300) = W at *
  have hdec : decide (((pv y).length : Int) ≤ (m : Int)) = true := decide_eq_true (by omega)
  have hb0 : (0 : Int) ≤ ((pv y).length : Int) := by omega
  have hb1 : ((pv y).length : Int) ≤ (cap : Int) := by omega
  clear hL hv hne hr1 hr2 HM hm40 hcap
  refine wp_region_noPanic ?_
  refine wp_region_held_drew (S := Ext (World.drew _)) (by kernel_rfl) (Ext.refl _) (fun hS => ?_)
  refine take_at (i := 0) (v := ?_) (some 61) rfl (by kernel_rfl) (by kernel_rfl) (by kernel_rfl) rfl (fun _ _ _ h => h) (Or.inl ⟨by rfl, ?_⟩) hS ?_
  rotate_left
  · (intro wq hq; go_simp); first | done | with_reducible rfl
  try simp only [Act.put, List.setIfInBounds_toArray, List.set_cons_zero, List.set_cons_succ]
  refine take_at (i := 1) (v := ?_) (some 62) rfl (by kernel_rfl) (by kernel_rfl) (by kernel_rfl) rfl (fun _ _ _ h => h) (Or.inl ⟨by rfl, ?_⟩) hS ?_
  rotate_left
  · (intro wq hq; go_simp); first | done | with_reducible rfl
  try simp only [Act.put, List.setIfInBounds_toArray, List.set_cons_zero, List.set_cons_succ]
  refine take_at (i := 2) (v := ?_) (some 63) rfl (by kernel_rfl) (by kernel_rfl) (by kernel_rfl) rfl (fun _ _ _ h => h) (Or.inl ⟨by rfl, ?_⟩) hS ?_
  rotate_left
  · (intro wq hq; go_simp); first | done | with_reducible rfl
  try simp only [Act.put, List.setIfInBounds_toArray, List.set_cons_zero, List.set_cons_succ]
  refine take_at (i := 3) (v := ?_) (some 64) rfl (by kernel_rfl) (by kernel_rfl) (by kernel_rfl) rfl (fun _ _ _ h => h) (Or.inl ⟨by rfl, ?_⟩) hS ?_
  rotate_left
  · (intro wq hq; go_simp); first | done | with_reducible rfl
  try simp only [Act.put, List.setIfInBounds_toArray, List.set_cons_zero, List.set_cons_succ]
  refine take_at (i := 4) (v := ?_) (some 65) rfl (by kernel_rfl) (by kernel_rfl) (by kernel_rfl) rfl (fun _ _ _ h => h) (Or.inl ⟨by rfl, ?_⟩) hS ?_
  rotate_left
  · (intro wq hq; go_simp); first | done | with_reducible rfl
  try simp only [Act.put, List.setIfInBounds_toArray, List.set_cons_zero, List.set_cons_succ]
  refine take_at (i := 5) (v := ?_) (some 66) rfl (by kernel_rfl) (by kernel_rfl) (by kernel_rfl) rfl (fun _ _ _ h => h) (Or.inl ⟨by rfl, ?_⟩) hS ?_
  rotate_left
  · (intro wq hq; go_simp); first | done | with_reducible rfl
  try simp only [Act.put, List.setIfInBounds_toArray, List.set_cons_zero, List.set_cons_succ]
  refine take_at (i := 6) (v := ?_) (some 67) rfl (by kernel_rfl) (by kernel_rfl) (by kernel_rfl) rfl (fun _ _ _ h => h) (Or.inl ⟨by rfl, ?_⟩) hS ?_
  rotate_left
  · (intro wq hq; go_simp); first | done | with_reducible rfl
  try simp only [Act.put, List.setIfInBounds_toArray, List.set_cons_zero, List.set_cons_succ]
  refine take_at (i := 7) (v := ?_) (some 68) rfl (by kernel_rfl) (by kernel_rfl) (by kernel_rfl) rfl (fun _ _ _ h => h) (Or.inl ⟨by rfl, ?_⟩) hS ?_
  rotate_left
  · (intro wq hq; go_simp); first | done | with_reducible rfl
  try simp only [Act.put, List.setIfInBounds_toArray, List.set_cons_zero, List.set_cons_succ]
  refine take_at (i := 8) (v := ?_) (some 69) rfl (by kernel_rfl) (by kernel_rfl) (by kernel_rfl) rfl (fun _ _ _ h => h) (Or.inl ⟨by rfl, ?_⟩) hS ?_
  rotate_left
  · (intro wq hq; go_simp); first | done | with_reducible rfl
  try simp only [Act.put, List.setIfInBounds_toArray, List.set_cons_zero, List.set_cons_succ]
  refine take_at (i := 11) (v := ?_) (some 72) rfl (by kernel_rfl) (by kernel_rfl) (by kernel_rfl) rfl (fun _ _ _ h => h) (Or.inl ⟨by rfl, ?_⟩) hS ?_
  rotate_left
  · (intro wq hq; go_simp); first | done | with_reducible rfl
  try simp only [Act.put, List.setIfInBounds_toArray, List.set_cons_zero, List.set_cons_succ]
  refine take_at (i := 12) (v := ?_) (some 73) rfl (by kernel_rfl) (by kernel_rfl) (by kernel_rfl) rfl (fun _ _ _ h => h) (Or.inl ⟨by rfl, ?_⟩) hS ?_
  rotate_left
  · (intro wq hq; go_simp); first | done | with_reducible rfl
  try simp only [Act.put, List.setIfInBounds_toArray, List.set_cons_zero, List.set_cons_succ]
  refine take_at (i := 13) (v := ?_) (some 74) rfl (by kernel_rfl) (by kernel_rfl) (by kernel_rfl) rfl (fun _ _ _ h => h) (Or.inl ⟨by rfl, ?_⟩) hS ?_
  rotate_left
  · (intro wq hq; go_simp); first | done | with_reducible rfl
  try simp only [Act.put, List.setIfInBounds_toArray, List.set_cons_zero, List.set_cons_succ]
  refine take_at (i := 14) (v := ?_) (some 75) rfl (by kernel_rfl) (by kernel_rfl) (by kernel_rfl) rfl (fun _ _ _ h => h) (Or.inl ⟨by rfl, ?_⟩) hS ?_
  rotate_left
  · (intro wq hq; have hk := conv_any (hT1.ext hq) cap; go_simp); first | done | with_reducible rfl
  try simp only [Act.put, List.setIfInBounds_toArray, List.set_cons_zero, List.set_cons_succ]
  refine wpAnyH_ready (rs := [9]) (by kernel_rfl) (by simp) ?_
  refine AllReadyH.cons rfl (fun K hK => ?_) AllReadyH.nil
  go_simp
  refine (putvar_any y _ hy0 hy1).mono ?_
  rintro e w' ⟨rfl, rfl⟩
  refine hK.out _ _ ((Ext.refl _).alloc _) (fun hS0 => ?_)
  clear hK K
  try simp only [Act.put, List.setIfInBounds_toArray, List.set_cons_zero, List.set_cons_succ]
  clear hS
  refine held_now hS0 (fun hS => ?_)
  clear hS0
  refine take_at (i := 10) (v := ?_) (some 71) rfl (by kernel_rfl) (by kernel_rfl) (by kernel_rfl) rfl (fun _ _ _ h => h) (Or.inl ⟨by rfl, ?_⟩) hS ?_
  rotate_left
  · (intro wq hq; have hk := conv_any (a := some ⟨W.heap.size, 0, none⟩) ((BV.pv W.drew hy0).ext hq) 10; go_simp); first | done | with_reducible rfl
  try simp only [Act.put, List.setIfInBounds_toArray, List.set_cons_zero, List.set_cons_succ]
  refine take_at (i := 15) (v := ?_) (some 76) rfl (by kernel_rfl) (by kernel_rfl) (by kernel_rfl) rfl (fun _ _ _ h => h) (Or.inl ⟨by rfl, ?_⟩) hS ?_
  rotate_left
  · (intro wq hq; go_simp); first | done | with_reducible rfl
  try simp only [Act.put, List.setIfInBounds_toArray, List.set_cons_zero, List.set_cons_succ]
  refine take_at (i := 16) (v := ?_) (some 77) rfl (by kernel_rfl) (by kernel_rfl) (by kernel_rfl) rfl (fun _ _ _ h => h) (Or.inl ⟨by rfl, ?_⟩) hS ?_
  rotate_left
  · (intro wq hq; go_simp); first | done | with_reducible rfl
  try simp only [Act.put, List.setIfInBounds_toArray, List.set_cons_zero, List.set_cons_succ]
  refine take_at (i := 17) (v := ?_) (some 2) rfl (by kernel_rfl) (by kernel_rfl) (by kernel_rfl) rfl (fun _ _ _ h => h) (Or.inl ⟨by rfl, ?_⟩) hS ?_
  rotate_left
  · (intro wq hq; go_simp); first | done | with_reducible rfl
  try simp only [Act.put, List.setIfInBounds_toArray, List.set_cons_zero, List.set_cons_succ]
  refine wpAnyH_done (by kernel_rfl) (NoPanic.normal ?_) _
  go_wp2
  go_ret
  exact ⟨rfl, hbel.drew.alloc hbel.size _⟩
theorem numWhole_walk (a : Option Addr) (n cap : Nat) (zs : List Int) (w : World) (hv : BV w a n zs) (hcap : n ≤ cap) :
    Calls Try.prog 8 #[.slice a n cap] w fun e w' => e = .returned (.bool true) ∧ Below w.heap.size w w' := by
  by_cases h : (varR (zs.take (min n 40))).2 = 0
  · exact numWhole_none a n cap zs w hv hcap (varR_none h)
  · exact numWhole_some a n cap zs w hv hcap h
end Go.Proofs.Ytidcbdgeidbkiaa
