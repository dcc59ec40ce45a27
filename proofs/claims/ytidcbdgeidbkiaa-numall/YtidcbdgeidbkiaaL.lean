/- NumAll: the walk. -/
import Derived.Test.YtidcbdgeidbkiaaF
import Derived.Test.YtidcbdgeidbkiaaT
namespace Go.Proofs.Ytidcbdgeidbkiaa
open Go.ChangeShapes Go.WideShapes Go.ChangeAt Go.RowKit
set_option linter.unusedVariables false

theorem rzig_any (a : Int) (w : World) (h1 : -9223372036854775808 ≤ a) (h2 : a ≤ 9223372036854775807) :
    Calls Try.prog 20 #[.int .i64 a] w fun e w' => e = .returned (.int .u64 (zigF a)) ∧ w' = w := by
  by_cases h : a < 0
  · rw [zigF, if_pos h]; exact rzig_neg a w h1 h
  · rw [zigF, if_neg h]; exact rzig_pos a w (by omega) h2
theorem rzag_any (a : Int) (w : World) (h1 : 0 ≤ a) (h2 : a ≤ 18446744073709551615) :
    Calls Try.prog 22 #[.int .u64 a] w fun e w' => e = .returned (.int .i64 (zagF a)) ∧ w' = w := by
  by_cases h : a % 2 = 1
  · rw [zagF, if_pos h]; exact rzag_odd a w h1 h2 h
  · rw [zagF, if_neg h]; exact rzag_even a w h1 h2 (by omega)

/-- what the first eight bytes say -/
def g64 (n : Nat) (zs : List Int) : Int := if n < 8 then 0 else acc8 zs 8
def g64ok (n : Nat) : Bool := !decide (n < 8)
theorem get64_is (a : Option Addr) (n cap : Nat) (zs : List Int) (w : World) (hv : BV w a n zs) :
    Calls Try.prog 13 #[.slice a n cap] w fun e w' => e = .returned (.tuple #[.int .u64 (g64 n zs), .bool (g64ok n)]) ∧ Below w.heap.size w w' := get64_any a n cap zs w hv
theorem rget64_is (a : Option Addr) (n cap : Nat) (zs : List Int) (w : World) (hv : BV w a n zs) :
    Calls Try.prog 14 #[.slice a n cap] w fun e w' => e = .returned (.tuple #[.int .u64 (g64 n zs), .bool (g64ok n)]) ∧ w' = w := by
  unfold g64 g64ok
  by_cases h : n < 8
  · simp only [h, if_true, decide_true, Bool.not_true]
    exact rget64_few a n cap w h
  · simp only [h, if_false, decide_false, Bool.not_false]
    exact rget64_many a n cap zs w hv (by omega)

set_option maxHeartbeats 2000000 in
theorem numAll_walk (x i : Int) (a : Option Addr) (n cap : Nat) (zs : List Int) (w : World) (hx0 : 0 ≤ x) (hx1 : x ≤ 18446744073709551615) (hi0 : -9223372036854775808 ≤ i) (hi1 : i ≤ 9223372036854775807) (hv : BV w a n zs) (hcap : n ≤ cap) :
    Calls Try.prog 3 #[.int .u64 x, .int .i64 i, .slice a n cap] w fun e w' => e = .returned (.bool true) ∧ Below w.heap.size w w' := by
  have hL := hv.take (min n 40) (by omega)
  obtain ⟨m, L, hm, hLe⟩ : ∃ m L, m = min n 40 ∧ L = zs.take (min n 40) := ⟨_, _, rfl, rfl⟩
  rw [← hLe, ← hm] at hL
  have hmc : m ≤ cap := by omega
  have HM : Hid (m = min n 40) := hm
  have hb1 : Below w.heap.size w (w.alloc (pvObj 300)) := (Below.refl _ _).alloc (Nat.le_refl _) _
  clear hm hLe
  obtain ⟨r1, hr1⟩ : ∃ r, r = (varR L).1 := ⟨_, rfl⟩
  obtain ⟨r2, hr2⟩ : ∃ r, r = (varR L).2 := ⟨_, rfl⟩
  go_enter Try.func3, Try.ntmps3
  go_wp2_with (go_at_call 9; refine (shown_any _).mono ?_; rintro e w' ⟨rfl, rfl⟩)
  refine (short_is (hv.alloc _) hcap HM.out).mono ?_
  rintro e w1 ⟨rfl, rfl⟩
  go_wp2_with fail
  refine (var_any _ _ _ _ _ (hL.alloc _)).mono ?_
  rintro e w1 ⟨rfl, rfl⟩
  rw [← hr1, ← hr2]
  go_wp2_with fail
  refine (rvar_any _ _ _ _ _ (hL.alloc _) hmc).mono ?_
  rintro e w2 ⟨rfl, hb2⟩
  rw [← hr1, ← hr2]
  have hb2' : Below w.heap.size w w2 := hb1.trans (hb2.mono hb1.size)
  clear hb2 hb1
  go_wp2_with fail
  refine (get64_is _ _ _ _ _ (hL.below hb2')).mono ?_
  rintro e w3 ⟨rfl, hb3⟩
  have hb3' : Below w.heap.size w w3 := hb2'.trans (hb3.mono hb2'.size)
  clear hb3 hb2'
  go_wp2_with fail
  refine (rget64_is _ _ _ _ _ (hL.below hb3')).mono ?_
  rintro e w3 ⟨rfl, rfl⟩
  generalize g64 m L = q1
  generalize g64ok m = q2
  clear hL hv hr1 hr2
  go_wp2_with fail
  have hsz := hb3'.size
  refine wp_region_noPanic ?_
  refine wp_region_held_drew (S := Ext (World.drew _)) (by kernel_rfl) (Ext.refl _) (fun hS => ?_)
  refine take_at (i := 0) (v := ?_) (some 40) rfl (by kernel_rfl) (by kernel_rfl) (by kernel_rfl) rfl (fun _ _ _ h => h) (Or.inl ⟨by rfl, ?_⟩) hS ?_
  rotate_left
  · (intro wq hq; go_simp); first | done | with_reducible rfl
  try simp only [Act.put, List.setIfInBounds_toArray, List.set_cons_zero, List.set_cons_succ]
  refine take_at (i := 3) (v := ?_) (some 43) rfl (by kernel_rfl) (by kernel_rfl) (by kernel_rfl) rfl (fun _ _ _ h => h) (Or.inl ⟨by rfl, ?_⟩) hS ?_
  rotate_left
  · (intro wq hq; go_simp); first | done | with_reducible rfl
  try simp only [Act.put, List.setIfInBounds_toArray, List.set_cons_zero, List.set_cons_succ]
  refine wpAnyH_ready (rs := [1]) (by kernel_rfl) (by simp) ?_
  refine AllReadyH.cons rfl (fun K hK => ?_) AllReadyH.nil
  go_simp
  refine (putvar_any x _ hx0 hx1).mono ?_
  rintro e w' ⟨rfl, rfl⟩
  refine hK.out _ _ ((Ext.refl _).alloc _) (fun hS0 => ?_)
  clear hK K
  try simp only [Act.put, List.setIfInBounds_toArray, List.set_cons_zero, List.set_cons_succ]
  clear hS
  refine held_now hS0 (fun hS => ?_)
  clear hS0
  refine take_at (i := 2) (v := ?_) (some 42) rfl (by kernel_rfl) (by kernel_rfl) (by kernel_rfl) rfl (fun _ _ _ h => h) (Or.inl ⟨by rfl, ?_⟩) hS ?_
  rotate_left
  · (intro wq hq; have hk := conv_any (a := some ⟨w3.heap.size, 0, none⟩) ((BV.pv w3.drew hx0).ext hq) 10; go_simp); first | done | with_reducible rfl
  try simp only [Act.put, List.setIfInBounds_toArray, List.set_cons_zero, List.set_cons_succ]
  have hb4 : Below w.heap.size w (w3.drew.alloc (pvObj x)) := hb3'.drew.alloc hsz _
  clear hb3' hsz
  generalize w3.drew.alloc (pvObj x) = w4 at *
  have hsz := hb4.size
  refine wpAnyH_ready (rs := [4]) (by kernel_rfl) (by simp) ?_
  refine AllReadyH.cons rfl (fun K hK => ?_) AllReadyH.nil
  go_simp
  refine (rputvar_any x _ hx0 hx1).mono ?_
  rintro e w5 ⟨v, rfl, hob, hbel⟩
  obtain ⟨av, cv, rfl, -, hbv, -⟩ := hob.bv (pv_bytes hx0)
  clear hob
  have hb5 : Below w.heap.size w w5 := hb4.trans (hbel.mono hsz)
  refine hK.out _ _ (Ext.below hbel) (fun hS0 => ?_)
  clear hK K
  try simp only [Act.put, List.setIfInBounds_toArray, List.set_cons_zero, List.set_cons_succ]
  clear hS
  refine held_now hS0 (fun hS => ?_)
  clear hS0
  clear hbel hb4 hsz
  refine take_at (i := 5) (v := ?_) (some 45) rfl (by kernel_rfl) (by kernel_rfl) (by kernel_rfl) rfl (fun _ _ _ h => h) (Or.inl ⟨by rfl, ?_⟩) hS ?_
  rotate_left
  · (intro wq hq; have hk := conv_any (hbv.ext hq) cv; go_simp); first | done | with_reducible rfl
  try simp only [Act.put, List.setIfInBounds_toArray, List.set_cons_zero, List.set_cons_succ]
  refine take_at (i := 6) (v := ?_) (some 46) rfl (by kernel_rfl) (by kernel_rfl) (by kernel_rfl) rfl (fun _ _ _ h => h) (Or.inl ⟨by rfl, ?_⟩) hS ?_
  rotate_left
  · (intro wq hq; go_simp); first | done | with_reducible rfl
  try simp only [Act.put, List.setIfInBounds_toArray, List.set_cons_zero, List.set_cons_succ]
  refine take_at (i := 7) (v := ?_) (some 47) rfl (by kernel_rfl) (by kernel_rfl) (by kernel_rfl) rfl (fun _ _ _ h => h) (Or.inl ⟨by rfl, ?_⟩) hS ?_
  rotate_left
  · (intro wq hq; go_simp); first | done | with_reducible rfl
  try simp only [Act.put, List.setIfInBounds_toArray, List.set_cons_zero, List.set_cons_succ]
  refine take_at (i := 8) (v := ?_) (some 48) rfl (by kernel_rfl) (by kernel_rfl) (by kernel_rfl) rfl (fun _ _ _ h => h) (Or.inl ⟨by rfl, ?_⟩) hS ?_
  rotate_left
  · (intro wq hq; go_simp); first | done | with_reducible rfl
  try simp only [Act.put, List.setIfInBounds_toArray, List.set_cons_zero, List.set_cons_succ]
  refine take_at (i := 11) (v := ?_) (some 51) rfl (by kernel_rfl) (by kernel_rfl) (by kernel_rfl) rfl (fun _ _ _ h => h) (Or.inl ⟨by rfl, ?_⟩) hS ?_
  rotate_left
  · (intro wq hq; go_simp); first | done | with_reducible rfl
  try simp only [Act.put, List.setIfInBounds_toArray, List.set_cons_zero, List.set_cons_succ]
  have hsz := hb5.size
  clear hbv
  refine wpAnyH_ready (rs := [9]) (by kernel_rfl) (by simp) ?_
  refine AllReadyH.cons rfl (fun K hK => ?_) AllReadyH.nil
  go_simp
  refine (put64_any x _ hx0 hx1).mono ?_
  rintro e w' ⟨rfl, rfl⟩
  refine hK.out _ _ ((Ext.refl _).alloc _) (fun hS0 => ?_)
  clear hK K
  try simp only [Act.put, List.setIfInBounds_toArray, List.set_cons_zero, List.set_cons_succ]
  clear hS
  refine held_now hS0 (fun hS => ?_)
  clear hS0
  refine take_at (i := 10) (v := ?_) (some 50) rfl (by kernel_rfl) (by kernel_rfl) (by kernel_rfl) rfl (fun _ _ _ h => h) (Or.inl ⟨by rfl, ?_⟩) hS ?_
  rotate_left
  · (intro wq hq; have hk := conv_any (a := some ⟨w5.heap.size, 0, none⟩) ((BV.w8 x w5).ext hq) 8; go_simp); first | done | with_reducible rfl
  try simp only [Act.put, List.setIfInBounds_toArray, List.set_cons_zero, List.set_cons_succ]
  have hb6 : Below w.heap.size w (w5.alloc (p64Obj x)) := hb5.alloc hsz _
  clear hb5 hsz
  generalize w5.alloc (p64Obj x) = w6 at *
  have hsz := hb6.size
  refine wpAnyH_ready (rs := [12]) (by kernel_rfl) (by simp) ?_
  refine AllReadyH.cons rfl (fun K hK => ?_) AllReadyH.nil
  go_simp
  refine (rput64_any x _ hx0 hx1).mono ?_
  rintro e w7 ⟨v, rfl, hob, hbel⟩
  obtain ⟨av7, cv7, rfl, -, hbv, -⟩ := hob.bvn (w8_bytes x) 8 rfl
  clear hob
  have hb7 : Below w.heap.size w w7 := hb6.trans (hbel.mono hsz)
  refine hK.out _ _ (Ext.below hbel) (fun hS0 => ?_)
  clear hK K
  try simp only [Act.put, List.setIfInBounds_toArray, List.set_cons_zero, List.set_cons_succ]
  clear hS
  refine held_now hS0 (fun hS => ?_)
  clear hS0
  clear hbel hb6 hsz
  refine take_at (i := 13) (v := ?_) (some 53) rfl (by kernel_rfl) (by kernel_rfl) (by kernel_rfl) rfl (fun _ _ _ h => h) (Or.inl ⟨by rfl, ?_⟩) hS ?_
  rotate_left
  · (intro wq hq; have hk := conv_any (hbv.ext hq) cv7; go_simp); first | done | with_reducible rfl
  try simp only [Act.put, List.setIfInBounds_toArray, List.set_cons_zero, List.set_cons_succ]
  refine take_at (i := 14) (v := ?_) (some 54) rfl (by kernel_rfl) (by kernel_rfl) (by kernel_rfl) rfl (fun _ _ _ h => h) (Or.inl ⟨by rfl, ?_⟩) hS ?_
  rotate_left
  · (intro wq hq; go_simp); first | done | with_reducible rfl
  try simp only [Act.put, List.setIfInBounds_toArray, List.set_cons_zero, List.set_cons_succ]
  refine take_at (i := 15) (v := ?_) (some 55) rfl (by kernel_rfl) (by kernel_rfl) (by kernel_rfl) rfl (fun _ _ _ h => h) (Or.inl ⟨by rfl, ?_⟩) hS ?_
  rotate_left
  · (intro wq hq; go_simp); first | done | with_reducible rfl
  try simp only [Act.put, List.setIfInBounds_toArray, List.set_cons_zero, List.set_cons_succ]
  refine take_at (i := 16) (v := ?_) (some 16) rfl (by kernel_rfl) (by kernel_rfl) (by kernel_rfl) rfl (fun _ _ _ h => h) (Or.inl ⟨by rfl, ?_⟩) hS ?_
  rotate_left
  · (intro wq hq; go_simp); first | done | with_reducible rfl
  try simp only [Act.put, List.setIfInBounds_toArray, List.set_cons_zero, List.set_cons_succ]
  refine wpAnyH_done (by kernel_rfl) (NoPanic.normal ?_) _
  clear hbv hS
  go_wp2_with (first | (go_at_call 19; refine (zig_any _ _ hi0 hi1).mono ?_; rintro e w' ⟨rfl, rfl⟩) | (go_at_call 20; refine (rzig_any _ _ hi0 hi1).mono ?_; rintro e w' ⟨rfl, rfl⟩) | (go_at_call 21; refine (zag_any _ _ hx0 hx1).mono ?_; rintro e w' ⟨rfl, rfl⟩) | (go_at_call 22; refine (rzag_any _ _ hx0 hx1).mono ?_; rintro e w' ⟨rfl, rfl⟩))
  go_ret
  exact ⟨rfl, by assumption⟩
end Go.Proofs.Ytidcbdgeidbkiaa
