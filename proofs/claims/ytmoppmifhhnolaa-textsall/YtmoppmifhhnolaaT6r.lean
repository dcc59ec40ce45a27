/- Plain facts on how columns of texts are read; contracts of readBelow, readEach. -/
import Derived.Test.YtmoppmifhhnolaaT6c
import Derived.Test.YtmoppmifhhnolaaH5
import Derived.Test.YtmoppmifhhnolaaR2
namespace Go.Proofs.Ytmoppmifhhnolaa
open Go.ChangeShapes Go.WideShapes Go.ChangeAt Go.RowKit
set_option linter.unusedVariables false

/-- what zs says, when it says how many -/
theorem putT_of {zs body : List Int} {c : Int} (hc : 0 ≤ c ∧ c ≤ 18446744073709551615) (hz : zs = pv c ++ body) {k : List ByteArray} (hk : k.length ≤ 2000) (h : putT k = zs) : (k.length : Int) = c ∧ bodyT k = body := by
  rw [hz, putT] at h
  exact pv_cut (by omega) hc h
theorem noT_below {zs : List Int} (h : ∀ (k : Nat) (r : List Int), (k : Int) < 2001 → zs ≠ pv (k : Int) ++ r) : NoT zs := by
  intro k hk hp
  have := hk.1
  exact h k.length (bodyT k) (by omega) hp.symm
theorem noT_empty {zs : List Int} {c : Int} (hc : 0 ≤ c ∧ c ≤ 18446744073709551615) (hz : zs = pv c ++ []) : NoT zs := by
  intro k hk hp
  have h1 := (putT_of hc hz hk.1 hp).2
  have h2 := (bodyT_len k).1
  rw [h1] at h2
  simp at h2
theorem noT_way {zs r : List Int} {c y : Int} (hc : 0 ≤ c ∧ c ≤ 18446744073709551615) (hz : zs = pv c ++ (y :: r)) (h0 : y ≠ 0) (h1 : y ≠ 1) : NoT zs := by
  intro k hk hp
  have h2 := (putT_of hc hz hk.1 hp).2
  unfold bodyT at h2
  split at h2
  · rw [List.cons.injEq] at h2; exact h1 h2.1.symm
  · rw [List.cons.injEq] at h2; exact h0 h2.1.symm
theorem wayT0 {zs r : List Int} {N : Nat} (hz : zs = pv (N : Int) ++ (0 :: r)) (hN : N ≤ 2000) {k : List ByteArray} (hn : k.length ≤ 2000) (hp : putT k = zs) : k.length = N ∧ eachL k = r := by
  obtain ⟨h1, h2⟩ := putT_of (by omega) hz hn hp
  unfold bodyT at h2
  split at h2
  · rw [List.cons.injEq] at h2; exact absurd h2.1 (by decide)
  · rw [List.cons.injEq] at h2; exact ⟨by omega, h2.2⟩
theorem wayT1 {zs r : List Int} {N : Nat} (hz : zs = pv (N : Int) ++ (1 :: r)) (hN : N ≤ 2000) {k : List ByteArray} (hn : k.length ≤ 2000) (hp : putT k = zs) : k.length = N ∧ dictL k = r := by
  obtain ⟨h1, h2⟩ := putT_of (by omega) hz hn hp
  unfold bodyT at h2
  split at h2
  · rw [List.cons.injEq] at h2; exact ⟨by omega, h2.2⟩
  · rw [List.cons.injEq] at h2; exact absurd h2.1 (by decide)
theorem below_none {zs : List Int} (h : (varR zs).2 = 0) (k : Nat) (r : List Int) (hk : (k : Int) < 10000) : zs ≠ pv (k : Int) ++ r := by
  intro e
  have := varR_put (k : Int) r (by omega) (by omega)
  rw [← e] at this
  rw [this] at h
  have hp := pv_pos (k : Int)
  simp at h
  rw [h] at hp
  simp at hp
theorem below_not {zs rest : List Int} {y : Int} (hy : 0 ≤ y ∧ y ≤ 18446744073709551615) (hz : zs = pv y ++ rest) (k : Nat) (r : List Int) (hk : (k : Int) < y) : zs ≠ pv (k : Int) ++ r := by
  intro e
  rw [hz] at e
  have := (pv_cut hy (by omega) e).1
  omega
/-- what readBelow tells -/
def BelowE (w w' : World) (a0 : Option Addr) (n0 : Nat) (zs : List Int) (top : Int) (e : Ending) : Prop :=
  (∃ (x : Nat) (r : List Int) (a : Option Addr) (n c : Nat), e = .returned (.tuple #[.int .i64 (x : Int), .slice a n c, .bool true]) ∧ (x : Int) < top ∧ zs = pv (x : Int) ++ r ∧ n ≤ c ∧ n ≤ n0 ∧ (∀ V, BV V a0 n0 zs → BV V a n r) ∧ Below w.heap.size w w') ∨
  (e = .returned (.tuple #[.int .i64 0, .slice none 0 0, .bool false]) ∧ (∀ (k : Nat) (r : List Int), (k : Int) < top → zs ≠ pv (k : Int) ++ r) ∧ Below w.heap.size w w')
set_option maxHeartbeats 1000000 in
theorem treadb_any (top : Int) (ht0 : 0 ≤ top) (ht1 : top ≤ 2001) (a : Option Addr) (n c : Nat) (zs : List Int) (w : World) (hv : BV w a n zs) (hc : n ≤ c) :
    Calls Try.prog 29 #[.int .i64 top, .slice a n c] w fun e w' => BelowE w w' a n zs top e := by
  have hlz := hv.1
  have hwt : IntKind.u64.wrap top = top := u64_same ht0 (by omega)
  by_cases hs0 : (varR zs).2 = 0
  · have hno := Lib.hid (varR_none hs0)
    have HF : Hid (∀ (k : Nat) (r : List Int), (k : Int) < top → zs ≠ pv (k : Int) ++ r) := Lib.hid (fun k r hk => below_none hs0 k r (by omega))
    clear hs0 hlz
    go_enter Try.func29, Try.ntmps29
    go_wp2_with fail
    refine (var_any a n c zs _ hv).mono ?_
    rw [hno.out]
    rintro e w' ⟨rfl, rfl⟩
    clear hno
    go_wp2_with fail
    go_ret3
    exact .inr ⟨rfl, HF.out, Below.refl _ _⟩
  · obtain ⟨y, rest, hrr, hy0, hy1, hvar⟩ := varR_back zs hv.2.1 hs0
    have hpos := pv_pos y
    have hl10 := pv_len10 (x := y) (by omega)
    obtain ⟨s, hs⟩ : ∃ s, (pv y).length = s := ⟨_, rfl⟩
    rw [hs] at hvar hpos hl10
    have hsn : n = s + rest.length := by
      have := congrArg List.length hrr
      rw [List.length_append, hlz, hs] at this; exact this
    have HV := Lib.hid hvar
    clear hs0 hlz hvar
    have hs1 : ((s : Int) == 0) = false := by rw [beq_eq_false_iff_ne]; omega
    by_cases hmany : top ≤ y
    · have HF : Hid (∀ (k : Nat) (r : List Int), (k : Int) < top → zs ≠ pv (k : Int) ++ r) := Lib.hid (fun k r hk => below_not ⟨hy0, hy1⟩ hrr k r (by omega))
      clear hrr hsn hs
      go_enter Try.func29, Try.ntmps29
      go_wp2_with fail
      refine (var_any a n c zs _ hv).mono ?_
      rw [HV.out]
      rintro e w' ⟨rfl, rfl⟩
      go_wp2_with fail
      go_ret3
      exact .inr ⟨rfl, HF.out, Below.refl _ _⟩
    · obtain ⟨x, rfl⟩ : ∃ x : Nat, y = (x : Int) := ⟨y.toNat, by omega⟩
      have hxi : IntKind.i64.wrap (x : Int) = (x : Int) := by rw [IntKind.wrap_i64]; omega
      obtain ⟨a', hsl, -⟩ := hv.slice_lo s c (by omega) hc
      have HR : Hid (∀ V, BV V a n zs → BV V a' (n - s) rest) := Lib.hid (fun V hV => by
        obtain ⟨a2, hsl2, hb2⟩ := hV.slice_lo s c (by omega) hc
        have e1 := (hsl V).symm.trans (hsl2 V)
        simp only [Result.ok.injEq, Value.slice.injEq, and_true] at e1
        rw [e1]
        rw [show zs.drop s = rest by rw [hrr, ← hs]; exact List.drop_left' rfl] at hb2
        exact hb2)
      have HZ := Lib.hid hrr
      clear hrr hsn hs
      go_enter Try.func29, Try.ntmps29
      go_wp2_with fail
      refine (var_any a n c zs _ hv).mono ?_
      rw [HV.out]
      rintro e w' ⟨rfl, rfl⟩
      go_wp2_with fail
      refine wp_region_noPanic ?_
      refine region_g 8 (Ext (World.drew _)) (by kernel_rfl) (Ext.refl _) (fun hS => ?_)
      refine take_w (i := 0) (v := ?_) (some 22) rfl (by kernel_rfl) rfl (fun _ _ _ h => h) (Or.inl ⟨by rfl, ?_⟩) hS ?_
      rotate_left
      · (intro wq hq; go_simp); first | done | with_reducible rfl
      try simp only [Act.put, List.setIfInBounds_toArray, List.set_cons_zero, List.set_cons_succ]
      replace hS := Till.list 0 hS
      refine take_w (i := 2) (v := ?_) (some 24) rfl (by kernel_rfl) rfl (fun _ _ _ h => h) (Or.inl ⟨by rfl, ?_⟩) hS ?_
      rotate_left
      · (intro wq hq; go_simp); first | done | with_reducible rfl
      try simp only [Act.put, List.setIfInBounds_toArray, List.set_cons_zero, List.set_cons_succ]
      replace hS := Till.list 2 hS
      refine take_w (i := 3) (v := ?_) (some 25) rfl (by kernel_rfl) rfl (fun _ _ _ h => h) (Or.inl ⟨by rfl, ?_⟩) hS ?_
      rotate_left
      · (intro wq hq; go_simp); first | done | with_reducible rfl
      try simp only [Act.put, List.setIfInBounds_toArray, List.set_cons_zero, List.set_cons_succ]
      replace hS := Till.list 3 hS
      refine take_w (i := 1) (v := ?_) (some 23) rfl (by kernel_rfl) rfl (fun _ _ _ h => h) (Or.inl ⟨by rfl, ?_⟩) hS ?_
      rotate_left
      · (intro wq hq; go_simp); first | done | with_reducible rfl
      try simp only [Act.put, List.setIfInBounds_toArray, List.set_cons_zero, List.set_cons_succ]
      replace hS := Till.list 1 hS
      refine take_w (i := 4) (v := ?_) (some 26) rfl (by kernel_rfl) rfl (fun _ _ _ h => h) (Or.inl ⟨by rfl, ?_⟩) hS ?_
      rotate_left
      · (intro wq hq; go_simp); first | done | with_reducible rfl
      try simp only [Act.put, List.setIfInBounds_toArray, List.set_cons_zero, List.set_cons_succ]
      replace hS := Till.list 4 hS
      refine take_w (i := 5) (v := ?_) (some 4) rfl (by kernel_rfl) rfl (fun _ _ _ h => h) (Or.inl ⟨by rfl, ?_⟩) hS ?_
      rotate_left
      · (intro wq hq; go_simp); first | done | with_reducible rfl
      try simp only [Act.put, List.setIfInBounds_toArray, List.set_cons_zero, List.set_cons_succ]
      replace hS := Till.list 5 hS
      refine take_w (i := 6) (v := ?_) (some 5) rfl (by kernel_rfl) rfl (fun _ _ _ h => h) (Or.inl ⟨by rfl, ?_⟩) hS ?_
      rotate_left
      · (intro wq hq; go_simp); first | done | with_reducible rfl
      try simp only [Act.put, List.setIfInBounds_toArray, List.set_cons_zero, List.set_cons_succ]
      replace hS := Till.list 6 hS
      refine take_w (i := 7) (v := ?_) (some 6) rfl (by kernel_rfl) rfl (fun _ _ _ h => h) (Or.inl ⟨by rfl, ?_⟩) hS ?_
      rotate_left
      · (intro wq hq; go_simp); first | done | with_reducible rfl
      try simp only [Act.put, List.setIfInBounds_toArray, List.set_cons_zero, List.set_cons_succ]
      replace hS := Till.list 7 hS
      refine done_g (by kernel_rfl) (NoPanic.normal ?_) _
      clear hS
      go_wp2_with fail
      go_ret3
      exact .inl ⟨x, rest, a', n - s, c - s, rfl, by omega, HZ.out, by omega, by omega, HR.out, (Below.refl _ _).drew⟩
end Go.Proofs.Ytmoppmifhhnolaa
