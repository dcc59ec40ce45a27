/- Contracts of package ints: read, Take. -/
import Derived.Test.YtiedejeimhjngaaI5t
namespace Go.Proofs.Ytiedejeimhjngaa
open Go.ChangeShapes Go.WideShapes Go.ChangeAt Go.RowKit
set_option linter.unusedVariables false

/-- what read tells -/
def ReadA (w w' : World) (zs : List Int) (e : Ending) : Prop :=
  (∃ (A : Option Addr) (N C : Nat) (l : List Int), e = .returned (.tuple #[.slice A N C, .bool true]) ∧ N ≤ C ∧ N ≤ 2000 ∧ I64s l ∧ IV w' A N l ∧ (∀ k, I64s k → k.length ≤ 2000 → putI k = zs → k = l) ∧ Below w.heap.size w w') ∨
  (e = .returned (.tuple #[.slice none 0 0, .bool false]) ∧ NoI zs ∧ Below w.heap.size w w')
theorem ReadE.all {w w' : World} {N : Nat} {G : List Int → Prop} {e : Ending} {zs : List Int} (h : ReadE w w' N G e) (hN : N ≤ 2000) (hG : ∀ k, k.length ≤ 2000 → putI k = zs → k.length = N ∧ G k) : ReadA w w' zs e := by
  rcases h with ⟨A, C, l, he, hc, hi, hv, hu, hb⟩ | ⟨he, hn, hb⟩
  · refine .inl ⟨A, N, C, l, he, hc, hN, hi, hv, fun k hk hkn hp => ?_, hb⟩
    obtain ⟨h1, h2⟩ := hG k hkn hp
    exact hu k hk h1 h2
  · refine .inr ⟨he, fun k hk hkn hp => ?_, hb⟩
    obtain ⟨h1, h2⟩ := hG k hkn hp
    exact hn k hk h1 h2
theorem ReadA.shape {w w' : World} {zs : List Int} {e : Ending} (h : ReadA w w' zs e) : ∃ (A : Option Addr) (N C : Nat) (ok : Bool), e = .returned (.tuple #[.slice A N C, .bool ok]) := by
  rcases h with ⟨A, N, C, l, he, _⟩ | ⟨he, _⟩
  · exact ⟨A, N, C, _, he⟩
  · exact ⟨none, 0, 0, _, he⟩
theorem ReadA.undrew {w w' : World} {zs : List Int} {e : Ending} (h : ReadA w.drew w' zs e) : ReadA w w' zs e := by
  have hd : ∀ {w'}, Below w.drew.heap.size w.drew w' → Below w.heap.size w w' := fun h => (Below.refl w.heap.size w).drew.trans h
  rcases h with ⟨A, N, C, l, he, h1, h2, h3, h4, h5, hb⟩ | ⟨he, hn, hb⟩
  · exact .inl ⟨A, N, C, l, he, h1, h2, h3, h4, h5, hd hb⟩
  · exact .inr ⟨he, hn, hd hb⟩
set_option maxHeartbeats 2000000 in
theorem read_any (a : Option Addr) (n c : Nat) (zs : List Int) (w : World) (hv : BV w a n zs) (hc : n ≤ c) (hn : n ≤ 1000000) :
    Calls Try.prog 20 #[.slice a n c] w fun e w' => ReadA w w' zs e := by
  have hlz := hv.1
  by_cases hs0 : (varR zs).2 = 0
  · have hno := Lib.hid (varR_none hs0)
    have HF := Lib.hid (noI_none hs0)
    clear hs0 hlz
    go_enter Try.func20, Try.ntmps20
    go_wp2_with fail
    refine (var_any a n c zs _ hv).mono ?_
    rw [hno.out]
    rintro e w' ⟨rfl, rfl⟩
    clear hno
    go_wp2_with fail
    go_ret2
    exact .inr ⟨rfl, HF.out, Below.refl _ _⟩
  · obtain ⟨y, rest, hrr, hy0, hy1, hvar⟩ := varR_back zs hv.2.1 hs0
    have hpos := pv_pos y
    have hl10 := pv_len10 (x := y) (by omega)
    obtain ⟨s, hs⟩ : ∃ s, (pv y).length = s := ⟨_, rfl⟩
    rw [hs] at hvar hpos hl10
    have hsn : n = s + rest.length := by
      have := congrArg List.length hrr
      rw [List.length_append, hlz, hs] at this; exact this
    have HV := Lib.hid hvar
    clear hs0 hlz hvar
    have hs1 : ((s : Int) == 0) = false := by rw [beq_eq_false_iff_ne]; omega
    by_cases hmany : 2000 < y
    · have HF := Lib.hid (noI_many ⟨hy0, hy1⟩ hrr hmany)
      clear hrr hsn hs
      go_enter Try.func20, Try.ntmps20
      go_wp2_with fail
      refine (var_any a n c zs _ hv).mono ?_
      rw [HV.out]
      rintro e w' ⟨rfl, rfl⟩
      go_wp2_with fail
      go_ret2
      exact .inr ⟨rfl, HF.out, Below.refl _ _⟩
    · cases rest with
      | nil =>
        rw [List.append_nil] at hrr
        have HF := Lib.hid (noI_empty ⟨hy0, hy1⟩ hrr)
        obtain rfl : n = s := hsn
        clear hrr hs
        go_enter Try.func20, Try.ntmps20
        go_wp2_with fail
        refine (var_any a n c zs _ hv).mono ?_
        rw [HV.out]
        rintro e w' ⟨rfl, rfl⟩
        go_wp2_with fail
        go_ret2
        exact .inr ⟨rfl, HF.out, Below.refl _ _⟩
      | cons x r =>
        obtain ⟨N, rfl⟩ : ∃ N : Nat, y = (N : Int) := ⟨y.toNat, by omega⟩
        have hN : N ≤ 2000 := by omega
        have hNi : IntKind.i64.wrap (N : Int) = (N : Int) := by rw [IntKind.wrap_i64]; omega
        have HZ := Lib.hid hrr
        rw [List.length_cons] at hsn
        obtain ⟨b, off, rfl, hcell⟩ := hv.opened (by omega)
        have hcw := hcell s (by omega)
        rw [show zs.getD s 0 = x by rw [hrr]; simp [List.getD, hs]] at hcw
        have hcut := hv.cut (s + 1) c (by omega) hc
        rw [show zs.drop (s + 1) = r by rw [hrr, List.drop_append, hs]; simp [List.drop_eq_nil_of_le, hs]] at hcut
        have hxb : 0 ≤ x ∧ x ≤ 255 := hv.2.1 x (by rw [hrr]; simp)
        have i1 : ((n : Int) == (s : Int)) = false := by rw [beq_eq_false_iff_ne]; omega
        have i2 : (s : Int) < (n : Int) := by omega
        obtain ⟨t, ht⟩ : ∃ t, s + 1 = t := ⟨_, rfl⟩
        rw [ht] at hcut
        have hwt : IntKind.i64.wrap ((s : Int) + 1) = (t : Int) := by rw [IntKind.wrap_i64]; omega
        have i3 : (t : Int) ≤ (n : Int) := by omega
        have i4 : t ≤ n := by omega
        clear hrr hs hcell hsn ht
        go_enter Try.func20, Try.ntmps20
        go_wp2_with fail
        refine (var_any _ n c zs _ hv).mono ?_
        rw [HV.out]
        rintro e w' ⟨rfl, rfl⟩
        go_wp2_with fail
        by_cases hcs : c = t
        · rw [if_pos hcs, show n - t = 0 by omega] at hcut
          subst hcs
          refine wp_region_noPanic ?_
          refine region_g 10 (Ext (World.drew _)) (by kernel_rfl) (Ext.refl _) (fun hS => ?_)
          refine take_w (i := 0) (v := ?_) (some 25) rfl (by kernel_rfl) rfl (fun _ _ _ h => h) (Or.inl ⟨by rfl, ?_⟩) hS ?_
          rotate_left
          · (intro wq hq; go_simp); first | done | with_reducible rfl
          try simp only [Act.put, List.setIfInBounds_toArray, List.set_cons_zero, List.set_cons_succ]
          replace hS := Till.list 0 hS
          refine take_w (i := 1) (v := ?_) (some 26) rfl (by kernel_rfl) rfl (fun _ _ _ h => h) (Or.inl ⟨by rfl, ?_⟩) hS ?_
          rotate_left
          · (intro wq hq; go_simp); first | done | with_reducible rfl
          try simp only [Act.put, List.setIfInBounds_toArray, List.set_cons_zero, List.set_cons_succ]
          replace hS := Till.list 1 hS
          refine take_w (i := 4) (v := ?_) (some 29) rfl (by kernel_rfl) rfl (fun _ _ _ h => h) (Or.inl ⟨by rfl, ?_⟩) hS ?_
          rotate_left
          · (intro wq hq; go_simp); first | done | with_reducible rfl
          try simp only [Act.put, List.setIfInBounds_toArray, List.set_cons_zero, List.set_cons_succ]
          replace hS := Till.list 4 hS
          refine take_w (i := 5) (v := ?_) (some 30) rfl (by kernel_rfl) rfl (fun _ _ _ h => h) (Or.inl ⟨by rfl, ?_⟩) hS ?_
          rotate_left
          · (intro wq hq; go_simp); first | done | with_reducible rfl
          try simp only [Act.put, List.setIfInBounds_toArray, List.set_cons_zero, List.set_cons_succ]
          replace hS := Till.list 5 hS
          refine take_w (i := 2) (v := ?_) (some 27) rfl (by kernel_rfl) rfl (fun _ _ _ h => h) (Or.inl ⟨by rfl, ?_⟩) hS ?_
          rotate_left
          · (intro wq hq; go_simp); first | done | with_reducible rfl
          try simp only [Act.put, List.setIfInBounds_toArray, List.set_cons_zero, List.set_cons_succ]
          replace hS := Till.list 2 hS
          refine take_w (i := 6) (v := ?_) (some 31) rfl (by kernel_rfl) rfl (fun _ _ _ h => h) (Or.inl ⟨by rfl, ?_⟩) hS ?_
          rotate_left
          · (intro wq hq; go_simp); first | done | with_reducible rfl
          try simp only [Act.put, List.setIfInBounds_toArray, List.set_cons_zero, List.set_cons_succ]
          replace hS := Till.list 6 hS
          refine take_n (i := 3) (v := ?_) (some 28) rfl (by kernel_rfl) rfl (fun _ _ _ h => h) (Or.inl ⟨by rfl, ?_⟩) hS ?_
          rotate_left
          · (intro wq hq; have q0 := hq _ _ _ hcw; go_simp); first | done | with_reducible rfl
          try simp only [Act.put, List.setIfInBounds_toArray, List.set_cons_zero, List.set_cons_succ]
          replace hS := Till.list 3 hS
          refine take_w (i := 7) (v := ?_) (some 32) rfl (by kernel_rfl) rfl (fun _ _ _ h => h) (Or.inl ⟨by rfl, ?_⟩) hS ?_
          rotate_left
          · (intro wq hq; go_simp); first | done | with_reducible rfl
          try simp only [Act.put, List.setIfInBounds_toArray, List.set_cons_zero, List.set_cons_succ]
          replace hS := Till.list 7 hS
          refine take_w (i := 8) (v := ?_) (some 6) rfl (by kernel_rfl) rfl (fun _ _ _ h => h) (Or.inl ⟨by rfl, ?_⟩) hS ?_
          rotate_left
          · (intro wq hq; go_simp); first | done | with_reducible rfl
          try simp only [Act.put, List.setIfInBounds_toArray, List.set_cons_zero, List.set_cons_succ]
          replace hS := Till.list 8 hS
          refine take_w (i := 9) (v := ?_) (some 7) rfl (by kernel_rfl) rfl (fun _ _ _ h => h) (Or.inl ⟨by rfl, ?_⟩) hS ?_
          rotate_left
          · (intro wq hq; go_simp); first | done | with_reducible rfl
          try simp only [Act.put, List.setIfInBounds_toArray, List.set_cons_zero, List.set_cons_succ]
          replace hS := Till.list 9 hS
          refine done_g (by kernel_rfl) (NoPanic.normal ?_) _
          clear hS
          have hcd := hcut.drew
          clear hcw hcut hv
          by_cases w0 : x = 0
          · subst w0
            go_wp2_with fail
            refine (readf_any N hN _ _ _ r _ hcd (by omega)).mono ?_
            rintro e w2 he
            have hA := (he.all hN (fun k hk hp => way0 (c := (N : Int)) (by omega) HZ.out rfl hk hp)).undrew
            clear he
            obtain ⟨A2, N2, C2, ok2, rfl⟩ := hA.shape
            go_wp2_with fail
            go_ret2
            exact hA
          · have n0 : (x == 0) = false := by rw [beq_eq_false_iff_ne]; exact w0
            by_cases w1 : x = 1
            · subst w1
              go_wp2_with fail
              refine (readd_any N hN _ _ _ r _ hcd (by omega)).mono ?_
              rintro e w2 he
              have hA := (he.all hN (fun k hk hp => way1 (c := (N : Int)) (by omega) HZ.out rfl hk hp)).undrew
              clear he
              obtain ⟨A2, N2, C2, ok2, rfl⟩ := hA.shape
              go_wp2_with fail
              go_ret2
              exact hA
            · have n1 : (x == 1) = false := by rw [beq_eq_false_iff_ne]; exact w1
              have HF := Lib.hid (noI_way (c := (N : Int)) (by omega) HZ.out w0 w1)
              go_wp2_with fail
              go_ret2
              exact .inr ⟨rfl, HF.out, (Below.refl _ _).drew⟩
        · rw [if_neg hcs] at hcut
          have hcs' : t ≤ c := by omega
          refine wp_region_noPanic ?_
          refine region_g 10 (Ext (World.drew _)) (by kernel_rfl) (Ext.refl _) (fun hS => ?_)
          refine take_w (i := 0) (v := ?_) (some 25) rfl (by kernel_rfl) rfl (fun _ _ _ h => h) (Or.inl ⟨by rfl, ?_⟩) hS ?_
          rotate_left
          · (intro wq hq; go_simp); first | done | with_reducible rfl
          try simp only [Act.put, List.setIfInBounds_toArray, List.set_cons_zero, List.set_cons_succ]
          replace hS := Till.list 0 hS
          refine take_w (i := 1) (v := ?_) (some 26) rfl (by kernel_rfl) rfl (fun _ _ _ h => h) (Or.inl ⟨by rfl, ?_⟩) hS ?_
          rotate_left
          · (intro wq hq; go_simp); first | done | with_reducible rfl
          try simp only [Act.put, List.setIfInBounds_toArray, List.set_cons_zero, List.set_cons_succ]
          replace hS := Till.list 1 hS
          refine take_w (i := 4) (v := ?_) (some 29) rfl (by kernel_rfl) rfl (fun _ _ _ h => h) (Or.inl ⟨by rfl, ?_⟩) hS ?_
          rotate_left
          · (intro wq hq; go_simp); first | done | with_reducible rfl
          try simp only [Act.put, List.setIfInBounds_toArray, List.set_cons_zero, List.set_cons_succ]
          replace hS := Till.list 4 hS
          refine take_w (i := 5) (v := ?_) (some 30) rfl (by kernel_rfl) rfl (fun _ _ _ h => h) (Or.inl ⟨by rfl, ?_⟩) hS ?_
          rotate_left
          · (intro wq hq; go_simp); first | done | with_reducible rfl
          try simp only [Act.put, List.setIfInBounds_toArray, List.set_cons_zero, List.set_cons_succ]
          replace hS := Till.list 5 hS
          refine take_w (i := 2) (v := ?_) (some 27) rfl (by kernel_rfl) rfl (fun _ _ _ h => h) (Or.inl ⟨by rfl, ?_⟩) hS ?_
          rotate_left
          · (intro wq hq; go_simp); first | done | with_reducible rfl
          try simp only [Act.put, List.setIfInBounds_toArray, List.set_cons_zero, List.set_cons_succ]
          replace hS := Till.list 2 hS
          refine take_w (i := 6) (v := ?_) (some 31) rfl (by kernel_rfl) rfl (fun _ _ _ h => h) (Or.inl ⟨by rfl, ?_⟩) hS ?_
          rotate_left
          · (intro wq hq; go_simp); first | done | with_reducible rfl
          try simp only [Act.put, List.setIfInBounds_toArray, List.set_cons_zero, List.set_cons_succ]
          replace hS := Till.list 6 hS
          refine take_n (i := 3) (v := ?_) (some 28) rfl (by kernel_rfl) rfl (fun _ _ _ h => h) (Or.inl ⟨by rfl, ?_⟩) hS ?_
          rotate_left
          · (intro wq hq; have q0 := hq _ _ _ hcw; go_simp); first | done | with_reducible rfl
          try simp only [Act.put, List.setIfInBounds_toArray, List.set_cons_zero, List.set_cons_succ]
          replace hS := Till.list 3 hS
          refine take_w (i := 7) (v := ?_) (some 32) rfl (by kernel_rfl) rfl (fun _ _ _ h => h) (Or.inl ⟨by rfl, ?_⟩) hS ?_
          rotate_left
          · (intro wq hq; go_simp); first | done | with_reducible rfl
          try simp only [Act.put, List.setIfInBounds_toArray, List.set_cons_zero, List.set_cons_succ]
          replace hS := Till.list 7 hS
          refine take_w (i := 8) (v := ?_) (some 6) rfl (by kernel_rfl) rfl (fun _ _ _ h => h) (Or.inl ⟨by rfl, ?_⟩) hS ?_
          rotate_left
          · (intro wq hq; go_simp); first | done | with_reducible rfl
          try simp only [Act.put, List.setIfInBounds_toArray, List.set_cons_zero, List.set_cons_succ]
          replace hS := Till.list 8 hS
          refine take_w (i := 9) (v := ?_) (some 7) rfl (by kernel_rfl) rfl (fun _ _ _ h => h) (Or.inl ⟨by rfl, ?_⟩) hS ?_
          rotate_left
          · (intro wq hq; go_simp); first | done | with_reducible rfl
          try simp only [Act.put, List.setIfInBounds_toArray, List.set_cons_zero, List.set_cons_succ]
          replace hS := Till.list 9 hS
          refine done_g (by kernel_rfl) (NoPanic.normal ?_) _
          clear hS
          have hcd := hcut.drew
          clear hcw hcut hv
          by_cases w0 : x = 0
          · subst w0
            go_wp2_with fail
            refine (readf_any N hN _ _ _ r _ hcd (by omega)).mono ?_
            rintro e w2 he
            have hA := (he.all hN (fun k hk hp => way0 (c := (N : Int)) (by omega) HZ.out rfl hk hp)).undrew
            clear he
            obtain ⟨A2, N2, C2, ok2, rfl⟩ := hA.shape
            go_wp2_with fail
            go_ret2
            exact hA
          · have n0 : (x == 0) = false := by rw [beq_eq_false_iff_ne]; exact w0
            by_cases w1 : x = 1
            · subst w1
              go_wp2_with fail
              refine (readd_any N hN _ _ _ r _ hcd (by omega)).mono ?_
              rintro e w2 he
              have hA := (he.all hN (fun k hk hp => way1 (c := (N : Int)) (by omega) HZ.out rfl hk hp)).undrew
              clear he
              obtain ⟨A2, N2, C2, ok2, rfl⟩ := hA.shape
              go_wp2_with fail
              go_ret2
              exact hA
            · have n1 : (x == 1) = false := by rw [beq_eq_false_iff_ne]; exact w1
              have HF := Lib.hid (noI_way (c := (N : Int)) (by omega) HZ.out w0 w1)
              go_wp2_with fail
              go_ret2
              exact .inr ⟨rfl, HF.out, (Below.refl _ _).drew⟩
/-- what Take tells -/
def TakeI (w w' : World) (zs : List Int) (e : Ending) : Prop :=
  (∃ (A : Option Addr) (N C : Nat) (l : List Int), e = .returned (.tuple #[.slice A N C, .int .i64 0]) ∧ N ≤ C ∧ N ≤ 2000 ∧ I64s l ∧ IV w' A N l ∧ putI l = zs ∧ Below w.heap.size w w') ∨
  (e = .returned (.tuple #[.slice none 0 0, .int .i64 10]) ∧ NoI zs ∧ Below w.heap.size w w')
set_option maxHeartbeats 2000000 in
theorem takeI_any (a : Option Addr) (n c : Nat) (zs : List Int) (w : World) (hv : BV w a n zs) (hc : n ≤ c) (hn : n ≤ 1000000) :
    Calls Try.prog 11 #[.slice a n c] w fun e w' => TakeI w w' zs e := by
  go_enter Try.func11, Try.ntmps11
  go_wp2_with fail
  refine (read_any a n c zs _ hv hc hn).mono ?_
  rintro e w1 he
  rcases he with ⟨A, N, C, l, rfl, hC, hN, hi, hl, hu, hb1⟩ | ⟨rfl, hno, hb1⟩
  · have HU := Lib.hid hu
    clear hu
    replace hv := hv.below hb1
    go_wp2_with fail
    refine (putI_any A N C l _ hl hi (by omega)).mono ?_
    rintro e w2 ⟨vp, rfl, op, hb2⟩
    obtain ⟨ap, cp, rfl, -, -, bp, -⟩ := op.bvn (putI_bytes l) _ rfl
    replace hv := hv.below hb2
    replace hl := hl.below hb2
    replace hb1 := Below.then hb1 hb2
    clear op hb2
    go_wp2_with fail
    refine (equal_any ap a _ n cp c (putI l) zs _ bp hv).mono ?_
    rintro e w' ⟨rfl, rfl⟩
    clear bp hv
    by_cases hp : putI l = zs
    · rw [decide_eq_true hp]
      have HP := Lib.hid hp
      clear hp
      go_wp2_with fail
      go_ret2
      exact .inl ⟨A, N, C, l, rfl, hC, hN, hi, hl, HP.out, hb1⟩
    · rw [decide_eq_false hp]
      have HF : Hid (NoI zs) := Lib.hid (fun k hk hkn h => hp (by rw [← HU.out k hk hkn h]; exact h))
      clear hp
      go_wp2_with fail
      go_ret2
      exact .inr ⟨rfl, HF.out, hb1⟩
  · have HF := Lib.hid hno
    clear hno
    go_wp2_with fail
    go_ret2
    exact .inr ⟨rfl, HF.out, hb1⟩
end Go.Proofs.Ytiedejeimhjngaa
