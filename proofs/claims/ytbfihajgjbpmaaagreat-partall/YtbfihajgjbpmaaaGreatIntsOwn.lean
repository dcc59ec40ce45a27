/- Texts that belong together, one behind the other: I5x, I5y. -/
import Derived.Test.YtbfihajgjbpmaaaGreatInts
import Derived.Test.YtbfihajgjbpmaaaGreatOwn
/- The document's own answers for layer 5: Fixed, Delta, Put. -/
namespace Go.Proofs.YtbfihajgjbpmaaaGreat
open Go.ChangeShapes Go.WideShapes Go.ChangeAt Go.RowKit
set_option linter.unusedVariables false
set_option maxRecDepth 4000

theorem rzig_any (a : Int) (w : World) (h : -9223372036854775808 ≤ a ∧ a ≤ 9223372036854775807) :
    Calls Tryz.prog 108 #[.int .i64 a] w fun e w' => e = .returned (.int .u64 (zigF a)) ∧ w' = w := by
  unfold zigF
  by_cases h0 : a < 0
  · rw [if_pos h0]; exact rzig_neg a w h.1 h0
  · rw [if_neg h0]; exact rzig_pos a w (by omega) h.2
theorem rzag_any (a : Int) (w : World) (h : 0 ≤ a ∧ a ≤ 18446744073709551615) :
    Calls Tryz.prog 127 #[.int .u64 a] w fun e w' => e = .returned (.int .i64 (zagF a)) ∧ w' = w := by
  unfold zagF
  by_cases h0 : a % 2 = 1
  · rw [if_pos h0]; exact rzag_odd a w h.1 h.2 h0
  · rw [if_neg h0]; exact rzag_even a w h.1 h.2 (by omega)
set_option maxHeartbeats 1000000 in
theorem rfixed_any (A : Option Addr) (N C : Nat) (l : List Int) (w : World) (hv : IV w A N l) (hr : I64s l) (hN : N ≤ 100000) :
    Calls Tryz.prog 94 #[.slice A N C] w fun e w' => ∃ v, e = .returned v ∧ OW w' w.heap.size v (fixedL l) ∧ Below w.heap.size w w' := by
  have hl := Lib.hid (IV.len hv)
  go_enter Tryz.func94, Tryz.ntmps94
  go_wp2_with fail
  go_loopw [3, 4] (fun v i wr => ∃ (j : Nat) (bs : List Int), j ≤ N ∧ i = .int .i64 (j : Int) ∧ Hid (bs = fixedL (l.take j)) ∧ bs.length ≤ 8 * j ∧ OW wr w.heap.size v bs ∧ Below w.heap.size w wr) (fun _ i _ => N - (intOf i).toNat)
  case atStart => exact ⟨0, [], by omega, rfl, Lib.hid rfl, by simp, OW.empty w w.heap.size (Nat.le_refl _) _ rfl, Joins.below_alloc1 _ _⟩
  case round =>
    obtain ⟨j, bs, hj, rfl, HB, hbl, ho, hbel⟩ := hrel
    by_cases hlt : j < N
    · obtain ⟨b, off, rfl, hcl⟩ := IV.at hv j hlt
      have hcl' := keepc hcl hbel
      have hx := i64_at hr (j := j) (by rw [hl.out]; exact hlt)
      have HS := Lib.hid (take_snocI l j (by rw [hl.out]; exact hlt))
      generalize l.getD j 0 = x at hcl' hx HS
      clear hcl
      have hji : (j : Int) < (N : Int) := by omega
      have hun := un_bd x
      have hwu := wrap_un x
      have hsz := hbel.size
      obtain ⟨u, hu⟩ : ∃ u, un x = u := ⟨_, rfl⟩
      rw [hu] at hun hwu
      have HV := Lib.hid hu
      clear hu
      go_wp2_with fail
      refine (rput64_any u _ hun.1 hun.2).mono ?_
      rintro e w1 ⟨v1, rfl, ob, hb1⟩
      obtain ⟨a1, c1, rfl, -, bv1, -⟩ := ob.bvn (w8_bytes u) 8 (w8_len u)
      have ho1 := ho.below hb1
      have hw1 := hbel.trans (hb1.mono hsz)
      have hs1 := hw1.size
      clear ho hbel hb1 ob
      go_wp2_with (at_builtin; refine append_ow rfl (.tmp 12) (.tmp 18) rfl w.heap.size _ bs rfl ho1 _ 8 _ _ rfl bv1 (by omega) hs1 ?_; intro v2 w2 ho2 hb2)
      go_roundw
      case rel => exact ⟨j + 1, _, by omega, by go_num, Lib.hid (by rw [HS.out, fixedL_app, ← HB.out, fixedL, HV.out, fixedL, List.append_nil]), by rw [List.length_append, w8_len]; omega, ho2, hw1.trans hb2⟩
      case measure => simp [intOf]; omega
    · obtain rfl : j = N := by omega
      have HB' : Hid (bs = fixedL l) := Lib.hid (by rw [HB.out, ← hl.out, List.take_length])
      go_wp2_with fail
      go_ret
      exact ⟨_, rfl, by rw [← HB'.out]; exact ho, hbel⟩
set_option maxHeartbeats 1000000 in
theorem rdelta_any (A : Option Addr) (N C : Nat) (l : List Int) (w : World) (hv : IV w A N l) (hr : I64s l) (hN : N ≤ 100000) :
    Calls Tryz.prog 93 #[.slice A N C] w fun e w' => ∃ v, e = .returned v ∧ OW w' w.heap.size v (deltaL 0 l) ∧ Below w.heap.size w w' := by
  have hl := Lib.hid (IV.len hv)
  go_enter Tryz.func93, Tryz.ntmps93
  go_wp2_with fail
  go_loopw [3, 4, 5] (fun v p i wr => ∃ (j : Nat) (bs : List Int) (was : Int), j ≤ N ∧ i = .int .i64 (j : Int) ∧ p = .int .i64 was ∧ Hid (was = (l.take j).getLastD 0) ∧ Hid (bs = deltaL 0 (l.take j)) ∧ bs.length ≤ 10 * j ∧ OW wr w.heap.size v bs ∧ Below w.heap.size w wr) (fun _ _ i _ => N - (intOf i).toNat)
  case atStart => exact ⟨0, [], 0, by omega, rfl, rfl, Lib.hid rfl, Lib.hid rfl, by simp, OW.empty w w.heap.size (Nat.le_refl _) _ rfl, Joins.below_alloc1 _ _⟩
  case round =>
    obtain ⟨j, bs, was, hj, rfl, rfl, HW, HB, hbl, ho, hbel⟩ := hrel
    by_cases hlt : j < N
    · obtain ⟨b, off, rfl, hcl⟩ := IV.at hv j hlt
      have hcl' := keepc hcl hbel
      have hx := i64_at hr (j := j) (by rw [hl.out]; exact hlt)
      have HS := Lib.hid (take_snocI l j (by rw [hl.out]; exact hlt))
      generalize l.getD j 0 = x at hcl hcl' hx HS
      have hji : (j : Int) < (N : Int) := by omega
      have hwr := wrap_rd (x - was)
      have hd := rd_bd (x - was)
      obtain ⟨d, hd1⟩ : ∃ d, rd (x - was) = d := ⟨_, rfl⟩
      rw [hd1] at hwr hd
      have HD := Lib.hid hd1
      clear hd1
      have hz := zig_bd hd
      obtain ⟨u, hu⟩ : ∃ u, zigF d = u := ⟨_, rfl⟩
      have HV := Lib.hid hu
      rw [hu] at hz
      have hlp := pv_len10 (x := u) (by omega)
      have hsz := hbel.size
      clear hu
      go_wp2_with fail
      refine (rzig_any d _ hd).mono ?_
      rw [HV.out]
      rintro e w1 ⟨rfl, rfl⟩
      go_wp2_with fail
      refine (rputvar_any u _ hz.1 hz.2).mono ?_
      rintro e w2 ⟨v1, rfl, ob, hb1⟩
      obtain ⟨a1, c1, rfl, -, bv1, -⟩ := ob.bvn (pv_bytes hz.1) _ rfl
      have ho1 := ho.below hb1
      have hw1 := hbel.trans (hb1.mono hsz)
      have hs1 := hw1.size
      clear ho hbel hb1 ob hcl'
      go_wp2_with (at_builtin; refine append_ow rfl (.tmp 13) (.tmp 21) rfl w.heap.size _ bs rfl ho1 _ _ _ _ rfl bv1 (by omega) hs1 ?_; intro v2 w3 ho2 hb2; have hw3 := hw1.trans hb2; have hcl3 := keepc hcl hw3)
      go_roundw
      case rel => exact ⟨j + 1, _, x, by omega, by go_num, rfl, Lib.hid (by rw [HS.out, getLast_snoc]), Lib.hid (by rw [HS.out, deltaL_snoc, ← HB.out, ← HW.out, HD.out, HV.out]), by rw [List.length_append]; omega, ho2, hw3⟩
      case measure => simp [intOf]; omega
    · obtain rfl : j = N := by omega
      have HB' : Hid (bs = deltaL 0 l) := Lib.hid (by rw [HB.out, ← hl.out, List.take_length])
      go_wp2_with fail
      go_ret
      exact ⟨_, rfl, by rw [← HB'.out]; exact ho, hbel⟩
set_option maxHeartbeats 1000000 in
theorem rputI_any (A : Option Addr) (N C : Nat) (l : List Int) (w : World) (hv : IV w A N l) (hr : I64s l) (hN : N ≤ 100000) :
    Calls Tryz.prog 66 #[.slice A N C] w fun e w' => ∃ v, e = .returned v ∧ OW w' w.heap.size v (putI l) ∧ Below w.heap.size w w' := by
  have hl := IV.len hv
  have HL := Lib.hid hl
  have hwu : IntKind.u64.wrap (N : Int) = (N : Int) := u64_same (by omega) (by omega)
  have hlp := pv_len10 (x := (N : Int)) (by omega)
  have hld := deltaL_len10 0 l
  rw [hl] at hld
  obtain ⟨D, hD⟩ : ∃ D, (deltaL 0 l).length = D := ⟨_, rfl⟩
  have HD := Lib.hid hD
  have HB : Hid (shortB l = decide (D < 8 * N)) := Lib.hid (by rw [shortB, hD, HL.out])
  rw [hD] at hld
  clear hl hD
  go_enter Tryz.func66, Tryz.ntmps66
  go_wp2_with fail
  refine (rputvar_any (N : Int) _ (by omega) (by omega)).mono ?_
  rintro e w1 ⟨v0, rfl, ob0, hb0⟩
  have hk0 : ∀ k, v0.ownBlock = some k → k < w1.heap.size := fun k hk => (World.ownsRow.lt ob0 k hk).2
  have ho0 := ob0.ow
  have hv0 := hv.below hb0
  clear ob0
  go_wp2_with fail
  refine (rdelta_any A N C l _ hv0 hr hN).mono ?_
  rintro e w2 ⟨vd, rfl, od1, hb2⟩
  obtain ⟨ad, cd, rfl, hcd, -, bd, ld⟩ := od1.bvn (deltaL_bytes 0 l) D HD.out
  have hs2 := hb2.size
  replace ho0 := ho0.below hb2
  replace hv0 := hv0.below hb2
  replace hb0 := Below.then hb0 hb2
  clear od1 hb2
  by_cases hlt : D < 8 * N
  · have hlti : (D : Int) < 8 * (N : Int) := by omega
    have b1 := BV.one1 w2 1 (by omega) (by omega)
    replace ho0 := ho0.alloc (.cells #[.int .u8 1] 5)
    replace bd := bd.alloc (.cells #[.int .u8 1] 5)
    replace hb0 := hb0.alloc hb0.size (.cells #[.int .u8 1] 5)
    have hs3 := hb0.size
    go_wp2_with (at_builtin; first | (refine append_ow2 rfl (.tmp 17) (.tmp 18) rfl w.heap.size _ _ rfl ho0 _ 1 1 _ rfl b1 (by omega) hs3 ?_; intro v3 w3 ho3 hb3 _ hk3; have bd3 := bd.other (fun x hx hlt => hk3 x.block hlt (fun h => by have := hk0 _ h; have := ld x hx; omega)); clear hk3) | (refine append_ow rfl (.tmp 19) (.tmp 20) rfl w.heap.size _ _ rfl ho3 _ _ _ _ rfl bd3 (by rw [List.length_append, List.length_singleton]; omega) (Nat.le_trans hs3 (hb3.size)) ?_; intro v4 w4 ho4 hb4))
    go_ret
    refine ⟨_, rfl, ?_, (hb0.trans hb3).trans hb4⟩
    rw [putI, bodyI, HB.out, if_pos (decide_eq_true hlt), HL.out]
    rw [List.append_assoc] at ho4
    exact ho4
  · have hlti : ¬ (D : Int) < 8 * (N : Int) := by omega
    have b1 := BV.one1 w2 0 (by omega) (by omega)
    replace ho0 := ho0.alloc (.cells #[.int .u8 0] 5)
    replace hv0 := hv0.alloc (.cells #[.int .u8 0] 5)
    replace hb0 := hb0.alloc hb0.size (.cells #[.int .u8 0] 5)
    have hs3 := hb0.size
    go_wp2_with (at_builtin; (refine append_ow rfl (.tmp 22) (.tmp 23) rfl w.heap.size _ _ rfl ho0 _ 1 1 _ rfl b1 (by omega) hs3 ?_; intro v3 w3 ho3 hb3))
    replace hb0 := hb0.trans hb3
    have hv3 := hv.below hb0
    refine (rfixed_any A N C l _ hv3 hr hN).mono ?_
    rintro e w4 ⟨vf, rfl, of4, hb4⟩
    obtain ⟨af, cf, rfl, -, -, bf, -⟩ := of4.bvn (fixedL_bytes l) _ rfl
    have hlf := fixedL_len l
    rw [HL.out] at hlf
    have HF := Lib.hid hlf
    replace ho3 := ho3.below hb4
    replace hb0 := Below.then hb0 hb4
    have hs4 := hb0.size
    clear hlf hb3 hb4 hv3 of4 ho0 b1 hs3 hv0
    go_wp2_with (at_builtin; (refine append_ow rfl (.tmp 24) (.tmp 26) rfl w.heap.size _ _ rfl ho3 _ _ _ _ rfl bf (by rw [List.length_append, List.length_singleton, HF.out]; omega) hs4 ?_; intro v5 w5 ho5 hb5))
    go_ret
    refine ⟨_, rfl, ?_, hb0.trans hb5⟩
    rw [putI, bodyI, HB.out, if_neg (by simpa using hlt), HL.out]
    rw [List.append_assoc] at ho5
    exact ho5
end Go.Proofs.YtbfihajgjbpmaaaGreat
/- The document's own answers for layer 5: Take. -/
namespace Go.Proofs.YtbfihajgjbpmaaaGreat
open Go.ChangeShapes Go.WideShapes Go.ChangeAt Go.RowKit
set_option linter.unusedVariables false
set_option maxRecDepth 4000

theorem rget64_some (a : Option Addr) (n cap : Nat) (zs : List Int) (w : World) (hv : BV w a n zs) :
    Calls Tryz.prog 75 #[.slice a n cap] w fun e w' => ∃ g ok, e = .returned (.tuple #[.int .u64 g, .bool ok]) ∧ w' = w := by
  by_cases h : n < 8
  · exact (rget64_few a n cap w h).mono (fun e w' ⟨h1, h2⟩ => ⟨_, _, h1, h2⟩)
  · exact (rget64_many a n cap zs w hv (by omega)).mono (fun e w' ⟨h1, h2⟩ => ⟨_, _, h1, h2⟩)
/-- what is told of numbers that were read -/
theorem TakeI.done {w w' : World} {A : Option Addr} {N C : Nat} {l zs : List Int} (hC : N ≤ C) (hN : N ≤ 2000) (hi : I64s l) (hl : IV w' A N l) (hp : putI l = zs) (hb : Below w.heap.size w w') : TakeI w w' zs (.returned (.tuple #[.slice A N C, .int .i64 0])) :=
  .inl ⟨A, N, C, l, rfl, hC, hN, hi, hl, hp, hb⟩
theorem TakeI.none {w w' : World} {zs : List Int} (hno : NoI zs) (hb : Below w.heap.size w w') : TakeI w w' zs (.returned (.tuple #[.slice none 0 0, .int .i64 10])) := .inr ⟨rfl, hno, hb⟩
theorem noI_un {N : Nat} {zs l : List Int} {G : List Int → Prop} (hG : ∀ k, k.length ≤ 2000 → putI k = zs → k.length = N ∧ G k) (hu : ∀ k, I64s k → k.length = N → G k → k = l) (hp : putI l ≠ zs) : NoI zs := by
  intro k hk hkn h
  obtain ⟨h1, h2⟩ := hG k hkn h
  exact hp (by rw [← hu k hk h1 h2]; exact h)
theorem noI_few {N : Nat} {zs : List Int} {G : List Int → Prop} (hG : ∀ k, k.length ≤ 2000 → putI k = zs → k.length = N ∧ G k) (hu : ∀ k, I64s k → k.length = N → ¬ G k) : NoI zs := by
  intro k hk hkn h
  obtain ⟨h1, h2⟩ := hG k hkn h
  exact hu k hk h1 h2
set_option maxHeartbeats 4000000 in
theorem rtakeI_any (a : Option Addr) (n c : Nat) (zs : List Int) (w : World) (hv : BV w a n zs) (hc : n ≤ c) (hn : n ≤ 1000000) :
    Calls Tryz.prog 112 #[.slice a n c] w fun e w' => TakeI w w' zs e := by
  have hlz := hv.1
  by_cases hs0 : (varR zs).2 = 0
  · have hno := Lib.hid (varR_none hs0)
    have HF := Lib.hid (noI_none hs0)
    clear hs0 hlz
    go_enter Tryz.func112, Tryz.ntmps112
    go_wp2_with fail
    refine (rvar_any a n c zs _ hv hc).mono ?_
    rw [hno.out]
    rintro e w1 ⟨rfl, hb1⟩
    clear hno
    go_wp2_with fail
    go_ret2
    exact TakeI.none HF.out hb1
  · obtain ⟨y, rest, hrr, hy0, hy1, hvar⟩ := varR_back zs hv.2.1 hs0
    have hpos := pv_pos y
    have hl10 := pv_len10 (x := y) (by omega)
    obtain ⟨s, hs⟩ : ∃ s, (pv y).length = s := ⟨_, rfl⟩
    rw [hs] at hvar hpos hl10
    have hsn : n = s + rest.length := by
      have := congrArg List.length hrr
      rw [List.length_append, hlz, hs] at this; exact this
    have HV := Lib.hid hvar
    clear hs0 hlz hvar
    have hs1 : ((s : Int) == 0) = false := by rw [beq_eq_false_iff_ne]; omega
    by_cases hmany : 2000 < y
    · have HF := Lib.hid (noI_many ⟨hy0, hy1⟩ hrr hmany)
      clear hrr hsn hs
      go_enter Tryz.func112, Tryz.ntmps112
      go_wp2_with fail
      refine (rvar_any a n c zs _ hv hc).mono ?_
      rw [HV.out]
      rintro e w1 ⟨rfl, hb1⟩
      go_wp2_with fail
      go_ret2
      exact TakeI.none HF.out hb1
    · cases rest with
      | nil =>
        rw [List.append_nil] at hrr
        have HF := Lib.hid (noI_empty ⟨hy0, hy1⟩ hrr)
        obtain rfl : n = s := hsn
        clear hrr hs
        go_enter Tryz.func112, Tryz.ntmps112
        go_wp2_with fail
        refine (rvar_any a n c zs _ hv hc).mono ?_
        rw [HV.out]
        rintro e w1 ⟨rfl, hb1⟩
        go_wp2_with fail
        go_ret2
        exact TakeI.none HF.out hb1
      | cons x rr =>
        obtain ⟨N, rfl⟩ : ∃ N : Nat, y = (N : Int) := ⟨y.toNat, by omega⟩
        have hN : N ≤ 2000 := by omega
        have hNi : IntKind.i64.wrap (N : Int) = (N : Int) := by rw [IntKind.wrap_i64]; omega
        have HZZ := Lib.hid hrr
        rw [List.length_cons] at hsn
        obtain ⟨b, off, rfl, hcell⟩ := hv.opened (by omega)
        have hcw := hcell s (by omega)
        rw [show zs.getD s 0 = x by rw [hrr]; simp [List.getD, hs]] at hcw
        have HRR : Hid (zs.drop (s + 1) = rr) := Lib.hid (by rw [hrr, List.drop_append, hs]; simp [List.drop_eq_nil_of_le, hs])
        have hxb : 0 ≤ x ∧ x ≤ 255 := hv.2.1 x (by rw [hrr]; simp)
        have i1 : ¬ n ≤ s := by omega
        have i2 : (s : Int) < (n : Int) := by omega
        obtain ⟨t, ht⟩ : ∃ t, s + 1 = t := ⟨_, rfl⟩
        rw [ht] at HRR
        have hwt : IntKind.i64.wrap ((s : Int) + 1) = (t : Int) := by rw [IntKind.wrap_i64]; omega
        have i4 : t ≤ n := by omega
        clear hrr hs hcell hsn ht
        go_enter Tryz.func112, Tryz.ntmps112
        go_wp2_with fail
        refine (rvar_any _ n c zs _ hv hc).mono ?_
        rw [HV.out]
        rintro e w1 ⟨rfl, hb1⟩
        replace hcw := keepc hcw hb1
        go_wp2_with fail
        have o0 : OS 1 (w1.alloc (.cells #[] 2)) w.heap.size (.slice (some ⟨w1.heap.size, 0, none⟩) 0 0) 0 (icells []) := OS.lit (k := 1) w1 w.heap.size hb1.size [] 0 2 rfl (by simp) (by simp) _ rfl
        have hw1 := hb1.alloc hb1.size (.cells #[] 2)
        clear hcw hb1 i1 i2
        by_cases h1 : x = 1
        · subst h1
          have HG : Hid (∀ k : List Int, k.length ≤ 2000 → putI k = zs → k.length = N ∧ deltaL 0 k = rr) := Lib.hid (fun k hk hp => way1 (c := (N : Int)) (by omega) HZZ.out rfl hk hp)
          go_loopw [5, 7, 8, 9] (fun at' v q i wr => ∃ (j t : Nat) (was : Int) (p r : List Int), j ≤ N ∧ i = .int .i64 (j : Int) ∧ at' = .int .i64 (t : Int) ∧ q = .int .i64 was ∧ t ≤ n ∧ Hid (zs.drop t = r) ∧ Hid (was = p.getLastD 0) ∧ Hid (p.length = j) ∧ I64s p ∧ Hid (rr = deltaL 0 p ++ r) ∧ OS 1 wr w.heap.size v j (icells p) ∧ Below w.heap.size w wr) (fun _ _ _ i _ => N - (intOf i).toNat)
          case atStart => exact ⟨0, t, 0, [], rr, by omega, rfl, rfl, rfl, i4, HRR, Lib.hid rfl, Lib.hid rfl, (fun x hx => by cases hx), Lib.hid rfl, o0, hw1⟩
          case round =>
            clear o0 hw1 HRR hwt i4
            obtain ⟨j, t, was, p, r, hj, rfl, rfl, rfl, i4, HRR, HW, HP, hi, HZ, ho, hbel⟩ := hrel
            have hsz := hbel.size
            by_cases hlt : j < N
            · have hji : (j : Int) < (N : Int) := by omega
              have hti : (t : Int) ≤ (n : Int) := by omega
              obtain ⟨a', hsl, hcut⟩ := hv.slice_lo t c i4 hc
              rw [HRR.out] at hcut
              have hby : Byts r := hcut.2.1
              have hlr := Lib.hid hcut.1
              have hcr := hcut.below hbel
              go_wp2_with fail
              refine (rget64_some _ (n - t) (c - t) r _ hcr).mono ?_
              rintro e w' ⟨g, ok, rfl, rfl⟩
              by_cases hs0 : (varR r).2 = 0
              · have hno := Lib.hid (varR_none hs0)
                have HF := Lib.hid (noI_few HG.out (delta_few HZ.out (by rw [HP.out]; exact hlt) hs0))
                clear hs0
                go_wp2_with fail
                refine (rvar_any _ (n - t) (c - t) r _ hcr (by omega)).mono ?_
                rw [hno.out]
                rintro e w2 ⟨rfl, hb2⟩
                clear hno
                go_wp2_with fail
                refine (rzag_any 0 _ (by omega)).mono ?_
                rw [show zagF 0 = 0 from rfl]
                rintro e w'' ⟨rfl, rfl⟩
                go_wp2_with fail
                go_ret2
                exact TakeI.none HF.out (hbel.trans (hb2.mono hsz))
              · obtain ⟨u, r', hrr, hu0, hu1, hvar⟩ := varR_back r hby hs0
                have hu : 0 ≤ u ∧ u ≤ 18446744073709551615 := ⟨hu0, hu1⟩
                have hpos' := pv_pos u
                obtain ⟨m, hm⟩ : ∃ m, (pv u).length = m := ⟨_, rfl⟩
                rw [hm] at hvar hpos'
                have hm10 := pv_len10 (x := u) (by omega)
                rw [hm] at hm10
                have hmn : m ≤ n - t := by
                  have := congrArg List.length hrr
                  rw [List.length_append, hlr.out, hm] at this; omega
                have HR2 : Hid (zs.drop (t + m) = r') := Lib.hid (by rw [← List.drop_drop, HRR.out, hrr, ← hm]; exact List.drop_left' rfl)
                have HR3 := Lib.hid hrr
                have HV2 := Lib.hid hvar
                clear hs0 hrr hvar hm hlr hcut
                go_wp2_with fail
                refine (rvar_any _ (n - t) (c - t) r _ hcr (by omega)).mono ?_
                rw [HV2.out]
                rintro e w2 ⟨rfl, hb2⟩
                go_wp2_with fail
                refine (rzag_any u _ hu).mono ?_
                rintro e w'' ⟨rfl, rfl⟩
                have hwr := wrap_rd (was + zagF u)
                have hzb := rd_bd (was + zagF u)
                obtain ⟨z, hz⟩ : ∃ z, rd (was + zagF u) = z := ⟨_, rfl⟩
                rw [hz] at hwr hzb
                have HRZ := Lib.hid hz
                have hwu := wrap_un z
                have hwz : IntKind.i64.wrap (un z) = z := by rw [IntKind.wrap_i64]; unfold un; omega
                obtain ⟨v1, hv1⟩ : ∃ v1, un z = v1 := ⟨_, rfl⟩
                rw [hv1] at hwu hwz
                have hmp : 0 < m := hpos'
                clear hpos'
                clear hz hv1 hcr
                replace ho := ho.below hb2
                replace hbel := hbel.trans (hb2.mono hsz)
                have hs2 := hbel.size
                clear hb2
                go_wp2_with (at_builtin; (refine append_os el_i64s rfl (.tmp 72) (.tmp 75) rfl w.heap.size _ j (icells p) rfl (ho.alloc _) _ 1 1 (icells [z]) rfl (SV.lit' (k := 1) _ (icells [z]) 1 2 rfl (icells_one _) _ rfl) (by omega) (by omega) (by rw [heap_alloc]; omega) ?_; intro v2 w3 ho2 hb3; rw [← icells_app] at ho2))
                go_roundw
                case rel => exact ⟨j + 1, t + m, z, p ++ [z], r', by omega, by go_num, by go_num, rfl, by omega, HR2, Lib.hid (by rw [getLast_snoc]), Lib.hid (by rw [List.length_append, HP.out, List.length_singleton]), (by rw [← HRZ.out]; exact i64_snoc hi _), Lib.hid (by rw [HZ.out, ← HRZ.out]; exact delta_step hu HW.out HR3.out), ho2, (hbel.alloc hs2 _).trans hb3⟩
                case measure => simp [intOf]; omega
            · obtain rfl : j = N := by omega
              obtain ⟨Ao, Co, rfl, hCo, -, vo, -, -⟩ := ho.sv
              have hvr := hv.below hbel
              by_cases hp : putI p = zs
              · have HP := Lib.hid hp
                rw [← hp] at hvr
                clear hp
                have hst := str_beq (putI_bytes p) (putI_bytes p)
                go_wp2_with fail
                refine wp_region_noPanic ?_
                refine region_g 6 (Ext (World.drew _)) (by kernel_rfl) (Ext.refl _) (fun hS => ?_)
                refine take_w (i := 0) (v := ?_) (some 80) rfl (by kernel_rfl) rfl (fun _ _ _ h => h) (Or.inl ⟨by rfl, ?_⟩) hS ?_
                rotate_left
                · (intro wq hq; go_simp); first | done | with_reducible rfl
                try simp only [Act.put, List.setIfInBounds_toArray, List.set_cons_zero, List.set_cons_succ]
                replace hS := Till.list 0 hS
                refine take_w (i := 3) (v := ?_) (some 83) rfl (by kernel_rfl) rfl (fun _ _ _ h => h) (Or.inl ⟨by rfl, ?_⟩) hS ?_
                rotate_left
                · (intro wq hq; go_simp); first | done | with_reducible rfl
                try simp only [Act.put, List.setIfInBounds_toArray, List.set_cons_zero, List.set_cons_succ]
                replace hS := Till.list 3 hS
                refine take_n (i := 4) (v := .string (strOfNums (putI p))) (some 84) rfl (by kernel_rfl) rfl (fun _ _ _ h => h) (Or.inl ⟨by rfl, ?_⟩) hS ?_
                · (intro wq hq; (have hcv := conv_any (hvr.ext hq) c; go_simp))
                try simp only [Act.put, List.setIfInBounds_toArray, List.set_cons_zero, List.set_cons_succ]
                replace hS := Till.list 4 hS
                refine ready_g (rs := [1]) (by kernel_rfl) (by simp) ?_
                refine AllReadyG.cons rfl (fun Kont hK => ?_) AllReadyG.nil
                go_simp
                refine (rputI_any Ao j Co p _ vo.drew hi (by omega)).mono ?_
                rintro e w3 ⟨vp, rfl, op, hb3⟩
                obtain ⟨ap, cp, rfl, -, -, bp, -⟩ := op.bvn (putI_bytes p) _ rfl
                have hb4 := Below.then hbel.drew hb3
                have vo4 := vo.drew.below hb3
                refine hK.out _ _ (Or.inr ((hS.get (by kernel_rfl)).trans (Ext.below hb3))) (fun hS0 => ?_)
                clear hK Kont
                try simp only [Act.put, List.setIfInBounds_toArray, List.set_cons_zero, List.set_cons_succ]
                clear hS
                refine now_t (by kernel_rfl) hS0 (fun hS => ?_)
                clear hS0
                refine take_n (i := 2) (v := .string (strOfNums (putI p))) (some 82) rfl (by kernel_rfl) rfl (fun _ _ _ h => h) (Or.inl ⟨by rfl, ?_⟩) hS ?_
                · (intro wq hq; (have hcv := conv_any (bp.ext hq) cp; go_simp))
                try simp only [Act.put, List.setIfInBounds_toArray, List.set_cons_zero, List.set_cons_succ]
                replace hS := Till.list 2 hS
                refine take_w (i := 5) (v := ?_) (some 85) rfl (by kernel_rfl) rfl (fun _ _ _ h => h) (Or.inl ⟨by rfl, ?_⟩) hS ?_
                rotate_left
                · (intro wq hq; go_simp); first | done | with_reducible rfl
                try simp only [Act.put, List.setIfInBounds_toArray, List.set_cons_zero, List.set_cons_succ]
                replace hS := Till.list 5 hS
                refine done_g (by kernel_rfl) (NoPanic.normal ?_) _
                clear hS
                go_wp2_with fail
                go_ret2
                exact TakeI.done hCo hN hi vo4 HP.out hb4
              · have HF := Lib.hid (noI_un HG.out (delta_one HZ.out HP.out hi) hp)
                have hst := str_beq (putI_bytes p) hvr.2.1
                rw [decide_eq_false hp] at hst
                clear hp
                go_wp2_with fail
                refine wp_region_noPanic ?_
                refine region_g 6 (Ext (World.drew _)) (by kernel_rfl) (Ext.refl _) (fun hS => ?_)
                refine take_w (i := 0) (v := ?_) (some 80) rfl (by kernel_rfl) rfl (fun _ _ _ h => h) (Or.inl ⟨by rfl, ?_⟩) hS ?_
                rotate_left
                · (intro wq hq; go_simp); first | done | with_reducible rfl
                try simp only [Act.put, List.setIfInBounds_toArray, List.set_cons_zero, List.set_cons_succ]
                replace hS := Till.list 0 hS
                refine take_w (i := 3) (v := ?_) (some 83) rfl (by kernel_rfl) rfl (fun _ _ _ h => h) (Or.inl ⟨by rfl, ?_⟩) hS ?_
                rotate_left
                · (intro wq hq; go_simp); first | done | with_reducible rfl
                try simp only [Act.put, List.setIfInBounds_toArray, List.set_cons_zero, List.set_cons_succ]
                replace hS := Till.list 3 hS
                refine take_n (i := 4) (v := .string (strOfNums zs)) (some 84) rfl (by kernel_rfl) rfl (fun _ _ _ h => h) (Or.inl ⟨by rfl, ?_⟩) hS ?_
                · (intro wq hq; (have hcv := conv_any (hvr.ext hq) c; go_simp))
                try simp only [Act.put, List.setIfInBounds_toArray, List.set_cons_zero, List.set_cons_succ]
                replace hS := Till.list 4 hS
                refine ready_g (rs := [1]) (by kernel_rfl) (by simp) ?_
                refine AllReadyG.cons rfl (fun Kont hK => ?_) AllReadyG.nil
                go_simp
                refine (rputI_any Ao j Co p _ vo.drew hi (by omega)).mono ?_
                rintro e w3 ⟨vp, rfl, op, hb3⟩
                obtain ⟨ap, cp, rfl, -, -, bp, -⟩ := op.bvn (putI_bytes p) _ rfl
                have hb4 := Below.then hbel.drew hb3
                refine hK.out _ _ (Or.inr ((hS.get (by kernel_rfl)).trans (Ext.below hb3))) (fun hS0 => ?_)
                clear hK Kont
                try simp only [Act.put, List.setIfInBounds_toArray, List.set_cons_zero, List.set_cons_succ]
                clear hS
                refine now_t (by kernel_rfl) hS0 (fun hS => ?_)
                clear hS0
                refine take_n (i := 2) (v := .string (strOfNums (putI p))) (some 82) rfl (by kernel_rfl) rfl (fun _ _ _ h => h) (Or.inl ⟨by rfl, ?_⟩) hS ?_
                · (intro wq hq; (have hcv := conv_any (bp.ext hq) cp; go_simp))
                try simp only [Act.put, List.setIfInBounds_toArray, List.set_cons_zero, List.set_cons_succ]
                replace hS := Till.list 2 hS
                refine take_w (i := 5) (v := ?_) (some 85) rfl (by kernel_rfl) rfl (fun _ _ _ h => h) (Or.inl ⟨by rfl, ?_⟩) hS ?_
                rotate_left
                · (intro wq hq; go_simp); first | done | with_reducible rfl
                try simp only [Act.put, List.setIfInBounds_toArray, List.set_cons_zero, List.set_cons_succ]
                replace hS := Till.list 5 hS
                refine done_g (by kernel_rfl) (NoPanic.normal ?_) _
                clear hS
                go_wp2_with fail
                go_ret2
                exact TakeI.none HF.out hb4
        · have h1b : (x == 1) = false := by rw [beq_eq_false_iff_ne]; exact h1
          have HG : Hid (∀ k : List Int, k.length ≤ 2000 → putI k = zs → k.length = N ∧ fixedL k = rr) := Lib.hid (by
            by_cases h0 : x = 0
            · subst h0
              exact fun k hk hp => way0 (c := (N : Int)) (by omega) HZZ.out rfl hk hp
            · exact fun k hk hp => absurd hp (by
                have h2 := fun h => (putI_of (c := (N : Int)) (by omega) HZZ.out hk h).2
                intro h
                have h3 := h2 h
                unfold bodyI at h3
                split at h3
                · rw [List.cons.injEq] at h3; exact h1 h3.1.symm
                · rw [List.cons.injEq] at h3; exact h0 h3.1.symm))
          clear h1
          go_loopw [5, 7, 9] (fun at' v i wr => ∃ (j t : Nat) (p r : List Int), j ≤ N ∧ i = .int .i64 (j : Int) ∧ at' = .int .i64 (t : Int) ∧ t ≤ n ∧ Hid (zs.drop t = r) ∧ Hid (p.length = j) ∧ I64s p ∧ Hid (rr = fixedL p ++ r) ∧ OS 1 wr w.heap.size v j (icells p) ∧ Below w.heap.size w wr) (fun _ _ i _ => N - (intOf i).toNat)
          case atStart => exact ⟨0, t, [], rr, by omega, rfl, rfl, i4, HRR, Lib.hid rfl, (fun x hx => by cases hx), Lib.hid rfl, o0, hw1⟩
          case round =>
            clear o0 hw1 HRR hwt i4
            obtain ⟨j, t, p, r, hj, rfl, rfl, i4, HRR, HP, hi, HZ, ho, hbel⟩ := hrel
            have hsz := hbel.size
            by_cases hlt : j < N
            · have hji : (j : Int) < (N : Int) := by omega
              have hti : (t : Int) ≤ (n : Int) := by omega
              obtain ⟨a', hsl, hcut⟩ := hv.slice_lo t c i4 hc
              rw [HRR.out] at hcut
              have hby : Byts r := hcut.2.1
              have hlr := Lib.hid hcut.1
              have hcr := hcut.below hbel
              by_cases h8 : n - t < 8
              · have HF := Lib.hid (noI_few HG.out (fixed_few HZ.out (by rw [HP.out]; exact hlt) (by rw [hlr.out]; exact h8)))
                go_wp2_with fail
                refine (rget64_few _ (n - t) (c - t) _ h8).mono ?_
                rintro e w' ⟨rfl, rfl⟩
                go_wp2_with fail
                go_ret2
                exact TakeI.none HF.out hbel
              · have hn8 : 8 ≤ r.length := by rw [hlr.out]; omega
                have HR2 : Hid (zs.drop (t + 8) = r.drop 8) := Lib.hid (by rw [← List.drop_drop, HRR.out])
                obtain ⟨y, hy⟩ : ∃ y, acc8 r 8 = y := ⟨_, rfl⟩
                have HY := Lib.hid hy
                have hwr := wrap_rd y
                obtain ⟨z, hz⟩ : ∃ z, rd y = z := ⟨_, rfl⟩
                rw [hz] at hwr
                have HRZ := Lib.hid hz
                clear hz
                go_wp2_with fail
                refine (rget64_many _ (n - t) (c - t) r _ hcr (by omega)).mono ?_
                rw [hy]
                clear hy
                rintro e w' ⟨rfl, rfl⟩
                clear hcr hcut
                go_wp2_with (at_builtin; (refine append_os el_i64s rfl (.tmp 72) (.tmp 75) rfl w.heap.size _ j (icells p) rfl (ho.alloc _) _ 1 1 (icells [z]) rfl (SV.lit' (k := 1) _ (icells [z]) 1 2 rfl (icells_one _) _ rfl) (by omega) (by omega) (by rw [heap_alloc]; omega) ?_; intro v2 w3 ho2 hb3; rw [← icells_app] at ho2))
                go_roundw
                case rel => exact ⟨j + 1, t + 8, p ++ [z], r.drop 8, by omega, by go_num, by go_num, by omega, HR2, Lib.hid (by rw [List.length_append, HP.out, List.length_singleton]), (by rw [← HRZ.out]; exact i64_snoc hi _), Lib.hid (by rw [HZ.out, ← HRZ.out]; exact fixed_step hby hn8 HY.out), ho2, (hbel.alloc hsz _).trans hb3⟩
                case measure => simp [intOf]; omega
            · obtain rfl : j = N := by omega
              obtain ⟨Ao, Co, rfl, hCo, -, vo, -, -⟩ := ho.sv
              have hvr := hv.below hbel
              by_cases hp : putI p = zs
              · have HP := Lib.hid hp
                rw [← hp] at hvr
                clear hp
                have hst := str_beq (putI_bytes p) (putI_bytes p)
                go_wp2_with fail
                refine wp_region_noPanic ?_
                refine region_g 6 (Ext (World.drew _)) (by kernel_rfl) (Ext.refl _) (fun hS => ?_)
                refine take_w (i := 0) (v := ?_) (some 80) rfl (by kernel_rfl) rfl (fun _ _ _ h => h) (Or.inl ⟨by rfl, ?_⟩) hS ?_
                rotate_left
                · (intro wq hq; go_simp); first | done | with_reducible rfl
                try simp only [Act.put, List.setIfInBounds_toArray, List.set_cons_zero, List.set_cons_succ]
                replace hS := Till.list 0 hS
                refine take_w (i := 3) (v := ?_) (some 83) rfl (by kernel_rfl) rfl (fun _ _ _ h => h) (Or.inl ⟨by rfl, ?_⟩) hS ?_
                rotate_left
                · (intro wq hq; go_simp); first | done | with_reducible rfl
                try simp only [Act.put, List.setIfInBounds_toArray, List.set_cons_zero, List.set_cons_succ]
                replace hS := Till.list 3 hS
                refine take_n (i := 4) (v := .string (strOfNums (putI p))) (some 84) rfl (by kernel_rfl) rfl (fun _ _ _ h => h) (Or.inl ⟨by rfl, ?_⟩) hS ?_
                · (intro wq hq; (have hcv := conv_any (hvr.ext hq) c; go_simp))
                try simp only [Act.put, List.setIfInBounds_toArray, List.set_cons_zero, List.set_cons_succ]
                replace hS := Till.list 4 hS
                refine ready_g (rs := [1]) (by kernel_rfl) (by simp) ?_
                refine AllReadyG.cons rfl (fun Kont hK => ?_) AllReadyG.nil
                go_simp
                refine (rputI_any Ao j Co p _ vo.drew hi (by omega)).mono ?_
                rintro e w3 ⟨vp, rfl, op, hb3⟩
                obtain ⟨ap, cp, rfl, -, -, bp, -⟩ := op.bvn (putI_bytes p) _ rfl
                have hb4 := Below.then hbel.drew hb3
                have vo4 := vo.drew.below hb3
                refine hK.out _ _ (Or.inr ((hS.get (by kernel_rfl)).trans (Ext.below hb3))) (fun hS0 => ?_)
                clear hK Kont
                try simp only [Act.put, List.setIfInBounds_toArray, List.set_cons_zero, List.set_cons_succ]
                clear hS
                refine now_t (by kernel_rfl) hS0 (fun hS => ?_)
                clear hS0
                refine take_n (i := 2) (v := .string (strOfNums (putI p))) (some 82) rfl (by kernel_rfl) rfl (fun _ _ _ h => h) (Or.inl ⟨by rfl, ?_⟩) hS ?_
                · (intro wq hq; (have hcv := conv_any (bp.ext hq) cp; go_simp))
                try simp only [Act.put, List.setIfInBounds_toArray, List.set_cons_zero, List.set_cons_succ]
                replace hS := Till.list 2 hS
                refine take_w (i := 5) (v := ?_) (some 85) rfl (by kernel_rfl) rfl (fun _ _ _ h => h) (Or.inl ⟨by rfl, ?_⟩) hS ?_
                rotate_left
                · (intro wq hq; go_simp); first | done | with_reducible rfl
                try simp only [Act.put, List.setIfInBounds_toArray, List.set_cons_zero, List.set_cons_succ]
                replace hS := Till.list 5 hS
                refine done_g (by kernel_rfl) (NoPanic.normal ?_) _
                clear hS
                go_wp2_with fail
                go_ret2
                exact TakeI.done hCo hN hi vo4 HP.out hb4
              · have HF := Lib.hid (noI_un HG.out (fixed_one HZ.out HP.out hi) hp)
                have hst := str_beq (putI_bytes p) hvr.2.1
                rw [decide_eq_false hp] at hst
                clear hp
                go_wp2_with fail
                refine wp_region_noPanic ?_
                refine region_g 6 (Ext (World.drew _)) (by kernel_rfl) (Ext.refl _) (fun hS => ?_)
                refine take_w (i := 0) (v := ?_) (some 80) rfl (by kernel_rfl) rfl (fun _ _ _ h => h) (Or.inl ⟨by rfl, ?_⟩) hS ?_
                rotate_left
                · (intro wq hq; go_simp); first | done | with_reducible rfl
                try simp only [Act.put, List.setIfInBounds_toArray, List.set_cons_zero, List.set_cons_succ]
                replace hS := Till.list 0 hS
                refine take_w (i := 3) (v := ?_) (some 83) rfl (by kernel_rfl) rfl (fun _ _ _ h => h) (Or.inl ⟨by rfl, ?_⟩) hS ?_
                rotate_left
                · (intro wq hq; go_simp); first | done | with_reducible rfl
                try simp only [Act.put, List.setIfInBounds_toArray, List.set_cons_zero, List.set_cons_succ]
                replace hS := Till.list 3 hS
                refine take_n (i := 4) (v := .string (strOfNums zs)) (some 84) rfl (by kernel_rfl) rfl (fun _ _ _ h => h) (Or.inl ⟨by rfl, ?_⟩) hS ?_
                · (intro wq hq; (have hcv := conv_any (hvr.ext hq) c; go_simp))
                try simp only [Act.put, List.setIfInBounds_toArray, List.set_cons_zero, List.set_cons_succ]
                replace hS := Till.list 4 hS
                refine ready_g (rs := [1]) (by kernel_rfl) (by simp) ?_
                refine AllReadyG.cons rfl (fun Kont hK => ?_) AllReadyG.nil
                go_simp
                refine (rputI_any Ao j Co p _ vo.drew hi (by omega)).mono ?_
                rintro e w3 ⟨vp, rfl, op, hb3⟩
                obtain ⟨ap, cp, rfl, -, -, bp, -⟩ := op.bvn (putI_bytes p) _ rfl
                have hb4 := Below.then hbel.drew hb3
                refine hK.out _ _ (Or.inr ((hS.get (by kernel_rfl)).trans (Ext.below hb3))) (fun hS0 => ?_)
                clear hK Kont
                try simp only [Act.put, List.setIfInBounds_toArray, List.set_cons_zero, List.set_cons_succ]
                clear hS
                refine now_t (by kernel_rfl) hS0 (fun hS => ?_)
                clear hS0
                refine take_n (i := 2) (v := .string (strOfNums (putI p))) (some 82) rfl (by kernel_rfl) rfl (fun _ _ _ h => h) (Or.inl ⟨by rfl, ?_⟩) hS ?_
                · (intro wq hq; (have hcv := conv_any (bp.ext hq) cp; go_simp))
                try simp only [Act.put, List.setIfInBounds_toArray, List.set_cons_zero, List.set_cons_succ]
                replace hS := Till.list 2 hS
                refine take_w (i := 5) (v := ?_) (some 85) rfl (by kernel_rfl) rfl (fun _ _ _ h => h) (Or.inl ⟨by rfl, ?_⟩) hS ?_
                rotate_left
                · (intro wq hq; go_simp); first | done | with_reducible rfl
                try simp only [Act.put, List.setIfInBounds_toArray, List.set_cons_zero, List.set_cons_succ]
                replace hS := Till.list 5 hS
                refine done_g (by kernel_rfl) (NoPanic.normal ?_) _
                clear hS
                go_wp2_with fail
                go_ret2
                exact TakeI.none HF.out hb4
end Go.Proofs.YtbfihajgjbpmaaaGreat
