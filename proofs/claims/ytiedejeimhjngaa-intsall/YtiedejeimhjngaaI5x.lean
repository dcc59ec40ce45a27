/- The document's own answers for layer 5: Fixed, Delta, Put. -/
import Derived.Test.YtiedejeimhjngaaI5b
import Derived.Test.YtiedejeimhjngaaE
namespace Go.Proofs.Ytiedejeimhjngaa
open Go.ChangeShapes Go.WideShapes Go.ChangeAt Go.RowKit
set_option linter.unusedVariables false

theorem rzig_any (a : Int) (w : World) (h : -9223372036854775808 ≤ a ∧ a ≤ 9223372036854775807) :
    Calls Try.prog 30 #[.int .i64 a] w fun e w' => e = .returned (.int .u64 (zigF a)) ∧ w' = w := by
  unfold zigF
  by_cases h0 : a < 0
  · rw [if_pos h0]; exact rzig_neg a w h.1 h0
  · rw [if_neg h0]; exact rzig_pos a w (by omega) h.2
theorem rzag_any (a : Int) (w : World) (h : 0 ≤ a ∧ a ≤ 18446744073709551615) :
    Calls Try.prog 24 #[.int .u64 a] w fun e w' => e = .returned (.int .i64 (zagF a)) ∧ w' = w := by
  unfold zagF
  by_cases h0 : a % 2 = 1
  · rw [if_pos h0]; exact rzag_odd a w h.1 h.2 h0
  · rw [if_neg h0]; exact rzag_even a w h.1 h.2 (by omega)
set_option maxHeartbeats 1000000 in
theorem rfixed_any (A : Option Addr) (N C : Nat) (l : List Int) (w : World) (hv : IV w A N l) (hr : I64s l) (hN : N ≤ 100000) :
    Calls Try.prog 15 #[.slice A N C] w fun e w' => ∃ v, e = .returned v ∧ OW w' w.heap.size v (fixedL l) ∧ Below w.heap.size w w' := by
  have hl := Lib.hid (IV.len hv)
  go_enter Try.func15, Try.ntmps15
  go_wp2_with fail
  go_loopw [3, 4] (fun v i wr => ∃ (j : Nat) (bs : List Int), j ≤ N ∧ i = .int .i64 (j : Int) ∧ Hid (bs = fixedL (l.take j)) ∧ bs.length ≤ 8 * j ∧ OW wr w.heap.size v bs ∧ Below w.heap.size w wr) (fun _ i _ => N - (intOf i).toNat)
  case atStart => exact ⟨0, [], by omega, rfl, Lib.hid rfl, by simp, OW.empty w w.heap.size (Nat.le_refl _) _ rfl, Joins.below_alloc1 _ _⟩
  case round =>
    obtain ⟨j, bs, hj, rfl, HB, hbl, ho, hbel⟩ := hrel
    by_cases hlt : j < N
    · obtain ⟨b, off, rfl, hcl⟩ := IV.at hv j hlt
      have hcl' := keepc hcl hbel
      have hx := i64_at hr (j := j) (by rw [hl.out]; exact hlt)
      have HS := Lib.hid (take_snocI l j (by rw [hl.out]; exact hlt))
      generalize l.getD j 0 = x at hcl' hx HS
      clear hcl
      have hji : (j : Int) < (N : Int) := by omega
      have hun := un_bd x
      have hwu := wrap_un x
      have hsz := hbel.size
      obtain ⟨u, hu⟩ : ∃ u, un x = u := ⟨_, rfl⟩
      rw [hu] at hun hwu
      have HV := Lib.hid hu
      clear hu
      go_wp2_with fail
      refine (rput64_any u _ hun.1 hun.2).mono ?_
      rintro e w1 ⟨v1, rfl, ob, hb1⟩
      obtain ⟨a1, c1, rfl, -, bv1, -⟩ := ob.bvn (w8_bytes u) 8 (w8_len u)
      have ho1 := ho.below hb1
      have hw1 := hbel.trans (hb1.mono hsz)
      have hs1 := hw1.size
      clear ho hbel hb1 ob
      go_wp2_with (at_builtin; refine append_ow rfl (.tmp 12) (.tmp 18) rfl w.heap.size _ bs rfl ho1 _ 8 _ _ rfl bv1 (by omega) hs1 ?_; intro v2 w2 ho2 hb2)
      go_roundw
      case rel => exact ⟨j + 1, _, by omega, by go_num, Lib.hid (by rw [HS.out, fixedL_app, ← HB.out, fixedL, HV.out, fixedL, List.append_nil]), by rw [List.length_append, w8_len]; omega, ho2, hw1.trans hb2⟩
      case measure => simp [intOf]; omega
    · obtain rfl : j = N := by omega
      have HB' : Hid (bs = fixedL l) := Lib.hid (by rw [HB.out, ← hl.out, List.take_length])
      go_wp2_with fail
      go_ret
      exact ⟨_, rfl, by rw [← HB'.out]; exact ho, hbel⟩
set_option maxHeartbeats 1000000 in
theorem rdelta_any (A : Option Addr) (N C : Nat) (l : List Int) (w : World) (hv : IV w A N l) (hr : I64s l) (hN : N ≤ 100000) :
    Calls Try.prog 17 #[.slice A N C] w fun e w' => ∃ v, e = .returned v ∧ OW w' w.heap.size v (deltaL 0 l) ∧ Below w.heap.size w w' := by
  have hl := Lib.hid (IV.len hv)
  go_enter Try.func17, Try.ntmps17
  go_wp2_with fail
  go_loopw [3, 4, 5] (fun v p i wr => ∃ (j : Nat) (bs : List Int) (was : Int), j ≤ N ∧ i = .int .i64 (j : Int) ∧ p = .int .i64 was ∧ Hid (was = (l.take j).getLastD 0) ∧ Hid (bs = deltaL 0 (l.take j)) ∧ bs.length ≤ 10 * j ∧ OW wr w.heap.size v bs ∧ Below w.heap.size w wr) (fun _ _ i _ => N - (intOf i).toNat)
  case atStart => exact ⟨0, [], 0, by omega, rfl, rfl, Lib.hid rfl, Lib.hid rfl, by simp, OW.empty w w.heap.size (Nat.le_refl _) _ rfl, Joins.below_alloc1 _ _⟩
  case round =>
    obtain ⟨j, bs, was, hj, rfl, rfl, HW, HB, hbl, ho, hbel⟩ := hrel
    by_cases hlt : j < N
    · obtain ⟨b, off, rfl, hcl⟩ := IV.at hv j hlt
      have hcl' := keepc hcl hbel
      have hx := i64_at hr (j := j) (by rw [hl.out]; exact hlt)
      have HS := Lib.hid (take_snocI l j (by rw [hl.out]; exact hlt))
      generalize l.getD j 0 = x at hcl hcl' hx HS
      have hji : (j : Int) < (N : Int) := by omega
      have hwr := wrap_rd (x - was)
      have hd := rd_bd (x - was)
      obtain ⟨d, hd1⟩ : ∃ d, rd (x - was) = d := ⟨_, rfl⟩
      rw [hd1] at hwr hd
      have HD := Lib.hid hd1
      clear hd1
      have hz := zig_bd hd
      obtain ⟨u, hu⟩ : ∃ u, zigF d = u := ⟨_, rfl⟩
      have HV := Lib.hid hu
      rw [hu] at hz
      have hlp := pv_len10 (x := u) (by omega)
      have hsz := hbel.size
      clear hu
      go_wp2_with fail
      refine (rzig_any d _ hd).mono ?_
      rw [HV.out]
      rintro e w1 ⟨rfl, rfl⟩
      go_wp2_with fail
      refine (rputvar_any u _ hz.1 hz.2).mono ?_
      rintro e w2 ⟨v1, rfl, ob, hb1⟩
      obtain ⟨a1, c1, rfl, -, bv1, -⟩ := ob.bvn (pv_bytes hz.1) _ rfl
      have ho1 := ho.below hb1
      have hw1 := hbel.trans (hb1.mono hsz)
      have hs1 := hw1.size
      clear ho hbel hb1 ob hcl'
      go_wp2_with (at_builtin; refine append_ow rfl (.tmp 13) (.tmp 21) rfl w.heap.size _ bs rfl ho1 _ _ _ _ rfl bv1 (by omega) hs1 ?_; intro v2 w3 ho2 hb2; have hw3 := hw1.trans hb2; have hcl3 := keepc hcl hw3)
      go_roundw
      case rel => exact ⟨j + 1, _, x, by omega, by go_num, rfl, Lib.hid (by rw [HS.out, getLast_snoc]), Lib.hid (by rw [HS.out, deltaL_snoc, ← HB.out, ← HW.out, HD.out, HV.out]), by rw [List.length_append]; omega, ho2, hw3⟩
      case measure => simp [intOf]; omega
    · obtain rfl : j = N := by omega
      have HB' : Hid (bs = deltaL 0 l) := Lib.hid (by rw [HB.out, ← hl.out, List.take_length])
      go_wp2_with fail
      go_ret
      exact ⟨_, rfl, by rw [← HB'.out]; exact ho, hbel⟩
set_option maxHeartbeats 1000000 in
theorem rputI_any (A : Option Addr) (N C : Nat) (l : List Int) (w : World) (hv : IV w A N l) (hr : I64s l) (hN : N ≤ 100000) :
    Calls Try.prog 19 #[.slice A N C] w fun e w' => ∃ v, e = .returned v ∧ OW w' w.heap.size v (putI l) ∧ Below w.heap.size w w' := by
  have hl := IV.len hv
  have HL := Lib.hid hl
  have hwu : IntKind.u64.wrap (N : Int) = (N : Int) := u64_same (by omega) (by omega)
  have hlp := pv_len10 (x := (N : Int)) (by omega)
  have hld := deltaL_len10 0 l
  rw [hl] at hld
  obtain ⟨D, hD⟩ : ∃ D, (deltaL 0 l).length = D := ⟨_, rfl⟩
  have HD := Lib.hid hD
  have HB : Hid (shortB l = decide (D < 8 * N)) := Lib.hid (by rw [shortB, hD, HL.out])
  rw [hD] at hld
  clear hl hD
  go_enter Try.func19, Try.ntmps19
  go_wp2_with fail
  refine (rputvar_any (N : Int) _ (by omega) (by omega)).mono ?_
  rintro e w1 ⟨v0, rfl, ob0, hb0⟩
  have hk0 : ∀ k, v0.ownBlock = some k → k < w1.heap.size := fun k hk => (World.ownsRow.lt ob0 k hk).2
  have ho0 := ob0.ow
  have hv0 := hv.below hb0
  clear ob0
  go_wp2_with fail
  refine (rdelta_any A N C l _ hv0 hr hN).mono ?_
  rintro e w2 ⟨vd, rfl, od1, hb2⟩
  obtain ⟨ad, cd, rfl, hcd, -, bd, ld⟩ := od1.bvn (deltaL_bytes 0 l) D HD.out
  have hs2 := hb2.size
  replace ho0 := ho0.below hb2
  replace hv0 := hv0.below hb2
  replace hb0 := Below.then hb0 hb2
  clear od1 hb2
  by_cases hlt : D < 8 * N
  · have hlti : (D : Int) < 8 * (N : Int) := by omega
    have b1 := BV.one1 w2 1 (by omega) (by omega)
    replace ho0 := ho0.alloc (.cells #[.int .u8 1] 5)
    replace bd := bd.alloc (.cells #[.int .u8 1] 5)
    replace hb0 := hb0.alloc hb0.size (.cells #[.int .u8 1] 5)
    have hs3 := hb0.size
    go_wp2_with (at_builtin; first | (refine append_ow2 rfl (.tmp 17) (.tmp 18) rfl w.heap.size _ _ rfl ho0 _ 1 1 _ rfl b1 (by omega) hs3 ?_; intro v3 w3 ho3 hb3 _ hk3; have bd3 := bd.other (fun x hx hlt => hk3 x.block hlt (fun h => by have := hk0 _ h; have := ld x hx; omega)); clear hk3) | (refine append_ow rfl (.tmp 19) (.tmp 20) rfl w.heap.size _ _ rfl ho3 _ _ _ _ rfl bd3 (by rw [List.length_append, List.length_singleton]; omega) (Nat.le_trans hs3 (hb3.size)) ?_; intro v4 w4 ho4 hb4))
    go_ret
    refine ⟨_, rfl, ?_, (hb0.trans hb3).trans hb4⟩
    rw [putI, bodyI, HB.out, if_pos (decide_eq_true hlt), HL.out]
    rw [List.append_assoc] at ho4
    exact ho4
  · have hlti : ¬ (D : Int) < 8 * (N : Int) := by omega
    have b1 := BV.one1 w2 0 (by omega) (by omega)
    replace ho0 := ho0.alloc (.cells #[.int .u8 0] 5)
    replace hv0 := hv0.alloc (.cells #[.int .u8 0] 5)
    replace hb0 := hb0.alloc hb0.size (.cells #[.int .u8 0] 5)
    have hs3 := hb0.size
    go_wp2_with (at_builtin; (refine append_ow rfl (.tmp 22) (.tmp 23) rfl w.heap.size _ _ rfl ho0 _ 1 1 _ rfl b1 (by omega) hs3 ?_; intro v3 w3 ho3 hb3))
    replace hb0 := hb0.trans hb3
    have hv3 := hv.below hb0
    refine (rfixed_any A N C l _ hv3 hr hN).mono ?_
    rintro e w4 ⟨vf, rfl, of4, hb4⟩
    obtain ⟨af, cf, rfl, -, -, bf, -⟩ := of4.bvn (fixedL_bytes l) _ rfl
    have hlf := fixedL_len l
    rw [HL.out] at hlf
    have HF := Lib.hid hlf
    replace ho3 := ho3.below hb4
    replace hb0 := Below.then hb0 hb4
    have hs4 := hb0.size
    clear hlf hb3 hb4 hv3 of4 ho0 b1 hs3 hv0
    go_wp2_with (at_builtin; (refine append_ow rfl (.tmp 24) (.tmp 26) rfl w.heap.size _ _ rfl ho3 _ _ _ _ rfl bf (by rw [List.length_append, List.length_singleton, HF.out]; omega) hs4 ?_; intro v5 w5 ho5 hb5))
    go_ret
    refine ⟨_, rfl, ?_, hb0.trans hb5⟩
    rw [putI, bodyI, HB.out, if_neg (by simpa using hlt), HL.out]
    rw [List.append_assoc] at ho5
    exact ho5
end Go.Proofs.Ytiedejeimhjngaa
