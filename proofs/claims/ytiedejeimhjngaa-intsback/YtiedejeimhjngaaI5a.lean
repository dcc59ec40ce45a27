/- Contracts of package ints: Fixed, Delta, Put. -/
import Derived.Test.YtiedejeimhjngaaI5p
import Derived.Test.YtiedejeimhjngaaH3
namespace Go.Proofs.Ytiedejeimhjngaa
open Go.ChangeShapes Go.WideShapes Go.ChangeAt Go.RowKit
set_option linter.unusedVariables false

theorem zig_any (a : Int) (w : World) (h : -9223372036854775808 ≤ a ∧ a ≤ 9223372036854775807) :
    Calls Try.prog 28 #[.int .i64 a] w fun e w' => e = .returned (.int .u64 (zigF a)) ∧ w' = w := by
  unfold zigF
  by_cases h0 : a < 0
  · rw [if_pos h0]; exact zig_neg a w h.1 h0
  · rw [if_neg h0]; exact zig_pos a w (by omega) h.2
theorem wrap_un (x : Int) : IntKind.u64.wrap x = un x := by rw [IntKind.wrap_u64]; rfl
theorem wrap_rd (x : Int) : IntKind.i64.wrap x = rd x := by rw [IntKind.wrap_i64]; unfold rd; omega
theorem i64_at {l : List Int} (h : I64s l) {j : Nat} (hj : j < l.length) : -9223372036854775808 ≤ l.getD j 0 ∧ l.getD j 0 ≤ 9223372036854775807 := by
  have := h (l[j]) (List.getElem_mem hj)
  simpa [List.getD, hj] using this
set_option maxHeartbeats 1000000 in
theorem fixed_any (A : Option Addr) (N C : Nat) (l : List Int) (w : World) (hv : IV w A N l) (hr : I64s l) (hN : N ≤ 100000) :
    Calls Try.prog 14 #[.slice A N C] w fun e w' => ∃ v, e = .returned v ∧ OW w' w.heap.size v (fixedL l) ∧ Below w.heap.size w w' := by
  have hl := Lib.hid (IV.len hv)
  go_enter Try.func14, Try.ntmps14
  go_wp2_with fail
  go_loopw [3, 8] (fun v i wr => ∃ (j : Nat) (bs : List Int), j ≤ N ∧ i = .int .i64 (j : Int) ∧ Hid (bs = fixedL (l.take j)) ∧ bs.length ≤ 8 * j ∧ OW wr w.heap.size v bs ∧ Below w.heap.size w wr) (fun _ i _ => N - (intOf i).toNat)
  case atStart => exact ⟨0, [], by omega, rfl, Lib.hid rfl, by simp, .inl ⟨rfl, rfl⟩, Below.refl _ _⟩
  case round =>
    obtain ⟨j, bs, hj, rfl, HB, hbl, ho, hbel⟩ := hrel
    by_cases hlt : j < N
    · obtain ⟨b, off, rfl, hcl⟩ := IV.at hv j hlt
      have hcl' := keepc hcl hbel
      have hx := i64_at hr (j := j) (by rw [hl.out]; exact hlt)
      have HS := Lib.hid (take_snocI l j (by rw [hl.out]; exact hlt))
      generalize l.getD j 0 = x at hcl' hx HS
      clear hcl
      have hun := un_bd x
      have hwu := wrap_un x
      have hsz := hbel.size
      have ho1 := ho.alloc (p64Obj (un x))
      have hb1 := hbel.alloc hbel.size (p64Obj (un x))
      have hs1 : w.heap.size ≤ (World.alloc _ (p64Obj (un x))).heap.size := hb1.size
      have bw := BV.w8 (un x)
      have HU := Lib.hid (rfl : un x = un x)
      generalize hu : un x = u at hun hwu bw ho1 hb1 hs1
      have HV := Lib.hid hu
      clear hu HU
      go_wp2_with fail
      refine (put64_any u _ hun.1 hun.2).mono ?_
      rintro e w1 ⟨rfl, rfl⟩
      go_wp2_with (at_builtin; refine append_ow rfl (.tmp 12) (.tmp 15) rfl w.heap.size _ bs rfl ho1 _ 8 8 _ rfl (bw _) (by omega) hs1 ?_; intro v2 w2 ho2 hb2)
      go_roundw
      case rel => exact ⟨j + 1, _, by omega, by go_num, Lib.hid (by rw [HS.out, fixedL_app, ← HB.out, fixedL, HV.out, fixedL, List.append_nil]), by rw [List.length_append, w8_len]; omega, ho2, hb1.trans hb2⟩
      case measure => simp [intOf]; omega
    · obtain rfl : j = N := by omega
      have HB' : Hid (bs = fixedL l) := Lib.hid (by rw [HB.out, ← hl.out, List.take_length])
      go_wp2_with fail
      go_ret
      exact ⟨_, rfl, by rw [← HB'.out]; exact ho, hbel⟩
theorem getLast_snoc (l : List Int) (x d : Int) : (l ++ [x]).getLastD d = x := by simp
theorem deltaL_snoc (l : List Int) (x : Int) : deltaL 0 (l ++ [x]) = deltaL 0 l ++ pv (zigF (rd (x - l.getLastD 0))) := by
  rw [deltaL_app, deltaL_cons]
  show _ ++ (_ ++ []) = _
  rw [List.append_nil]
theorem deltaL_len10 : ∀ (was : Int) (l : List Int), (deltaL was l).length ≤ 10 * l.length
  | _, [] => Nat.le_refl _
  | was, x :: l => by
    have := deltaL_len10 x l
    have := pv_len10 (x := zigF (rd (x - was))) (by have := zig_bd (rd_bd (x - was)); omega)
    rw [deltaL_cons, List.length_append, List.length_cons]; omega
set_option maxHeartbeats 1000000 in
theorem delta_any (A : Option Addr) (N C : Nat) (l : List Int) (w : World) (hv : IV w A N l) (hr : I64s l) (hN : N ≤ 100000) :
    Calls Try.prog 16 #[.slice A N C] w fun e w' => ∃ v, e = .returned v ∧ OW w' w.heap.size v (deltaL 0 l) ∧ Below w.heap.size w w' := by
  have hl := Lib.hid (IV.len hv)
  go_enter Try.func16, Try.ntmps16
  go_wp2_with fail
  go_loopw [3, 4, 9] (fun v p i wr => ∃ (j : Nat) (bs : List Int) (was : Int), j ≤ N ∧ i = .int .i64 (j : Int) ∧ p = .int .i64 was ∧ Hid (was = (l.take j).getLastD 0) ∧ Hid (bs = deltaL 0 (l.take j)) ∧ bs.length ≤ 10 * j ∧ OW wr w.heap.size v bs ∧ Below w.heap.size w wr) (fun _ _ i _ => N - (intOf i).toNat)
  case atStart => exact ⟨0, [], 0, by omega, rfl, rfl, Lib.hid rfl, Lib.hid rfl, by simp, .inl ⟨rfl, rfl⟩, Below.refl _ _⟩
  case round =>
    obtain ⟨j, bs, was, hj, rfl, rfl, HW, HB, hbl, ho, hbel⟩ := hrel
    by_cases hlt : j < N
    · obtain ⟨b, off, rfl, hcl⟩ := IV.at hv j hlt
      have hcl' := keepc hcl hbel
      have hx := i64_at hr (j := j) (by rw [hl.out]; exact hlt)
      have HS := Lib.hid (take_snocI l j (by rw [hl.out]; exact hlt))
      generalize l.getD j 0 = x at hcl' hx HS
      clear hcl
      have hwr := wrap_rd (x - was)
      have hd := rd_bd (x - was)
      obtain ⟨d, hd1⟩ : ∃ d, rd (x - was) = d := ⟨_, rfl⟩
      rw [hd1] at hwr hd
      have HD := Lib.hid hd1
      clear hd1
      have hz := zig_bd hd
      have HZ := Lib.hid (rfl : zigF d = zigF d)
      obtain ⟨u, hu⟩ : ∃ u, zigF d = u := ⟨_, rfl⟩
      have HV := Lib.hid hu
      clear HZ
      rw [hu] at hz
      have hlp := pv_len10 (x := u) (by omega)
      have ho1 := ho.alloc (pvObj u)
      have hb1 := hbel.alloc hbel.size (pvObj u)
      have hs1 : w.heap.size ≤ (World.alloc _ (pvObj u)).heap.size := hb1.size
      clear hu
      go_wp2_with fail
      refine (zig_any d _ hd).mono ?_
      rw [HV.out]
      rintro e w1 ⟨rfl, rfl⟩
      go_wp2_with fail
      refine (putvar_any u _ hz.1 hz.2).mono ?_
      rintro e w1 ⟨rfl, rfl⟩
      go_wp2_with (at_builtin; refine append_ow rfl (.tmp 13) (.tmp 18) rfl w.heap.size _ bs rfl ho1 _ _ 10 _ rfl (BV.pv _ hz.1) (by omega) hs1 ?_; intro v2 w2 ho2 hb2)
      go_roundw
      case rel => exact ⟨j + 1, _, x, by omega, by go_num, rfl, Lib.hid (by rw [HS.out, getLast_snoc]), Lib.hid (by rw [HS.out, deltaL_snoc, ← HB.out, ← HW.out, HD.out, HV.out]), by rw [List.length_append]; omega, ho2, hb1.trans hb2⟩
      case measure => simp [intOf]; omega
    · obtain rfl : j = N := by omega
      have HB' : Hid (bs = deltaL 0 l) := Lib.hid (by rw [HB.out, ← hl.out, List.take_length])
      go_wp2_with fail
      go_ret
      exact ⟨_, rfl, by rw [← HB'.out]; exact ho, hbel⟩
theorem deltaL_bytes (was : Int) (l : List Int) : ∀ z ∈ deltaL was l, 0 ≤ z ∧ z ≤ 255 := by
  induction l generalizing was with
  | nil => intro z hz; cases hz
  | cons x l ih =>
    intro z hz
    rw [deltaL_cons] at hz
    rcases List.mem_append.1 hz with hz | hz
    · exact pv_bytes (zig_bd (rd_bd _)).1 z hz
    · exact ih x z hz
theorem fixedL_bytes : ∀ (l : List Int), ∀ z ∈ fixedL l, 0 ≤ z ∧ z ≤ 255
  | [], z, hz => by cases hz
  | x :: l, z, hz => by
    rw [fixedL] at hz
    rcases List.mem_append.1 hz with hz | hz
    · exact w8_bytes _ z hz
    · exact fixedL_bytes l z hz
theorem bodyI_bytes (l : List Int) : ∀ z ∈ bodyI l, 0 ≤ z ∧ z ≤ 255 := by
  intro z hz
  unfold bodyI at hz
  split at hz
  · rcases List.mem_cons.1 hz with rfl | hz
    · omega
    · exact deltaL_bytes 0 l z hz
  · rcases List.mem_cons.1 hz with rfl | hz
    · omega
    · exact fixedL_bytes l z hz
theorem putI_bytes (l : List Int) : ∀ z ∈ putI l, 0 ≤ z ∧ z ≤ 255 := by
  intro z hz
  rcases List.mem_append.1 hz with hz | hz
  · exact pv_bytes (by omega) z hz
  · exact bodyI_bytes l z hz
set_option maxHeartbeats 1000000 in
theorem putI_any (A : Option Addr) (N C : Nat) (l : List Int) (w : World) (hv : IV w A N l) (hr : I64s l) (hN : N ≤ 100000) :
    Calls Try.prog 18 #[.slice A N C] w fun e w' => ∃ v, e = .returned v ∧ OW w' w.heap.size v (putI l) ∧ Below w.heap.size w w' := by
  have hl := IV.len hv
  have HL := Lib.hid hl
  have hwu : IntKind.u64.wrap (N : Int) = (N : Int) := u64_same (by omega) (by omega)
  have hlp := pv_len10 (x := (N : Int)) (by omega)
  have ho0 := OW.pv (N : Int) w w.heap.size (Nat.le_refl _) (by omega) w.heap.size rfl
  have hb0 := (Below.refl w.heap.size w).alloc (Nat.le_refl _) (pvObj (N : Int))
  have hv0 := hv.alloc (pvObj (N : Int))
  have hlf := fixedL_len l
  have hld := deltaL_len10 0 l
  rw [hl] at hlf hld
  obtain ⟨D, hD⟩ : ∃ D, (deltaL 0 l).length = D := ⟨_, rfl⟩
  obtain ⟨F, hF⟩ : ∃ F, 8 * N = F := ⟨_, rfl⟩
  have HD := Lib.hid hD
  have HF := Lib.hid (hlf.trans hF)
  have HB : Hid (shortB l = decide (D < F)) := Lib.hid (by rw [shortB, hD, HL.out, hF])
  have hFb : F ≤ 800000 := by omega
  rw [hD] at hld
  clear hl hlf hD hF
  go_enter Try.func18, Try.ntmps18
  go_wp2_with fail
  refine (putvar_any (N : Int) _ (by omega) (by omega)).mono ?_
  rintro e w1 ⟨rfl, rfl⟩
  have hs0 : w.heap.size < (w.alloc (pvObj (N : Int))).heap.size := by simp
  generalize w.alloc (pvObj (N : Int)) = w0 at *
  go_wp2_with fail
  refine (fixed_any A N C l _ hv0 hr hN).mono ?_
  rintro e w1 ⟨vf, rfl, of1, hb1⟩
  obtain ⟨af, cf, rfl, hcf, -, bf, lf⟩ := of1.bvn (fixedL_bytes l) F HF.out
  have hs1 := hb1.size
  replace ho0 := ho0.below hb1
  replace hv0 := hv0.below hb1
  replace hb0 := Below.then hb0 hb1
  clear of1 hb1
  go_wp2_with fail
  refine (delta_any A N C l _ hv0 hr hN).mono ?_
  rintro e w2 ⟨vd, rfl, od1, hb2⟩
  obtain ⟨ad, cd, rfl, hcd, -, bd, ld⟩ := od1.bvn (deltaL_bytes 0 l) D HD.out
  have hs2 := hb2.size
  replace ho0 := ho0.below hb2
  replace bf := bf.below hb2
  replace hb0 := Below.then hb0 hb2
  clear od1 hb2 hv0
  by_cases hlt : D < F
  · have hlti : (D : Int) < (F : Int) := by omega
    have b1 := BV.one1 w2 1 (by omega) (by omega)
    replace ho0 := ho0.alloc (.cells #[.int .u8 1] 5)
    replace bd := bd.alloc (.cells #[.int .u8 1] 5)
    replace hb0 := hb0.alloc hb0.size (.cells #[.int .u8 1] 5)
    have hs3 := hb0.size
    go_wp2_with (at_builtin; first | (refine append_ow2 rfl (.tmp 19) (.tmp 20) rfl w.heap.size _ _ rfl ho0 _ 1 1 _ rfl b1 (by omega) hs3 ?_; intro v3 w3 ho3 hb3 _ hk3; have bd3 := bd.other (fun x hx hlt => hk3 x.block hlt (fun h => by have h1 : some w.heap.size = some x.block := h; have h2 := Option.some.inj h1; have := ld x hx; omega)); clear hk3) | (refine append_ow rfl (.tmp 22) (.tmp 23) rfl w.heap.size _ _ rfl ho3 _ _ _ _ rfl bd3 (by rw [List.length_append, List.length_singleton]; omega) (Nat.le_trans hs3 (hb3.size)) ?_; intro v4 w4 ho4 hb4))
    go_ret
    refine ⟨_, rfl, ?_, (hb0.trans hb3).trans hb4⟩
    rw [putI, bodyI, HB.out, if_pos (decide_eq_true hlt), HL.out]
    rw [List.append_assoc] at ho4
    exact ho4
  · have hlti : ¬ (D : Int) < (F : Int) := by omega
    have b1 := BV.one1 w2 0 (by omega) (by omega)
    replace ho0 := ho0.alloc (.cells #[.int .u8 0] 5)
    replace bf := bf.alloc (.cells #[.int .u8 0] 5)
    replace hb0 := hb0.alloc hb0.size (.cells #[.int .u8 0] 5)
    have hs3 := hb0.size
    go_wp2_with (at_builtin; first | (refine append_ow2 rfl (.tmp 25) (.tmp 26) rfl w.heap.size _ _ rfl ho0 _ 1 1 _ rfl b1 (by omega) hs3 ?_; intro v3 w3 ho3 hb3 _ hk3; have bf3 := bf.other (fun x hx hlt => hk3 x.block hlt (fun h => by have h1 : some w.heap.size = some x.block := h; have h2 := Option.some.inj h1; have := lf x hx; omega)); clear hk3) | (refine append_ow rfl (.tmp 28) (.tmp 29) rfl w.heap.size _ _ rfl ho3 _ _ _ _ rfl bf3 (by rw [List.length_append, List.length_singleton]; omega) (Nat.le_trans hs3 (hb3.size)) ?_; intro v4 w4 ho4 hb4))
    go_ret
    refine ⟨_, rfl, ?_, (hb0.trans hb3).trans hb4⟩
    rw [putI, bodyI, HB.out, if_neg (by simpa using hlt), HL.out]
    rw [List.append_assoc] at ho4
    exact ho4
theorem BV.opened {w : World} {a : Option Addr} {n : Nat} {zs : List Int} (h : BV w a n zs) (hn : 1 ≤ n) : ∃ b off, a = some ⟨b, off, none⟩ ∧ ∀ i, i < n → w.cell? ⟨b, off + i, none⟩ = some (.int .u8 (zs.getD i 0)) := by
  rcases h.2.2 with h3 | h3
  · omega
  · exact h3
end Go.Proofs.Ytiedejeimhjngaa
