/- Contracts of package texts: Dict, Put. -/
import Derived.Test.YtmoppmifhhnolaaT6b
namespace Go.Proofs.Ytmoppmifhhnolaa
open Go.ChangeShapes Go.WideShapes Go.ChangeAt Go.RowKit
set_option linter.unusedVariables false

theorem DS.below {h0 : Nat} {w w' : World} {v : Value} {ws : List ByteArray} (h : DS h0 w v ws) (hb : Below w.heap.size w w') : DS h0 w' v ws := by
  obtain ⟨h1, h2, h3, h4, h5⟩ := h
  have := hb.size
  exact ⟨h1.below hb, h2.below hb, h3.below hb, h4.below hb, by omega⟩
/-- a step that leaves the three blocks, and that of the unlike texts -/
theorem DS.same {h0 : Nat} {w w' : World} {v : Value} {ws : List ByteArray} (h : DS h0 w v ws) (hs : w.heap.size ≤ w'.heap.size) (he : ∀ b, b < w.heap.size → b < h0 + 3 ∨ v.ownBlock = some b → w'.heap[b]? = w.heap[b]?) : DS h0 w' v ws := by
  obtain ⟨h1, h2, h3, h4, h5⟩ := h
  exact ⟨(he _ (by omega) (.inl (by omega))).trans h1, (he _ (by omega) (.inl (by omega))).trans h2, h3.same (he _ (by omega) (.inl (by omega))), h4.same (fun g hg hlt => he g hlt (.inr hg)), by omega⟩
theorem addW_len (ws : List ByteArray) (s : ByteArray) : (addW ws s).length ≤ ws.length + 1 := by unfold addW; split <;> simp
theorem BV.otherN {w w' : World} {a : Option Addr} {n : Nat} {zs : List Int} (h : BV w a n zs) (hb : ∀ x, a = some x → n ≠ 0 → x.block < w.heap.size → w'.heap[x.block]? = w.heap[x.block]?) : BV w' a n zs := by
  by_cases h0 : n = 0
  · exact ⟨h.1, h.2.1, .inl h0⟩
  · exact h.other (fun x hx hlt => hb x hx h0 hlt)
theorem joinN_len10 : ∀ {l : List Int}, U64s l → (joinN l).length ≤ 10 * l.length
  | [], _ => Nat.le_refl _
  | x :: l, h => by
    have h1 := joinN_len10 (l := l) (fun y hy => h y (List.mem_cons_of_mem _ hy))
    have h2 := pv_len10 (x := x) (by have := (h x (List.mem_cons_self ..)).2; omega)
    rw [joinN, List.length_append, List.length_cons]; omega
theorem dictL_len {l : List ByteArray} (hr : Sm l) (hn : l.length ≤ 2000) : (dictL l).length ≤ 500000 := by
  have h1 := words_len l
  have h2 := eachL_len210 (words_sm hr)
  have h3 := joinN_len10 (places_u64 (l := l) (by omega))
  rw [places_len] at h3
  have h4 := pv_len10 (x := ((words l).length : Int)) (by omega)
  rw [dictL, List.length_append, List.length_append]; omega
set_option maxHeartbeats 2000000 in
theorem dict_any (A : Option Addr) (N C : Nat) (l : List ByteArray) (w : World) (hv : TV w A N l) (hr : Sm l) (hN : N ≤ 2000) :
    Calls Try.prog 16 #[.slice A N C] w fun e w' => ∃ v, e = .returned v ∧ OW w' w.heap.size v (dictL l) ∧ Below w.heap.size w w' := by
  have hl := Lib.hid (TV.len hv)
  have hmk : ∀ wx, (Instr.makeMap 47 none).run Try.prog wx = .ok (.map (some wx.heap.size)) (wx.alloc (.map #[] 0)) := fun wx => run_makeMap ..
  have d0 : DS w.heap.size (((w.alloc (.cells #[.slice none 0 0] 22)).alloc (.map #[] 0)).alloc (.cells #[.map (some (w.heap.size + 1))] 47)) (.slice none 0 0) [] := by
    refine ⟨((Bk.new w _ _).alloc _).alloc _, ?_, ?_, OS.nil _ _, by simp⟩
    · have := Bk.new ((w.alloc (.cells #[.slice none 0 0] 22)).alloc (.map #[] 0)) #[.map (some (w.heap.size + 1))] 47
      simpa using this
    · have := (MapWs.made 9 3 .i64 (w.alloc (.cells #[.slice none 0 0] 22))).alloc (.cells #[.map (some (w.heap.size + 1))] 47)
      simpa using this
  have hb0 : Below w.heap.size w (((w.alloc (.cells #[.slice none 0 0] 22)).alloc (.map #[] 0)).alloc (.cells #[.map (some (w.heap.size + 1))] 47)) := Joins.below_alloc3 _ _ _ _
  go_enter Try.func16, Try.ntmps16
  go_wp2_with fail
  clear hmk
  generalize (((w.alloc (.cells #[.slice none 0 0] 22)).alloc (.map #[] 0)).alloc (.cells #[.map (some (w.heap.size + 1))] 47)) = w0 at *
  go_loopw [6, 14] (fun vt i wr => ∃ (j : Nat) (bs : List Int) (v : Value) (ws : List ByteArray), j ≤ N ∧ i = .int .i64 (j : Int) ∧ Hid (ws = words (l.take j)) ∧ Hid (bs = joinN (placesL (l.take j))) ∧ bs.length ≤ 10 * j ∧ ws.length ≤ j ∧ OW wr (w.heap.size + 3) vt bs ∧ DS w.heap.size wr v ws ∧ (∀ g, v.ownBlock = some g → vt.ownBlock ≠ some g) ∧ Below w.heap.size w wr) (fun _ i _ => N - (intOf i).toNat)
  case atStart => exact ⟨0, [], _, [], by omega, rfl, Lib.hid rfl, Lib.hid rfl, by simp, by simp, .inl ⟨rfl, rfl⟩, d0, (fun g h => by cases h), hb0⟩
  case round =>
    clear d0 hb0
    obtain ⟨j, bs, v, ws, hj, rfl, HW, HB, hbl, hwl, ho, hd, hdis, hbel⟩ := hrel
    have HD := Lib.hid hdis
    clear hdis
    by_cases hlt : j < N
    · obtain ⟨b, off, rfl, hcl⟩ := TV.at hv j hlt
      have hcl' := keepc hcl hbel
      have hx := hr.at j
      have HS := Lib.hid (take_snocT l j (by rw [hl.out]; exact hlt))
      generalize l.getD j ⟨#[]⟩ = x at hcl' hx HS
      clear hcl
      have hpl := place_le ws x
      go_wp2_with fail
      refine (place_any w.heap.size v ws x _ hd hx (by omega)).mono ?_
      rintro e w1 ⟨v1, rfl, hd1, hb1, ob1, hk1⟩
      have ho1 : OW w1 (w.heap.size + 3) u6 bs := ho.same (fun g hg hlt => hk1 g (ho.ownLow hg).1 hlt (fun e => HD.out g e hg))
      have HD1 : Hid (∀ g, v1.ownBlock = some g → u6.ownBlock ≠ some g) := Lib.hid (fun g h1 h2 => by
        rcases ob1 with h | ⟨k, hk, hge⟩
        · exact HD.out g (by rw [← h]; exact h1) h2
        · have := (ho.ownLow h2).2
          rw [hk] at h1; cases h1; omega)
      clear hk1 ob1 ho hd
      obtain ⟨u, hu⟩ : ∃ u : Nat, placeB ws x = u := ⟨_, rfl⟩
      have HU := Lib.hid hu
      rw [hu] at hpl
      rw [hu]
      clear hu
      have hwu : IntKind.u64.wrap (u : Int) = (u : Int) := u64_same (by omega) (by omega)
      have hlp := pv_len10 (x := (u : Int)) (by omega)
      replace hbel := hbel.trans hb1
      clear hb1
      have hsz := hbel.size
      have hq1 := hd1.2.2.2.2
      have ho2 := ho1.alloc (pvObj (u : Int))
      have hd2 := hd1.below (Joins.below_alloc1 w1 (pvObj (u : Int)))
      have hb2 := hbel.alloc hbel.size (pvObj (u : Int))
      have hs2 : w1.heap.size < (World.alloc w1 (pvObj (u : Int))).heap.size := by simp
      have HLT : Hid (∀ g, v1.ownBlock = some g → g < w1.heap.size) := Lib.hid (fun g hg => (hd1.2.2.2.1.ownLow hg).2)
      have HAL : Hid ((addW ws x).length ≤ j + 1) := Lib.hid (Nat.le_trans (addW_len ws x) (by omega))
      clear ho1 hd1
      go_wp2_with fail
      refine (putvar_any (u : Int) _ (by omega) (by omega)).mono ?_
      rintro e w2 ⟨rfl, rfl⟩
      go_wp2_with (at_builtin; refine append_ow2 rfl (.tmp 18) (.tmp 23) rfl (w.heap.size + 3) _ bs rfl ho2 _ _ 10 _ rfl (BV.pv _ (by omega)) (by omega) (by omega) ?_; intro v3 w3 ho3 hb3 ob3 hk3; have HK : Hid (∀ b, b < (World.alloc w1 (pvObj (u : Int))).heap.size → u6.ownBlock ≠ some b → w3.heap[b]? = (World.alloc w1 (pvObj (u : Int))).heap[b]?) := Lib.hid hk3; have HO : Hid (v3.ownBlock = u6.ownBlock ∨ v3.ownBlock = some (World.alloc w1 (pvObj (u : Int))).heap.size) := Lib.hid ob3; clear hk3 ob3)
      go_roundw
      case rel =>
        refine ⟨j + 1, _, v1, addW ws x, by omega, by go_num, Lib.hid (by rw [HS.out, words_snoc, HW.out]), Lib.hid (by rw [HS.out, places_snoc, joinN_snoc, ← HB.out, ← HW.out, HU.out]), by rw [List.length_append]; omega, HAL.out, ho3, ?_, ?_, hb2.trans (hb3.mono (by omega))⟩
        · refine hd2.same hb3.size (fun b hb h => ?_)
          rcases h with h | h
          · exact hb3.block b h
          · exact HK.out b hb (HD1.out b h)
        · intro g hg he
          rcases HO.out with h | h
          · exact HD1.out g hg (by rw [← h]; exact he)
          · rw [h] at he
            have := HLT.out g hg
            cases he
            omega
      case measure => simp [intOf]; omega
    · obtain rfl : j = N := by omega
      have HB' : Hid (bs = joinN (placesL l)) := Lib.hid (by rw [HB.out, ← hl.out, List.take_length])
      have HW' : Hid (ws = words l) := Lib.hid (by rw [HW.out, ← hl.out, List.take_length])
      have hsm : Sm ws := by rw [HW'.out]; exact words_sm hr
      have hel := eachL_len210 hsm
      have hjb : ∀ z ∈ bs, 0 ≤ z ∧ z ≤ 255 := by rw [HB'.out]; exact joinN_bytes (places_u64 (by rw [hl.out]; omega))
      obtain ⟨d1, -, -, d4, d5⟩ := id hd
      have htb : ∀ g, u6.ownBlock = some g → g < wr.heap.size := fun g hg => (ho.ownLow hg).2
      obtain ⟨at', ct, rfl, hct, -, bt, lt⟩ := ho.bvn hjb _ rfl
      have HTB : Hid (∀ x, at' = some x → x.block < wr.heap.size ∨ bs.length = 0) := Lib.hid (fun x hx => by
        rcases bt.2.2 with h | ⟨b, off, h, hc⟩
        · exact .inr h
        · by_cases h0 : bs.length = 0
          · exact .inr h0
          · rw [h] at hx; cases hx
            exact .inl (cell_lt (hc 0 (by omega))))
      obtain ⟨au, cu, rfl, hcu, -, tu, -, -⟩ := d4.sv
      obtain ⟨n, hn⟩ : ∃ n, ws.length = n := ⟨_, rfl⟩
      rw [hn] at d1 d4 tu hwl hel
      have HN := Lib.hid hn
      have c0 := d1.cell 0 (v := .slice au n cu) rfl
      have hwu : IntKind.u64.wrap (n : Int) = (n : Int) := u64_same (by omega) (by omega)
      have hlp := pv_len10 (x := (n : Int)) (by omega)
      have ho0 := OW.pv (n : Int) wr w.heap.size hbel.size (by omega) wr.heap.size rfl
      have hb0 := hbel.alloc hbel.size (pvObj (n : Int))
      have bt0 := bt.alloc (pvObj (n : Int))
      have tu0 : TV (wr.alloc (pvObj (n : Int))) au n ws := tu.alloc (pvObj (n : Int))
      have c1 := keepo c0 (pvObj (n : Int))
      have hs0 : wr.heap.size < (wr.alloc (pvObj (n : Int))).heap.size := by simp
      have hsz := hbel.size
      clear hd d1 d4 ho bt tu htb hn
      go_wp2_with fail
      refine (putvar_any (n : Int) _ (by omega) (by omega)).mono ?_
      rintro e w1 ⟨rfl, rfl⟩
      clear c0
      generalize wr.alloc (pvObj (n : Int)) = w1 at *
      go_wp2_with fail
      refine (each_any au n cu ws _ tu0 hsm (by omega)).mono ?_
      rintro e w2 ⟨ve, rfl, oe, hb2⟩
      obtain ⟨ae, ce, rfl, -, -, be, -⟩ := oe.bvn (eachL_bytes ws) _ rfl
      replace ho0 := ho0.below hb2
      replace bt0 := bt0.below hb2
      have hs2 := hb2.size
      replace hb0 := hb0.trans (hb2.mono hb0.size)
      have hs3 := hb0.size
      clear oe hb2 tu0 c1
      go_wp2_with (at_builtin; first | (refine append_ow2 rfl (.tmp 30) (.tmp 32) rfl w.heap.size _ _ rfl ho0 _ _ ce _ rfl be (by omega) hs3 ?_; intro v3 w3 ho3 hb3 _ hk3; have bt3 : BV w3 at' bs.length bs := bt0.otherN (fun x hx h0 hlt => hk3 x.block hlt (fun h => by have h1 : some wr.heap.size = some x.block := h; have h2 := Option.some.inj h1; rcases HTB.out x hx with h | h <;> omega)); clear hk3) | (refine append_ow rfl (.tmp 34) (.tmp 35) rfl w.heap.size _ _ rfl ho3 _ _ ct _ rfl bt3 (by rw [List.length_append]; omega) (Nat.le_trans hs3 (hb3.size)) ?_; intro v4 w4 ho4 hb4))
      go_ret
      refine ⟨_, rfl, ?_, (hb0.trans hb3).trans hb4⟩
      rw [dictL, ← HW'.out, ← HB'.out, HN.out, ← List.append_assoc]
      exact ho4
set_option maxHeartbeats 1000000 in
theorem putT_any (A : Option Addr) (N C : Nat) (l : List ByteArray) (w : World) (hv : TV w A N l) (hr : Sm l) (hN : N ≤ 2000) :
    Calls Try.prog 18 #[.slice A N C] w fun e w' => ∃ v, e = .returned v ∧ OW w' w.heap.size v (putT l) ∧ Below w.heap.size w w' := by
  have hl := TV.len hv
  have HL := Lib.hid hl
  have hwu : IntKind.u64.wrap (N : Int) = (N : Int) := u64_same (by omega) (by omega)
  have hlp := pv_len10 (x := (N : Int)) (by omega)
  have ho0 := OW.pv (N : Int) w w.heap.size (Nat.le_refl _) (by omega) w.heap.size rfl
  have hb0 := (Below.refl w.heap.size w).alloc (Nat.le_refl _) (pvObj (N : Int))
  have hv0 : TV (w.alloc (pvObj (N : Int))) A N l := hv.alloc (pvObj (N : Int))
  have hlf := eachL_len210 hr
  have hld := dictL_len hr (by omega)
  rw [hl] at hlf
  obtain ⟨D, hD⟩ : ∃ D, (dictL l).length = D := ⟨_, rfl⟩
  obtain ⟨F, hF⟩ : ∃ F, (eachL l).length = F := ⟨_, rfl⟩
  have HD := Lib.hid hD
  have HF := Lib.hid hF
  have HB : Hid (shortT l = decide (D < F)) := Lib.hid (by rw [shortT, hD, hF])
  have HDB := Lib.hid (dictL_bytes (l := l) (by omega))
  rw [hD] at hld
  rw [hF] at hlf
  clear hl hD hF
  go_enter Try.func18, Try.ntmps18
  go_wp2_with fail
  refine (putvar_any (N : Int) _ (by omega) (by omega)).mono ?_
  rintro e w1 ⟨rfl, rfl⟩
  have hs0 : w.heap.size < (w.alloc (pvObj (N : Int))).heap.size := by simp
  generalize w.alloc (pvObj (N : Int)) = w0 at *
  go_wp2_with fail
  refine (each_any A N C l _ hv0 hr hN).mono ?_
  rintro e w1 ⟨vf, rfl, of1, hb1⟩
  obtain ⟨af, cf, rfl, hcf, -, bf, lf⟩ := of1.bvn (eachL_bytes l) F HF.out
  have hs1 := hb1.size
  replace ho0 := ho0.below hb1
  replace hv0 := hv0.below hb1
  replace hb0 := Below.then hb0 hb1
  clear of1 hb1
  go_wp2_with fail
  refine (dict_any A N C l _ hv0 hr hN).mono ?_
  rintro e w2 ⟨vd, rfl, od1, hb2⟩
  obtain ⟨ad, cd, rfl, hcd, -, bd, ld⟩ := od1.bvn HDB.out D HD.out
  have hs2 := hb2.size
  replace ho0 := ho0.below hb2
  replace bf := bf.below hb2
  replace hb0 := Below.then hb0 hb2
  clear od1 hb2 hv0
  by_cases hlt : D < F
  · have hlti : (D : Int) < (F : Int) := by omega
    have b1 := BV.one1 w2 1 (by omega) (by omega)
    replace ho0 := ho0.alloc (.cells #[.int .u8 1] 5)
    replace bd := bd.alloc (.cells #[.int .u8 1] 5)
    replace hb0 := hb0.alloc hb0.size (.cells #[.int .u8 1] 5)
    have hs3 := hb0.size
    go_wp2_with (at_builtin; first | (refine append_ow2 rfl (.tmp 19) (.tmp 20) rfl w.heap.size _ _ rfl ho0 _ 1 1 _ rfl b1 (by omega) hs3 ?_; intro v3 w3 ho3 hb3 _ hk3; have bd3 := bd.other (fun x hx hlt => hk3 x.block hlt (fun h => by have h1 : some w.heap.size = some x.block := h; have h2 := Option.some.inj h1; have := ld x hx; omega)); clear hk3) | (refine append_ow rfl (.tmp 22) (.tmp 23) rfl w.heap.size _ _ rfl ho3 _ _ _ _ rfl bd3 (by rw [List.length_append, List.length_singleton]; omega) (Nat.le_trans hs3 (hb3.size)) ?_; intro v4 w4 ho4 hb4))
    go_ret
    refine ⟨_, rfl, ?_, (hb0.trans hb3).trans hb4⟩
    rw [putT, bodyT, HB.out, if_pos (decide_eq_true hlt), HL.out]
    rw [List.append_assoc] at ho4
    exact ho4
  · have hlti : ¬ (D : Int) < (F : Int) := by omega
    have b1 := BV.one1 w2 0 (by omega) (by omega)
    replace ho0 := ho0.alloc (.cells #[.int .u8 0] 5)
    replace bf := bf.alloc (.cells #[.int .u8 0] 5)
    replace hb0 := hb0.alloc hb0.size (.cells #[.int .u8 0] 5)
    have hs3 := hb0.size
    go_wp2_with (at_builtin; first | (refine append_ow2 rfl (.tmp 25) (.tmp 26) rfl w.heap.size _ _ rfl ho0 _ 1 1 _ rfl b1 (by omega) hs3 ?_; intro v3 w3 ho3 hb3 _ hk3; have bf3 := bf.other (fun x hx hlt => hk3 x.block hlt (fun h => by have h1 : some w.heap.size = some x.block := h; have h2 := Option.some.inj h1; have := lf x hx; omega)); clear hk3) | (refine append_ow rfl (.tmp 28) (.tmp 29) rfl w.heap.size _ _ rfl ho3 _ _ _ _ rfl bf3 (by rw [List.length_append, List.length_singleton]; omega) (Nat.le_trans hs3 (hb3.size)) ?_; intro v4 w4 ho4 hb4))
    go_ret
    refine ⟨_, rfl, ?_, (hb0.trans hb3).trans hb4⟩
    rw [putT, bodyT, HB.out, if_neg (by simpa using hlt), HL.out]
    rw [List.append_assoc] at ho4
    exact ho4
end Go.Proofs.Ytmoppmifhhnolaa
