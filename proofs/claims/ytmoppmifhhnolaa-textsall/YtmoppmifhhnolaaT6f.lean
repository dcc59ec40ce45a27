/- The document's own answers for layer 6: Dict, Put. -/
import Derived.Test.YtmoppmifhhnolaaT6e
namespace Go.Proofs.Ytmoppmifhhnolaa
open Go.ChangeShapes Go.WideShapes Go.ChangeAt Go.RowKit
set_option linter.unusedVariables false

set_option maxHeartbeats 2000000 in
theorem rdict6_any (A : Option Addr) (N C : Nat) (l : List ByteArray) (w : World) (hv : TV w A N l) (hr : Sm l) (hN : N ≤ 2000) :
    Calls Try.prog 17 #[.slice A N C] w fun e w' => ∃ v, e = .returned v ∧ OW w' w.heap.size v (dictL l) ∧ Below w.heap.size w w' := by
  have hl := Lib.hid (TV.len hv)
  have o0 : OS 1 ((w.alloc (.cells #[] 9)).alloc (.cells #[] 5)) w.heap.size (.slice (some ⟨w.heap.size, 0, none⟩) 0 0) 0 (tcells []) := (OS.lit (k := 1) w w.heap.size (Nat.le_refl _) [] 0 9 rfl (by simp) (by unfold maxLen; omega) _ rfl).alloc _
  have p0 : OW ((w.alloc (.cells #[] 9)).alloc (.cells #[] 5)) w.heap.size (.slice (some ⟨w.heap.size + 1, 0, none⟩) 0 0) [] := OW.empty (w.alloc (.cells #[] 9)) w.heap.size (by simp) _ (by simp)
  have hb0 : Below w.heap.size w ((w.alloc (.cells #[] 9)).alloc (.cells #[] 5)) := Joins.below_alloc2 _ _ _
  go_enter Try.func17, Try.ntmps17
  go_wp2_with fail
  generalize ((w.alloc (.cells #[] 9)).alloc (.cells #[] 5)) = w0 at *
  go_loopw [3, 4, 5] (fun v vt i wr => ∃ (j : Nat) (bs : List Int) (ws : List ByteArray), j ≤ N ∧ i = .int .i64 (j : Int) ∧ Hid (ws = words (l.take j)) ∧ Hid (bs = joinN (placesL (l.take j))) ∧ bs.length ≤ 10 * j ∧ ws.length ≤ j ∧ OW wr w.heap.size vt bs ∧ OS 1 wr w.heap.size v ws.length (tcells ws) ∧ (∀ g, v.ownBlock = some g → vt.ownBlock ≠ some g) ∧ Below w.heap.size w wr) (fun _ _ i _ => N - (intOf i).toNat)
  case atStart => exact ⟨0, [], [], by omega, rfl, Lib.hid rfl, Lib.hid rfl, by simp, by simp, p0, o0, (fun g h h2 => by have h1 := Option.some.inj (show some w.heap.size = some g from h); have h3 := Option.some.inj (show some (w.heap.size + 1) = some g from h2); omega), hb0⟩
  case round =>
    clear o0 p0 hb0
    obtain ⟨j, bs, ws, hj, rfl, HW, HB, hbl, hwl, ho, hd, hdis, hbel⟩ := hrel
    have HD := Lib.hid hdis
    clear hdis
    by_cases hlt : j < N
    · obtain ⟨b, off, rfl, hcl⟩ := TV.at hv j hlt
      have hcl' := keepc hcl hbel
      have hx := hr.at j
      have HS := Lib.hid (take_snocT l j (by rw [hl.out]; exact hlt))
      generalize l.getD j ⟨#[]⟩ = x at hcl' hx HS
      clear hcl
      have hji : (j : Int) < (N : Int) := by omega
      have hpl := place_le ws x
      obtain ⟨au, cu, rfl, hcu, -, tu, -, -⟩ := hd.sv
      go_wp2_with fail
      refine (rplace6_any au ws.length cu ws x _ tu (by omega)).mono ?_
      rintro e w' ⟨rfl, rfl⟩
      clear tu
      by_cases ht : thereB ws x = true
      · have HA : Hid (addW ws x = ws) := Lib.hid (by rw [addW, if_pos ht])
        rw [placeR, if_pos ht]
        obtain ⟨u, hu⟩ : ∃ u : Nat, placeB ws x = u := ⟨_, rfl⟩
        have HU := Lib.hid hu
        rw [hu] at hpl
        rw [hu]
        have hd1 : OS 1 w' w.heap.size (.slice au ws.length cu) (addW ws x).length (tcells (addW ws x)) := by rw [HA.out]; exact hd
        have HD1 := HD
        have ho1 := ho
        clear hu ht hd HD ho
        have hui : ¬ (u : Int) < 0 := by omega
        have hwu : IntKind.u64.wrap (u : Int) = (u : Int) := u64_same (by omega) (by omega)
        go_wp2_with fail
        have hlp := pv_len10 (x := (u : Int)) (by omega)
        have hsz := hbel.size
        refine (rputvar_any (u : Int) _ (by omega) (by omega)).mono ?_
        rintro e w5 ⟨v5, rfl, ob, hb5⟩
        obtain ⟨a5, c5, rfl, -, bv5, -⟩ := ob.bvn (pv_bytes (by omega)) _ rfl
        have ho5 := ho1.below hb5
        have hd5 := hd1.below hb5
        replace hbel := Below.then hbel hb5
        have hs5 := hbel.size
        clear ob
        go_wp2_with (at_builtin; refine append_ow2 rfl (.tmp 32) (.tmp 35) rfl w.heap.size _ bs rfl ho5 _ _ _ _ rfl bv5 (by omega) (by omega) ?_; intro v3 w3 ho3 hb3 ob3 hk3; have HK : Hid (∀ b, b < w5.heap.size → u4.ownBlock ≠ some b → w3.heap[b]? = w5.heap[b]?) := Lib.hid hk3; have HO : Hid (v3.ownBlock = u4.ownBlock ∨ v3.ownBlock = some w5.heap.size) := Lib.hid ob3; clear hk3 ob3)
        go_roundw
        case rel =>
          refine ⟨j + 1, _, addW ws x, by omega, by go_num, Lib.hid (by rw [HS.out, words_snoc, HW.out]), Lib.hid (by rw [HS.out, places_snoc, joinN_snoc, ← HB.out, ← HW.out, HU.out]), by rw [List.length_append]; omega, Nat.le_trans (addW_len ws x) (by omega), ho3, ?_, ?_, hbel.trans hb3⟩
          · refine hd5.same (fun g hg hlt => ?_)
            exact HK.out g hlt (HD1.out g hg)
          · intro g hg he
            rcases HO.out with h | h
            · exact HD1.out g hg (by rw [← h]; exact he)
            · rw [h] at he
              have := (hd5.ownLow hg).2
              cases he
              omega
        case measure => simp [intOf]; omega
      · have HA : Hid (addW ws x = ws ++ [x]) := Lib.hid (by rw [addW, if_neg ht])
        have HU : Hid (placeB ws x = ws.length) := Lib.hid (place_not (fun h => ht (there_iff.2 h)))
        rw [placeR, if_neg ht]
        have hbel0 := hbel
        have hone : SV 1 (w'.alloc (.cells #[.string x] 9)) (some ⟨w'.heap.size, 0, none⟩) 1 (tcells [x]) := SV.lit (k := 1) w' (tcells [x]) 1 9 rfl (tcells_one _)
        have hd2 := hd.alloc (.cells #[.string x] 9)
        have ho2 := ho.alloc (.cells #[.string x] 9)
        have hb2 := hbel.alloc hbel.size (.cells #[.string x] 9)
        have hs2 := hb2.size
        have HL2 : Hid (∀ g, u4.ownBlock = some g → g < (w'.alloc (.cells #[.string x] 9)).heap.size) := Lib.hid (fun g hg => (ho2.ownLow hg).2)
        clear ht hd ho hbel hpl
        go_wp2_with (at_builtin; first | (refine append_os2 el_texts rfl (.tmp 25) (.tmp 30) rfl w.heap.size _ ws.length (tcells ws) rfl hd2 _ 1 1 _ rfl hone (by omega) (by omega) hs2 ?_; intro v6 w6 ho6 hb6 ob6 hk6; have HK6 : Hid (∀ b, b < (w'.alloc (.cells #[.string x] 9)).heap.size → (Value.slice au ws.length cu).ownBlock ≠ some b → w6.heap[b]? = (w'.alloc (.cells #[.string x] 9)).heap[b]?) := Lib.hid hk6; have HO6 : Hid (v6.ownBlock = (Value.slice au ws.length cu).ownBlock ∨ v6.ownBlock = some (w'.alloc (.cells #[.string x] 9)).heap.size) := Lib.hid ob6; clear hk6 ob6) | fail)
        have ho1 : OW w6 w.heap.size u4 bs := ho2.same (fun g hg hlt => HK6.out g hlt (fun e => HD.out g e hg))
        have HD1 : Hid (∀ g, v6.ownBlock = some g → u4.ownBlock ≠ some g) := Lib.hid (fun g h1 h2 => by
          rcases HO6.out with h | h
          · exact HD.out g (by rw [← h]; exact h1) h2
          · have := HL2.out g h2
            rw [h] at h1; have := Option.some.inj h1; omega)
        have hd1 : OS 1 w6 w.heap.size v6 (addW ws x).length (tcells (addW ws x)) := by
          rw [HA.out, List.length_append, List.length_singleton, tcells_app]; exact ho6
        have hbel := hb2.trans hb6
        clear hb2 hb6 ho2 ho6 hd2 hone HK6 HO6 HL2 HD hbel0 hs2
        have hlp := pv_len10 (x := (ws.length : Int)) (by omega)
        have hsz := hbel.size
        refine (rputvar_any (ws.length : Int) _ (by omega) (by omega)).mono ?_
        rintro e w5 ⟨v5, rfl, ob, hb5⟩
        obtain ⟨a5, c5, rfl, -, bv5, -⟩ := ob.bvn (pv_bytes (by omega)) _ rfl
        have ho5 := ho1.below hb5
        have hd5 := hd1.below hb5
        replace hbel := Below.then hbel hb5
        have hs5 := hbel.size
        clear ob
        go_wp2_with (at_builtin; refine append_ow2 rfl (.tmp 32) (.tmp 35) rfl w.heap.size _ bs rfl ho5 _ _ _ _ rfl bv5 (by omega) (by omega) ?_; intro v3 w3 ho3 hb3 ob3 hk3; have HK : Hid (∀ b, b < w5.heap.size → u4.ownBlock ≠ some b → w3.heap[b]? = w5.heap[b]?) := Lib.hid hk3; have HO : Hid (v3.ownBlock = u4.ownBlock ∨ v3.ownBlock = some w5.heap.size) := Lib.hid ob3; clear hk3 ob3)
        go_roundw
        case rel =>
          refine ⟨j + 1, _, addW ws x, by omega, by go_num, Lib.hid (by rw [HS.out, words_snoc, HW.out]), Lib.hid (by rw [HS.out, places_snoc, joinN_snoc, ← HB.out, ← HW.out, HU.out]), by rw [List.length_append]; omega, Nat.le_trans (addW_len ws x) (by omega), ho3, ?_, ?_, hbel.trans hb3⟩
          · refine hd5.same (fun g hg hlt => ?_)
            exact HK.out g hlt (HD1.out g hg)
          · intro g hg he
            rcases HO.out with h | h
            · exact HD1.out g hg (by rw [← h]; exact he)
            · rw [h] at he
              have := (hd5.ownLow hg).2
              cases he
              omega
        case measure => simp [intOf]; omega
    · obtain rfl : j = N := by omega
      have HB' : Hid (bs = joinN (placesL l)) := Lib.hid (by rw [HB.out, ← hl.out, List.take_length])
      have HW' : Hid (ws = words l) := Lib.hid (by rw [HW.out, ← hl.out, List.take_length])
      have hsm : Sm ws := by rw [HW'.out]; exact words_sm hr
      have hel := eachL_len210 hsm
      have hjb : ∀ z ∈ bs, 0 ≤ z ∧ z ≤ 255 := by rw [HB'.out]; exact joinN_bytes (places_u64 (by rw [hl.out]; omega))
      have hji : ¬ (j : Int) < (j : Int) := by omega
      have HT : Hid (∀ g, u4.ownBlock = some g → g < wr.heap.size) := Lib.hid (fun g hg => (ho.ownLow hg).2)
      obtain ⟨at', ct, rfl, hct, -, bt, lt⟩ := ho.bvn hjb _ rfl
      obtain ⟨au, cu, rfl, hcu, -, tu, -, -⟩ := hd.sv
      obtain ⟨n, hn⟩ : ∃ n, ws.length = n := ⟨_, rfl⟩
      rw [hn] at tu hwl hel
      have HN := Lib.hid hn
      have hwu : IntKind.u64.wrap (n : Int) = (n : Int) := u64_same (by omega) (by omega)
      have hlp := pv_len10 (x := (n : Int)) (by omega)
      have hsz := hbel.size
      have HTB : Hid (∀ x, at' = some x → x.block < wr.heap.size ∨ bs.length = 0) := Lib.hid (fun x hx => by
        rcases bt.2.2 with h | ⟨b, off, h, hc⟩
        · exact .inr h
        · by_cases h0 : bs.length = 0
          · exact .inr h0
          · rw [h] at hx; cases hx
            exact .inl (cell_lt (hc 0 (by omega))))
      clear hd HD
      rw [hn]
      clear hn
      go_wp2_with fail
      refine (rputvar_any (n : Int) _ (by omega) (by omega)).mono ?_
      rintro e w1 ⟨v1, rfl, ob, hb1⟩
      have ho1 := ob.ow
      have HN1 : Hid (∀ g, v1.ownBlock = some g → wr.heap.size ≤ g) := Lib.hid (fun g hg => (ho1.ownLow hg).1)
      have tu1 := tu.below hb1
      have bt1 := bt.below hb1
      have hbel1 := Below.then hbel hb1
      clear ob tu bt
      go_wp2_with fail
      refine (reach6_any au n cu ws _ tu1 hsm (by omega)).mono ?_
      rintro e w2 ⟨ve, rfl, oe, hb2⟩
      obtain ⟨ae, ce, rfl, -, -, be, -⟩ := oe.bvn (eachL_bytes ws) _ rfl
      have ho2 := (ho1.below hb2).mono (base' := w.heap.size) hsz
      have bt2 := bt1.below hb2
      have hbel2 := Below.then hbel1 hb2
      have hs2 := hbel2.size
      clear oe tu1 bt1 ho1
      go_wp2_with (at_builtin; first | (refine append_ow2 rfl (.tmp 40) (.tmp 42) rfl w.heap.size _ _ rfl ho2 _ _ ce _ rfl be (by omega) hs2 ?_; intro v3 w3 ho3 hb3 _ hk3; have bt3 : BV w3 at' bs.length bs := bt2.otherN (fun x hx h0 hlt => hk3 x.block hlt (fun h => by have := HN1.out _ h; rcases HTB.out x hx with h | h <;> omega)); clear hk3) | (refine append_ow rfl (.tmp 43) (.tmp 44) rfl w.heap.size _ _ rfl ho3 _ _ ct _ rfl bt3 (by rw [List.length_append]; omega) (Nat.le_trans hs2 (hb3.size)) ?_; intro v4 w4 ho4 hb4))
      go_ret
      refine ⟨_, rfl, ?_, (hbel2.trans hb3).trans hb4⟩
      rw [dictL, ← HW'.out, ← HB'.out, HN.out, ← List.append_assoc]
      exact ho4
set_option maxHeartbeats 1000000 in
theorem rputT_any (A : Option Addr) (N C : Nat) (l : List ByteArray) (w : World) (hv : TV w A N l) (hr : Sm l) (hN : N ≤ 2000) :
    Calls Try.prog 19 #[.slice A N C] w fun e w' => ∃ v, e = .returned v ∧ OW w' w.heap.size v (putT l) ∧ Below w.heap.size w w' := by
  have hl := TV.len hv
  have HL := Lib.hid hl
  have hwu : IntKind.u64.wrap (N : Int) = (N : Int) := u64_same (by omega) (by omega)
  have hlp := pv_len10 (x := (N : Int)) (by omega)
  have hlf := eachL_len210 hr
  have hld := dictL_len hr (by omega)
  rw [hl] at hlf
  obtain ⟨D, hD⟩ : ∃ D, (dictL l).length = D := ⟨_, rfl⟩
  obtain ⟨F, hF⟩ : ∃ F, (eachL l).length = F := ⟨_, rfl⟩
  have HD := Lib.hid hD
  have HF := Lib.hid hF
  have HB : Hid (shortT l = decide (D < F)) := Lib.hid (by rw [shortT, hD, hF])
  have HDB := Lib.hid (dictL_bytes (l := l) (by omega))
  rw [hD] at hld
  rw [hF] at hlf
  clear hl hD hF
  go_enter Try.func19, Try.ntmps19
  go_wp2_with fail
  refine (rputvar_any (N : Int) _ (by omega) (by omega)).mono ?_
  rintro e w0 ⟨v0, rfl, ob0, hb0⟩
  have HK0 : Hid (∀ k, v0.ownBlock = some k → k < w0.heap.size) := Lib.hid (fun k hk => (World.ownsRow.lt ob0 k hk).2)
  have ho0 := ob0.ow
  have hv0 := hv.below hb0
  clear ob0
  go_wp2_with fail
  refine (rdict6_any A N C l _ hv0 hr hN).mono ?_
  rintro e w1 ⟨vd, rfl, od1, hb1⟩
  obtain ⟨ad, cd, rfl, hcd, -, bd, ld⟩ := od1.bvn HDB.out D HD.out
  have hs1 := hb1.size
  replace ho0 := ho0.below hb1
  replace hv0 := hv0.below hb1
  replace hb0 := Below.then hb0 hb1
  clear od1 hb1
  go_wp2_with fail
  refine (reach6_any A N C l _ hv0 hr hN).mono ?_
  rintro e w2 ⟨vf, rfl, of1, hb2⟩
  obtain ⟨af, cf, rfl, hcf, -, bf, lf⟩ := of1.bvn (eachL_bytes l) F HF.out
  have hs2 := hb2.size
  replace ho0 := ho0.below hb2
  replace bd := bd.below hb2
  replace hb0 := Below.then hb0 hb2
  clear of1 hb2 hv0
  by_cases hlt : D < F
  · have hlti : (D : Int) < (F : Int) := by omega
    have b1 := BV.one1 w2 1 (by omega) (by omega)
    replace ho0 := ho0.alloc (.cells #[.int .u8 1] 5)
    replace bd := bd.alloc (.cells #[.int .u8 1] 5)
    replace hb0 := hb0.alloc hb0.size (.cells #[.int .u8 1] 5)
    have hs3 := hb0.size
    go_wp2_with (at_builtin; first | (refine append_ow2 rfl (.tmp 19) (.tmp 20) rfl w.heap.size _ _ rfl ho0 _ 1 1 _ rfl b1 (by omega) hs3 ?_; intro v3 w3 ho3 hb3 _ hk3; have bd3 := bd.other (fun x hx hlt => hk3 x.block hlt (fun h => by have := HK0.out _ h; have := ld x hx; omega)); clear hk3) | (refine append_ow rfl (.tmp 21) (.tmp 22) rfl w.heap.size _ _ rfl ho3 _ _ _ _ rfl bd3 (by rw [List.length_append, List.length_singleton]; omega) (Nat.le_trans hs3 (hb3.size)) ?_; intro v4 w4 ho4 hb4))
    go_ret
    refine ⟨_, rfl, ?_, (hb0.trans hb3).trans hb4⟩
    rw [putT, bodyT, HB.out, if_pos (decide_eq_true hlt), HL.out]
    rw [List.append_assoc] at ho4
    exact ho4
  · have hlti : ¬ (D : Int) < (F : Int) := by omega
    have b1 := BV.one1 w2 0 (by omega) (by omega)
    replace ho0 := ho0.alloc (.cells #[.int .u8 0] 5)
    replace bf := bf.alloc (.cells #[.int .u8 0] 5)
    replace hb0 := hb0.alloc hb0.size (.cells #[.int .u8 0] 5)
    have hs3 := hb0.size
    go_wp2_with (at_builtin; first | (refine append_ow2 rfl (.tmp 24) (.tmp 25) rfl w.heap.size _ _ rfl ho0 _ 1 1 _ rfl b1 (by omega) hs3 ?_; intro v3 w3 ho3 hb3 _ hk3; have bf3 := bf.other (fun x hx hlt => hk3 x.block hlt (fun h => by have := HK0.out _ h; have := lf x hx; omega)); clear hk3) | (refine append_ow rfl (.tmp 26) (.tmp 27) rfl w.heap.size _ _ rfl ho3 _ _ _ _ rfl bf3 (by rw [List.length_append, List.length_singleton]; omega) (Nat.le_trans hs3 (hb3.size)) ?_; intro v4 w4 ho4 hb4))
    go_ret
    refine ⟨_, rfl, ?_, (hb0.trans hb3).trans hb4⟩
    rw [putT, bodyT, HB.out, if_neg (by simpa using hlt), HL.out]
    rw [List.append_assoc] at ho4
    exact ho4
end Go.Proofs.Ytmoppmifhhnolaa
