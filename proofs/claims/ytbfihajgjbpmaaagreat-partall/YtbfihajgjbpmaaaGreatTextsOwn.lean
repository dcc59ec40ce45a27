/- Texts that belong together, one behind the other: T6e, T6f, T6g, T6h, T6i. -/
import Derived.Test.YtbfihajgjbpmaaaGreatTexts
import Derived.Test.YtbfihajgjbpmaaaGreatOwn
import Derived.Test.YtbfihajgjbpmaaaGreatBase
/- The document's own answers for layer 6: Each, place, Dict, Put. -/
namespace Go.Proofs.YtbfihajgjbpmaaaGreat
open Go.ChangeShapes Go.WideShapes Go.ChangeAt Go.RowKit
set_option linter.unusedVariables false
set_option maxRecDepth 4000

set_option maxHeartbeats 2000000 in
theorem reach6_any (A : Option Addr) (N C : Nat) (l : List ByteArray) (w : World) (hv : TV w A N l) (hr : Sm l) (hN : N ≤ 2000) :
    Calls Tryz.prog 92 #[.slice A N C] w fun e w' => ∃ v, e = .returned v ∧ OW w' w.heap.size v (eachL l) ∧ Below w.heap.size w w' := by
  have hl := Lib.hid (TV.len hv)
  go_enter Tryz.func92, Tryz.ntmps92
  go_wp2_with fail
  go_loopw [3, 4] (fun v i wr => ∃ (j : Nat) (bs : List Int), j ≤ N ∧ i = .int .i64 (j : Int) ∧ Hid (bs = eachL (l.take j)) ∧ bs.length ≤ 210 * j ∧ OW wr w.heap.size v bs ∧ Below w.heap.size w wr) (fun _ i _ => N - (intOf i).toNat)
  case atStart => exact ⟨0, [], by omega, rfl, Lib.hid rfl, by simp, OW.empty w w.heap.size (Nat.le_refl _) _ rfl, Joins.below_alloc1 _ _⟩
  case round =>
    obtain ⟨j, bs, hj, rfl, HB, hbl, ho, hbel⟩ := hrel
    by_cases hlt : j < N
    · obtain ⟨b, off, rfl, hcl⟩ := TV.at hv j hlt
      have hcl' := keepc hcl hbel
      have hx := hr.at j
      have HS := Lib.hid (take_snocT l j (by rw [hl.out]; exact hlt))
      generalize l.getD j ⟨#[]⟩ = x at hcl hcl' hx HS
      have hji : (j : Int) < (N : Int) := by omega
      obtain ⟨u, hu⟩ : ∃ u : Nat, x.size = u := ⟨_, rfl⟩
      have HU := Lib.hid hu
      rw [hu] at hx
      have hwu : IntKind.u64.wrap (u : Int) = (u : Int) := u64_same (by omega) (by omega)
      have hlp := pv_len10 (x := (u : Int)) (by omega)
      have hsz := hbel.size
      go_wp2_with fail
      refine wp_region_noPanic ?_
      refine region_g 13 (fun wq => wq.cell? ⟨b, off + j, none⟩ = some (.string x)) (by kernel_rfl) (hcl') (fun hS => ?_)
      refine take_w (i := 0) (v := ?_) (some 12) rfl (by kernel_rfl) rfl (fun _ _ _ h => h) (Or.inl ⟨by rfl, ?_⟩) hS ?_
      rotate_left
      · (intro wq hq; go_simp); first | done | with_reducible rfl
      try simp only [Act.put, List.setIfInBounds_toArray, List.set_cons_zero, List.set_cons_succ]
      replace hS := Till.list 0 hS
      refine take_w (i := 1) (v := ?_) (some 13) rfl (by kernel_rfl) rfl (fun _ _ _ h => h) (Or.inl ⟨by rfl, ?_⟩) hS ?_
      rotate_left
      · (intro wq hq; go_simp); first | done | with_reducible rfl
      try simp only [Act.put, List.setIfInBounds_toArray, List.set_cons_zero, List.set_cons_succ]
      replace hS := Till.list 1 hS
      refine take_w (i := 2) (v := ?_) (some 14) rfl (by kernel_rfl) rfl (fun _ _ _ h => h) (Or.inl ⟨by rfl, ?_⟩) hS ?_
      rotate_left
      · (intro wq hq; go_simp); first | done | with_reducible rfl
      try simp only [Act.put, List.setIfInBounds_toArray, List.set_cons_zero, List.set_cons_succ]
      replace hS := Till.list 2 hS
      refine take_w (i := 9) (v := ?_) (some 21) rfl (by kernel_rfl) rfl (fun _ _ _ h => h) (Or.inl ⟨by rfl, ?_⟩) hS ?_
      rotate_left
      · (intro wq hq; go_simp); first | done | with_reducible rfl
      try simp only [Act.put, List.setIfInBounds_toArray, List.set_cons_zero, List.set_cons_succ]
      replace hS := Till.list 9 hS
      refine take_w (i := 10) (v := ?_) (some 22) rfl (by kernel_rfl) rfl (fun _ _ _ h => h) (Or.inl ⟨by rfl, ?_⟩) hS ?_
      rotate_left
      · (intro wq hq; go_simp); first | done | with_reducible rfl
      try simp only [Act.put, List.setIfInBounds_toArray, List.set_cons_zero, List.set_cons_succ]
      replace hS := Till.list 10 hS
      refine take_w (i := 3) (v := ?_) (some 15) rfl (by kernel_rfl) rfl (fun _ _ _ h => h) (Or.inl ⟨by rfl, ?_⟩) hS ?_
      rotate_left
      · (intro wq hq; go_simp); first | done | with_reducible rfl
      try simp only [Act.put, List.setIfInBounds_toArray, List.set_cons_zero, List.set_cons_succ]
      replace hS := Till.list 3 hS
      refine take_w (i := 11) (v := ?_) (some 23) rfl (by kernel_rfl) rfl (fun _ _ _ h => h) (Or.inl ⟨by rfl, ?_⟩) hS ?_
      rotate_left
      · (intro wq hq; go_simp); first | done | with_reducible rfl
      try simp only [Act.put, List.setIfInBounds_toArray, List.set_cons_zero, List.set_cons_succ]
      replace hS := Till.list 11 hS
      refine take_g (i := 4) (v := ?_) [8, 7, 6, 5, 4] (some 16) rfl (by kernel_rfl) rfl (fun _ _ _ h => h) (Or.inl ⟨by rfl, ?_⟩) hS ?_
      rotate_left
      · (intro wq hq; skip; go_simp); first | done | with_reducible rfl
      try simp only [Act.put, List.setIfInBounds_toArray, List.set_cons_zero, List.set_cons_succ]
      replace hS := Till.list 4 hS
      refine take_g (i := 12) (v := ?_) [12] (some 24) rfl (by kernel_rfl) rfl (fun _ _ _ h => h) (Or.inl ⟨by rfl, ?_⟩) hS ?_
      rotate_left
      · (intro wq hq; skip; go_simp); first | done | with_reducible rfl
      try simp only [Act.put, List.setIfInBounds_toArray, List.set_cons_zero, List.set_cons_succ]
      replace hS := Till.list 12 hS
      refine take_w (i := 5) (v := ?_) (some 17) rfl (by kernel_rfl) rfl (fun _ _ _ h => h) (Or.inl ⟨by rfl, ?_⟩) hS ?_
      rotate_left
      · (intro wq hq; go_simp); first | done | with_reducible rfl
      try simp only [Act.put, List.setIfInBounds_toArray, List.set_cons_zero, List.set_cons_succ]
      replace hS := Till.list 5 hS
      refine take_w (i := 6) (v := ?_) (some 18) rfl (by kernel_rfl) rfl (fun _ _ _ h => h) (Or.inl ⟨by rfl, ?_⟩) hS ?_
      rotate_left
      · (intro wq hq; go_simp); first | done | with_reducible rfl
      try simp only [Act.put, List.setIfInBounds_toArray, List.set_cons_zero, List.set_cons_succ]
      replace hS := Till.list 6 hS
      refine ready_g (rs := [7]) (by kernel_rfl) (by simp) ?_
      refine AllReadyG.cons rfl (fun Kont hK => ?_) AllReadyG.nil
      go_simp
      refine (rputvar_any (u : Int) _ (by omega) (by omega)).mono ?_
      clear hu
      rintro e w1 ⟨v1, rfl, ob, hb1⟩
      obtain ⟨a1, c1, rfl, -, bv1, -⟩ := ob.bvn (pv_bytes (by omega)) _ rfl
      have ho1 := ho.drew.below hb1
      have hw1 := Below.then hbel.drew hb1
      have hs1 := hw1.size
      clear ho hbel hb1 ob
      refine hK.out _ _ (Or.inr (keepc hcl hw1)) (fun hS0 => ?_)
      clear hK Kont
      try simp only [Act.put, List.setIfInBounds_toArray, List.set_cons_zero, List.set_cons_succ]
      clear hS
      have hS := hS0
      clear hS0
      refine ready_g (rs := [8]) (by kernel_rfl) (by simp) ?_
      refine AllReadyG.cons rfl (fun Kont hK => ?_) AllReadyG.nil
      refine want (by kernel_rfl) ?_
      refine wp_append_ow (some 20) rfl (.tmp 12) (.tmp 19) rfl w.heap.size _ bs rfl ho1 _ _ _ _ rfl bv1 (by omega) hs1 ?_
      intro v2 w2 ho2 hb2
      have hw2 := hw1.trans hb2
      refine hK.out _ _ (Or.inr (keepc hcl hw2)) (fun hS0 => ?_)
      clear hK Kont
      try simp only [Act.put, List.setIfInBounds_toArray, List.set_cons_zero, List.set_cons_succ]
      clear hS
      have hS := hS0
      clear hS0
      refine ready_g (rs := [13]) (by kernel_rfl) (by simp) ?_
      refine AllReadyG.cons rfl (fun Kont hK => ?_) AllReadyG.nil
      refine want (by kernel_rfl) ?_
      refine wp_append_str (some 25) rfl (.tmp 20) (.tmp 24) rfl w.heap.size _ _ rfl ho2 x rfl (by rw [List.length_append, HU.out]; omega) (Nat.le_trans hs1 hb2.size) ?_
      intro v3 w3 ho3 hb3 _ _
      refine hK.out _ _ (Or.inl (by kernel_rfl)) (fun hS0 => ?_)
      clear hK Kont
      try simp only [Act.put, List.setIfInBounds_toArray, List.set_cons_zero, List.set_cons_succ]
      clear hS
      have hS := hS0
      clear hS0
      refine take_w (i := 14) (v := ?_) (some 3) rfl (by kernel_rfl) rfl (fun _ _ _ h => h) (Or.inl ⟨by rfl, ?_⟩) hS ?_
      rotate_left
      · (intro wq hq; go_simp); first | done | with_reducible rfl
      try simp only [Act.put, List.setIfInBounds_toArray, List.set_cons_zero, List.set_cons_succ]
      replace hS := Till.list 14 hS
      refine done_g (by kernel_rfl) (NoPanic.normal ?_) _
      clear hS
      go_wp2_with fail
      go_roundw
      case rel => exact ⟨j + 1, _, by omega, by go_num, Lib.hid (by rw [HS.out, eachL_snoc, ← HB.out, HU.out, List.append_assoc]), by rw [List.length_append, List.length_append, nums_len, HU.out]; omega, ho3, hw2.trans hb3⟩
      case measure => simp [intOf]; omega
    · obtain rfl : j = N := by omega
      have HB' : Hid (bs = eachL l) := Lib.hid (by rw [HB.out, ← hl.out, List.take_length])
      go_wp2_with fail
      go_ret
      exact ⟨_, rfl, by rw [← HB'.out]; exact ho, hbel⟩
theorem place_first : ∀ {ws : List ByteArray} {s : ByteArray} {j : Nat}, j < ws.length → ws.getD j ⟨#[]⟩ = s → (∀ i, i < j → ws.getD i ⟨#[]⟩ ≠ s) → placeB ws s = j
  | [], s, j, hj, _, _ => by simp at hj
  | x :: ws, s, 0, hj, he, _ => by
    have : x = s := by simpa [List.getD] using he
    rw [placeB, if_pos this]
  | x :: ws, s, j + 1, hj, he, hn => by
    have h0 : x ≠ s := by have := hn 0 (by omega); simpa [List.getD] using this
    rw [placeB, if_neg h0, place_first (ws := ws) (s := s) (j := j) (by simpa using hj) (by simpa [List.getD] using he) (fun i hi => by have := hn (i + 1) (by omega); simpa [List.getD] using this)]
theorem getD_mem6 {ws : List ByteArray} {j : Nat} (hj : j < ws.length) : ws.getD j ⟨#[]⟩ ∈ ws := by
  have : ws.getD j ⟨#[]⟩ = ws[j] := by simp [List.getD, hj]
  rw [this]; exact List.getElem_mem hj
theorem there_none {ws : List ByteArray} {s : ByteArray} (h : ∀ i, i < ws.length → ws.getD i ⟨#[]⟩ ≠ s) : thereB ws s = false := by
  refine there_not.2 (fun hm => ?_)
  obtain ⟨i, hi, he⟩ := List.mem_iff_getElem.1 hm
  exact h i hi (by simp [List.getD, hi, he])
/-- the place that is told: -1, if the text is not there -/
def placeR (ws : List ByteArray) (s : ByteArray) : Int := if thereB ws s = true then (placeB ws s : Int) else -1
set_option maxHeartbeats 1000000 in
theorem rplace6_any (A : Option Addr) (N C : Nat) (ws : List ByteArray) (s : ByteArray) (w : World) (hv : TV w A N ws) (hN : N ≤ 2000) :
    Calls Tryz.prog 107 #[.slice A N C, .string s] w fun e w' => e = .returned (.int .i64 (placeR ws s)) ∧ w' = w := by
  have hl := Lib.hid (TV.len hv)
  go_enter Tryz.func107, Tryz.ntmps107
  go_wp2
  go_loop [5] (fun i => ∃ j : Nat, j ≤ N ∧ i = .int .i64 (j : Int) ∧ Hid (∀ i, i < j → ws.getD i ⟨#[]⟩ ≠ s)) (fun i => N - (intOf i).toNat)
  case atStart => exact ⟨0, by omega, rfl, Lib.hid (fun i hi => by omega)⟩
  case round =>
    obtain ⟨j, hj, rfl, HT⟩ := hrel
    by_cases hlt : j < N
    · obtain ⟨b, off, rfl, hc⟩ := TV.at hv j hlt
      have hji : (j : Int) < (N : Int) := by omega
      by_cases hx : ws.getD j ⟨#[]⟩ = s
      · have HR : Hid (placeR ws s = (j : Int)) := Lib.hid (by
          have hm : s ∈ ws := by rw [← hx]; exact getD_mem6 (by rw [hl.out]; exact hlt)
          rw [placeR, if_pos (there_iff.2 hm), place_first (by rw [hl.out]; exact hlt) hx HT.out])
        rw [hx] at hc
        have hss : (s.toList == s.toList) = true := by simp
        clear hx
        go_wp2
        go_ret
        exact ⟨ret_int HR.out.symm, rfl⟩
      · have HT' : Hid (∀ i, i < j + 1 → ws.getD i ⟨#[]⟩ ≠ s) := Lib.hid (fun i hi => by
          by_cases hij : i < j
          · exact HT.out i hij
          · obtain rfl : i = j := by omega
            exact hx)
        generalize ws.getD j ⟨#[]⟩ = x at hc hx
        have hne : (x.toList == s.toList) = false := by rw [beq_eq_false_iff_ne]; exact fun h => hx (toList_inj h)
        clear hx
        go_wp2
        go_round
        case rel => exact ⟨j + 1, by omega, by go_num, HT'⟩
        case measure => simp [intOf]; omega
    · obtain rfl : j = N := by omega
      have HR : Hid (placeR ws s = -1) := Lib.hid (by rw [placeR, there_none (fun i hi => HT.out i (by rw [← hl.out]; exact hi))]; rfl)
      go_wp2
      go_ret
      exact ⟨ret_int HR.out.symm, rfl⟩
end Go.Proofs.YtbfihajgjbpmaaaGreat
/- The document's own answers for layer 6: Dict, Put. -/
namespace Go.Proofs.YtbfihajgjbpmaaaGreat
open Go.ChangeShapes Go.WideShapes Go.ChangeAt Go.RowKit
set_option linter.unusedVariables false
set_option maxRecDepth 4000

set_option maxHeartbeats 2000000 in
theorem rdict6_any (A : Option Addr) (N C : Nat) (l : List ByteArray) (w : World) (hv : TV w A N l) (hr : Sm l) (hN : N ≤ 2000) :
    Calls Tryz.prog 91 #[.slice A N C] w fun e w' => ∃ v, e = .returned v ∧ OW w' w.heap.size v (dictL l) ∧ Below w.heap.size w w' := by
  have hl := Lib.hid (TV.len hv)
  have o0 : OS 1 ((w.alloc (.cells #[] 9)).alloc (.cells #[] 5)) w.heap.size (.slice (some ⟨w.heap.size, 0, none⟩) 0 0) 0 (tcells []) := (OS.lit (k := 1) w w.heap.size (Nat.le_refl _) [] 0 9 rfl (by simp) (by unfold maxLen; omega) _ rfl).alloc _
  have p0 : OW ((w.alloc (.cells #[] 9)).alloc (.cells #[] 5)) w.heap.size (.slice (some ⟨w.heap.size + 1, 0, none⟩) 0 0) [] := OW.empty (w.alloc (.cells #[] 9)) w.heap.size (by simp) _ (by simp)
  have hb0 : Below w.heap.size w ((w.alloc (.cells #[] 9)).alloc (.cells #[] 5)) := Joins.below_alloc2 _ _ _
  go_enter Tryz.func91, Tryz.ntmps91
  go_wp2_with fail
  generalize ((w.alloc (.cells #[] 9)).alloc (.cells #[] 5)) = w0 at *
  go_loopw [3, 4, 5] (fun v vt i wr => ∃ (j : Nat) (bs : List Int) (ws : List ByteArray), j ≤ N ∧ i = .int .i64 (j : Int) ∧ Hid (ws = words (l.take j)) ∧ Hid (bs = joinN (placesL (l.take j))) ∧ bs.length ≤ 10 * j ∧ ws.length ≤ j ∧ OW wr w.heap.size vt bs ∧ OS 1 wr w.heap.size v ws.length (tcells ws) ∧ (∀ g, v.ownBlock = some g → vt.ownBlock ≠ some g) ∧ Below w.heap.size w wr) (fun _ _ i _ => N - (intOf i).toNat)
  case atStart => exact ⟨0, [], [], by omega, rfl, Lib.hid rfl, Lib.hid rfl, by simp, by simp, p0, o0, (fun g h h2 => by have h1 := Option.some.inj (show some w.heap.size = some g from h); have h3 := Option.some.inj (show some (w.heap.size + 1) = some g from h2); omega), hb0⟩
  case round =>
    clear o0 p0 hb0
    obtain ⟨j, bs, ws, hj, rfl, HW, HB, hbl, hwl, ho, hd, hdis, hbel⟩ := hrel
    have HD := Lib.hid hdis
    clear hdis
    by_cases hlt : j < N
    · obtain ⟨b, off, rfl, hcl⟩ := TV.at hv j hlt
      have hcl' := keepc hcl hbel
      have hx := hr.at j
      have HS := Lib.hid (take_snocT l j (by rw [hl.out]; exact hlt))
      generalize l.getD j ⟨#[]⟩ = x at hcl' hx HS
      clear hcl
      have hji : (j : Int) < (N : Int) := by omega
      have hpl := place_le ws x
      obtain ⟨au, cu, rfl, hcu, -, tu, -, -⟩ := hd.sv
      go_wp2_with fail
      refine (rplace6_any au ws.length cu ws x _ tu (by omega)).mono ?_
      rintro e w' ⟨rfl, rfl⟩
      clear tu
      by_cases ht : thereB ws x = true
      · have HA : Hid (addW ws x = ws) := Lib.hid (by rw [addW, if_pos ht])
        rw [placeR, if_pos ht]
        obtain ⟨u, hu⟩ : ∃ u : Nat, placeB ws x = u := ⟨_, rfl⟩
        have HU := Lib.hid hu
        rw [hu] at hpl
        rw [hu]
        have hd1 : OS 1 w' w.heap.size (.slice au ws.length cu) (addW ws x).length (tcells (addW ws x)) := by rw [HA.out]; exact hd
        have HD1 := HD
        have ho1 := ho
        clear hu ht hd HD ho
        have hui : ¬ (u : Int) < 0 := by omega
        have hwu : IntKind.u64.wrap (u : Int) = (u : Int) := u64_same (by omega) (by omega)
        go_wp2_with fail
        have hlp := pv_len10 (x := (u : Int)) (by omega)
        have hsz := hbel.size
        refine (rputvar_any (u : Int) _ (by omega) (by omega)).mono ?_
        rintro e w5 ⟨v5, rfl, ob, hb5⟩
        obtain ⟨a5, c5, rfl, -, bv5, -⟩ := ob.bvn (pv_bytes (by omega)) _ rfl
        have ho5 := ho1.below hb5
        have hd5 := hd1.below hb5
        replace hbel := Below.then hbel hb5
        have hs5 := hbel.size
        clear ob
        go_wp2_with (at_builtin; refine append_ow2 rfl (.tmp 32) (.tmp 35) rfl w.heap.size _ bs rfl ho5 _ _ _ _ rfl bv5 (by omega) (by omega) ?_; intro v3 w3 ho3 hb3 ob3 hk3; have HK : Hid (∀ b, b < w5.heap.size → u4.ownBlock ≠ some b → w3.heap[b]? = w5.heap[b]?) := Lib.hid hk3; have HO : Hid (v3.ownBlock = u4.ownBlock ∨ v3.ownBlock = some w5.heap.size) := Lib.hid ob3; clear hk3 ob3)
        go_roundw
        case rel =>
          refine ⟨j + 1, _, addW ws x, by omega, by go_num, Lib.hid (by rw [HS.out, words_snoc, HW.out]), Lib.hid (by rw [HS.out, places_snoc, joinN_snoc, ← HB.out, ← HW.out, HU.out]), by rw [List.length_append]; omega, Nat.le_trans (addW_len ws x) (by omega), ho3, ?_, ?_, hbel.trans hb3⟩
          · refine hd5.same (fun g hg hlt => ?_)
            exact HK.out g hlt (HD1.out g hg)
          · intro g hg he
            rcases HO.out with h | h
            · exact HD1.out g hg (by rw [← h]; exact he)
            · rw [h] at he
              have := (hd5.ownLow hg).2
              cases he
              omega
        case measure => simp [intOf]; omega
      · have HA : Hid (addW ws x = ws ++ [x]) := Lib.hid (by rw [addW, if_neg ht])
        have HU : Hid (placeB ws x = ws.length) := Lib.hid (place_not (fun h => ht (there_iff.2 h)))
        rw [placeR, if_neg ht]
        have hbel0 := hbel
        have hone : SV 1 (w'.alloc (.cells #[.string x] 9)) (some ⟨w'.heap.size, 0, none⟩) 1 (tcells [x]) := SV.lit (k := 1) w' (tcells [x]) 1 9 rfl (tcells_one _)
        have hd2 := hd.alloc (.cells #[.string x] 9)
        have ho2 := ho.alloc (.cells #[.string x] 9)
        have hb2 := hbel.alloc hbel.size (.cells #[.string x] 9)
        have hs2 := hb2.size
        have HL2 : Hid (∀ g, u4.ownBlock = some g → g < (w'.alloc (.cells #[.string x] 9)).heap.size) := Lib.hid (fun g hg => (ho2.ownLow hg).2)
        clear ht hd ho hbel hpl
        go_wp2_with (at_builtin; first | (refine append_os2 el_texts rfl (.tmp 25) (.tmp 30) rfl w.heap.size _ ws.length (tcells ws) rfl hd2 _ 1 1 _ rfl hone (by omega) (by omega) hs2 ?_; intro v6 w6 ho6 hb6 ob6 hk6; have HK6 : Hid (∀ b, b < (w'.alloc (.cells #[.string x] 9)).heap.size → (Value.slice au ws.length cu).ownBlock ≠ some b → w6.heap[b]? = (w'.alloc (.cells #[.string x] 9)).heap[b]?) := Lib.hid hk6; have HO6 : Hid (v6.ownBlock = (Value.slice au ws.length cu).ownBlock ∨ v6.ownBlock = some (w'.alloc (.cells #[.string x] 9)).heap.size) := Lib.hid ob6; clear hk6 ob6) | fail)
        have ho1 : OW w6 w.heap.size u4 bs := ho2.same (fun g hg hlt => HK6.out g hlt (fun e => HD.out g e hg))
        have HD1 : Hid (∀ g, v6.ownBlock = some g → u4.ownBlock ≠ some g) := Lib.hid (fun g h1 h2 => by
          rcases HO6.out with h | h
          · exact HD.out g (by rw [← h]; exact h1) h2
          · have := HL2.out g h2
            rw [h] at h1; have := Option.some.inj h1; omega)
        have hd1 : OS 1 w6 w.heap.size v6 (addW ws x).length (tcells (addW ws x)) := by
          rw [HA.out, List.length_append, List.length_singleton, tcells_app]; exact ho6
        have hbel := hb2.trans hb6
        clear hb2 hb6 ho2 ho6 hd2 hone HK6 HO6 HL2 HD hbel0 hs2
        have hlp := pv_len10 (x := (ws.length : Int)) (by omega)
        have hsz := hbel.size
        refine (rputvar_any (ws.length : Int) _ (by omega) (by omega)).mono ?_
        rintro e w5 ⟨v5, rfl, ob, hb5⟩
        obtain ⟨a5, c5, rfl, -, bv5, -⟩ := ob.bvn (pv_bytes (by omega)) _ rfl
        have ho5 := ho1.below hb5
        have hd5 := hd1.below hb5
        replace hbel := Below.then hbel hb5
        have hs5 := hbel.size
        clear ob
        go_wp2_with (at_builtin; refine append_ow2 rfl (.tmp 32) (.tmp 35) rfl w.heap.size _ bs rfl ho5 _ _ _ _ rfl bv5 (by omega) (by omega) ?_; intro v3 w3 ho3 hb3 ob3 hk3; have HK : Hid (∀ b, b < w5.heap.size → u4.ownBlock ≠ some b → w3.heap[b]? = w5.heap[b]?) := Lib.hid hk3; have HO : Hid (v3.ownBlock = u4.ownBlock ∨ v3.ownBlock = some w5.heap.size) := Lib.hid ob3; clear hk3 ob3)
        go_roundw
        case rel =>
          refine ⟨j + 1, _, addW ws x, by omega, by go_num, Lib.hid (by rw [HS.out, words_snoc, HW.out]), Lib.hid (by rw [HS.out, places_snoc, joinN_snoc, ← HB.out, ← HW.out, HU.out]), by rw [List.length_append]; omega, Nat.le_trans (addW_len ws x) (by omega), ho3, ?_, ?_, hbel.trans hb3⟩
          · refine hd5.same (fun g hg hlt => ?_)
            exact HK.out g hlt (HD1.out g hg)
          · intro g hg he
            rcases HO.out with h | h
            · exact HD1.out g hg (by rw [← h]; exact he)
            · rw [h] at he
              have := (hd5.ownLow hg).2
              cases he
              omega
        case measure => simp [intOf]; omega
    · obtain rfl : j = N := by omega
      have HB' : Hid (bs = joinN (placesL l)) := Lib.hid (by rw [HB.out, ← hl.out, List.take_length])
      have HW' : Hid (ws = words l) := Lib.hid (by rw [HW.out, ← hl.out, List.take_length])
      have hsm : Sm ws := by rw [HW'.out]; exact words_sm hr
      have hel := eachL_len210 hsm
      have hjb : ∀ z ∈ bs, 0 ≤ z ∧ z ≤ 255 := by rw [HB'.out]; exact joinN_bytes (places_u64 (by rw [hl.out]; omega))
      have hji : ¬ (j : Int) < (j : Int) := by omega
      have HT : Hid (∀ g, u4.ownBlock = some g → g < wr.heap.size) := Lib.hid (fun g hg => (ho.ownLow hg).2)
      obtain ⟨at', ct, rfl, hct, -, bt, lt⟩ := ho.bvn hjb _ rfl
      obtain ⟨au, cu, rfl, hcu, -, tu, -, -⟩ := hd.sv
      obtain ⟨n, hn⟩ : ∃ n, ws.length = n := ⟨_, rfl⟩
      rw [hn] at tu hwl hel
      have HN := Lib.hid hn
      have hwu : IntKind.u64.wrap (n : Int) = (n : Int) := u64_same (by omega) (by omega)
      have hlp := pv_len10 (x := (n : Int)) (by omega)
      have hsz := hbel.size
      have HTB : Hid (∀ x, at' = some x → x.block < wr.heap.size ∨ bs.length = 0) := Lib.hid (fun x hx => by
        rcases bt.2.2 with h | ⟨b, off, h, hc⟩
        · exact .inr h
        · by_cases h0 : bs.length = 0
          · exact .inr h0
          · rw [h] at hx; cases hx
            exact .inl (cell_lt (hc 0 (by omega))))
      clear hd HD
      rw [hn]
      clear hn
      go_wp2_with fail
      refine (rputvar_any (n : Int) _ (by omega) (by omega)).mono ?_
      rintro e w1 ⟨v1, rfl, ob, hb1⟩
      have ho1 := ob.ow
      have HN1 : Hid (∀ g, v1.ownBlock = some g → wr.heap.size ≤ g) := Lib.hid (fun g hg => (ho1.ownLow hg).1)
      have tu1 := tu.below hb1
      have bt1 := bt.below hb1
      have hbel1 := Below.then hbel hb1
      clear ob tu bt
      go_wp2_with fail
      refine (reach6_any au n cu ws _ tu1 hsm (by omega)).mono ?_
      rintro e w2 ⟨ve, rfl, oe, hb2⟩
      obtain ⟨ae, ce, rfl, -, -, be, -⟩ := oe.bvn (eachL_bytes ws) _ rfl
      have ho2 := (ho1.below hb2).mono (base' := w.heap.size) hsz
      have bt2 := bt1.below hb2
      have hbel2 := Below.then hbel1 hb2
      have hs2 := hbel2.size
      clear oe tu1 bt1 ho1
      go_wp2_with (at_builtin; first | (refine append_ow2 rfl (.tmp 40) (.tmp 42) rfl w.heap.size _ _ rfl ho2 _ _ ce _ rfl be (by omega) hs2 ?_; intro v3 w3 ho3 hb3 _ hk3; have bt3 : BV w3 at' bs.length bs := bt2.otherN (fun x hx h0 hlt => hk3 x.block hlt (fun h => by have := HN1.out _ h; rcases HTB.out x hx with h | h <;> omega)); clear hk3) | (refine append_ow rfl (.tmp 43) (.tmp 44) rfl w.heap.size _ _ rfl ho3 _ _ ct _ rfl bt3 (by rw [List.length_append]; omega) (Nat.le_trans hs2 (hb3.size)) ?_; intro v4 w4 ho4 hb4))
      go_ret
      refine ⟨_, rfl, ?_, (hbel2.trans hb3).trans hb4⟩
      rw [dictL, ← HW'.out, ← HB'.out, HN.out, ← List.append_assoc]
      exact ho4
set_option maxHeartbeats 1000000 in
theorem rputT_any (A : Option Addr) (N C : Nat) (l : List ByteArray) (w : World) (hv : TV w A N l) (hr : Sm l) (hN : N ≤ 2000) :
    Calls Tryz.prog 65 #[.slice A N C] w fun e w' => ∃ v, e = .returned v ∧ OW w' w.heap.size v (putT l) ∧ Below w.heap.size w w' := by
  have hl := TV.len hv
  have HL := Lib.hid hl
  have hwu : IntKind.u64.wrap (N : Int) = (N : Int) := u64_same (by omega) (by omega)
  have hlp := pv_len10 (x := (N : Int)) (by omega)
  have hlf := eachL_len210 hr
  have hld := dictL_len hr (by omega)
  rw [hl] at hlf
  obtain ⟨D, hD⟩ : ∃ D, (dictL l).length = D := ⟨_, rfl⟩
  obtain ⟨F, hF⟩ : ∃ F, (eachL l).length = F := ⟨_, rfl⟩
  have HD := Lib.hid hD
  have HF := Lib.hid hF
  have HB : Hid (shortT l = decide (D < F)) := Lib.hid (by rw [shortT, hD, hF])
  have HDB := Lib.hid (dictL_bytes (l := l) (by omega))
  rw [hD] at hld
  rw [hF] at hlf
  clear hl hD hF
  go_enter Tryz.func65, Tryz.ntmps65
  go_wp2_with fail
  refine (rputvar_any (N : Int) _ (by omega) (by omega)).mono ?_
  rintro e w0 ⟨v0, rfl, ob0, hb0⟩
  have HK0 : Hid (∀ k, v0.ownBlock = some k → k < w0.heap.size) := Lib.hid (fun k hk => (World.ownsRow.lt ob0 k hk).2)
  have ho0 := ob0.ow
  have hv0 := hv.below hb0
  clear ob0
  go_wp2_with fail
  refine (rdict6_any A N C l _ hv0 hr hN).mono ?_
  rintro e w1 ⟨vd, rfl, od1, hb1⟩
  obtain ⟨ad, cd, rfl, hcd, -, bd, ld⟩ := od1.bvn HDB.out D HD.out
  have hs1 := hb1.size
  replace ho0 := ho0.below hb1
  replace hv0 := hv0.below hb1
  replace hb0 := Below.then hb0 hb1
  clear od1 hb1
  go_wp2_with fail
  refine (reach6_any A N C l _ hv0 hr hN).mono ?_
  rintro e w2 ⟨vf, rfl, of1, hb2⟩
  obtain ⟨af, cf, rfl, hcf, -, bf, lf⟩ := of1.bvn (eachL_bytes l) F HF.out
  have hs2 := hb2.size
  replace ho0 := ho0.below hb2
  replace bd := bd.below hb2
  replace hb0 := Below.then hb0 hb2
  clear of1 hb2 hv0
  by_cases hlt : D < F
  · have hlti : (D : Int) < (F : Int) := by omega
    have b1 := BV.one1 w2 1 (by omega) (by omega)
    replace ho0 := ho0.alloc (.cells #[.int .u8 1] 5)
    replace bd := bd.alloc (.cells #[.int .u8 1] 5)
    replace hb0 := hb0.alloc hb0.size (.cells #[.int .u8 1] 5)
    have hs3 := hb0.size
    go_wp2_with (at_builtin; first | (refine append_ow2 rfl (.tmp 19) (.tmp 20) rfl w.heap.size _ _ rfl ho0 _ 1 1 _ rfl b1 (by omega) hs3 ?_; intro v3 w3 ho3 hb3 _ hk3; have bd3 := bd.other (fun x hx hlt => hk3 x.block hlt (fun h => by have := HK0.out _ h; have := ld x hx; omega)); clear hk3) | (refine append_ow rfl (.tmp 21) (.tmp 22) rfl w.heap.size _ _ rfl ho3 _ _ _ _ rfl bd3 (by rw [List.length_append, List.length_singleton]; omega) (Nat.le_trans hs3 (hb3.size)) ?_; intro v4 w4 ho4 hb4))
    go_ret
    refine ⟨_, rfl, ?_, (hb0.trans hb3).trans hb4⟩
    rw [putT, bodyT, HB.out, if_pos (decide_eq_true hlt), HL.out]
    rw [List.append_assoc] at ho4
    exact ho4
  · have hlti : ¬ (D : Int) < (F : Int) := by omega
    have b1 := BV.one1 w2 0 (by omega) (by omega)
    replace ho0 := ho0.alloc (.cells #[.int .u8 0] 5)
    replace bf := bf.alloc (.cells #[.int .u8 0] 5)
    replace hb0 := hb0.alloc hb0.size (.cells #[.int .u8 0] 5)
    have hs3 := hb0.size
    go_wp2_with (at_builtin; first | (refine append_ow2 rfl (.tmp 24) (.tmp 25) rfl w.heap.size _ _ rfl ho0 _ 1 1 _ rfl b1 (by omega) hs3 ?_; intro v3 w3 ho3 hb3 _ hk3; have bf3 := bf.other (fun x hx hlt => hk3 x.block hlt (fun h => by have := HK0.out _ h; have := lf x hx; omega)); clear hk3) | (refine append_ow rfl (.tmp 26) (.tmp 27) rfl w.heap.size _ _ rfl ho3 _ _ _ _ rfl bf3 (by rw [List.length_append, List.length_singleton]; omega) (Nat.le_trans hs3 (hb3.size)) ?_; intro v4 w4 ho4 hb4))
    go_ret
    refine ⟨_, rfl, ?_, (hb0.trans hb3).trans hb4⟩
    rw [putT, bodyT, HB.out, if_neg (by simpa using hlt), HL.out]
    rw [List.append_assoc] at ho4
    exact ho4
end Go.Proofs.YtbfihajgjbpmaaaGreat
/- The document's own answers for layer 6: each, numbered. -/
namespace Go.Proofs.YtbfihajgjbpmaaaGreat
open Go.ChangeShapes Go.WideShapes Go.ChangeAt Go.RowKit
set_option linter.unusedVariables false
set_option maxRecDepth 4000

set_option maxRecDepth 4000 in
set_option maxHeartbeats 2000000 in
theorem reachin_any (N : Nat) (hN : N ≤ 2000) (a0 : Option Addr) (n0 c0 : Nat) (zs : List Int) (w : World) (hv0 : BV w a0 n0 zs) (hc0 : n0 ≤ c0) (hn0 : n0 ≤ 1000000) :
    Calls Tryz.prog 125 #[.slice a0 n0 c0, .int .i64 (N : Int)] w fun e w' => EachE w w' a0 n0 zs N e := by
  have o0 : OS 1 (w.alloc (.cells #[] 9)) w.heap.size (.slice (some ⟨w.heap.size, 0, none⟩) 0 0) 0 (tcells []) := OS.lit (k := 1) w w.heap.size (Nat.le_refl _) [] 0 9 rfl (by simp) (by unfold maxLen; omega) _ rfl
  have hw0 : Below w.heap.size w (w.alloc (.cells #[] 9)) := Joins.below_alloc1 _ _
  go_enter Tryz.func125, Tryz.ntmps125
  go_wp2_with fail
  go_loopw [0, 7, 8] (fun b v i wr => ∃ (j : Nat) (a : Option Addr) (n c : Nat) (p : List ByteArray) (r : List Int), j ≤ N ∧ i = .int .i64 (j : Int) ∧ b = .slice a n c ∧ n ≤ c ∧ n ≤ n0 ∧ Hid (∀ V, BV V a0 n0 zs → BV V a n r) ∧ Hid (p.length = j) ∧ Few60 p ∧ Hid (zs = eachL p ++ r) ∧ OS 1 wr w.heap.size v j (tcells p) ∧ Below w.heap.size w wr) (fun _ _ i _ => N - (intOf i).toNat)
  case atStart => exact ⟨0, _, _, _, [], zs, by omega, rfl, rfl, hc0, Nat.le_refl _, Lib.hid (fun V h => h), Lib.hid rfl, (fun x hx => by cases hx), Lib.hid rfl, o0, hw0⟩
  case round =>
    clear o0 hw0
    obtain ⟨j, a, n, c, p, r, hj, rfl, rfl, hc, hnn, HV, HP, hf, HZ, ho, hbel⟩ := hrel
    by_cases hlt : j < N
    · have hji : (j : Int) < (N : Int) := by omega
      have hvr := (HV.out w hv0).below hbel
      have hlr := hvr.1
      by_cases hs0 : (varR r).2 = 0
      · have hno := Lib.hid (varR_none hs0)
        have HF := Lib.hid (each_few HZ.out (by rw [HP.out]; exact hlt) hf (each_bad_none hs0))
        clear hs0 hlr
        go_wp2_with fail
        refine (rvar_any a n c r _ hvr hc).mono ?_
        rw [hno.out]
        rintro e w2 ⟨rfl, hb2⟩
        clear hno
        replace hbel := Below.then hbel hb2
        go_wp2_with fail
        go_ret3
        exact .inr ⟨rfl, HF.out, hbel⟩
      · obtain ⟨y, rest, hrr, hy0, hy1, hvar⟩ := varR_back r hvr.2.1 hs0
        have hpos := pv_pos y
        have hl10 := pv_len10 (x := y) (by omega)
        obtain ⟨s, hs⟩ : ∃ s, (pv y).length = s := ⟨_, rfl⟩
        rw [hs] at hvar hpos hl10
        have hsn : n = s + rest.length := by
          have := congrArg List.length hrr
          rw [List.length_append, hlr, hs] at this; exact this
        have HV2 := Lib.hid hvar
        clear hs0 hlr hvar
        have hs1 : ((s : Int) == 0) = false := by rw [beq_eq_false_iff_ne]; omega
        by_cases hlong : 60 < y
        · have HF := Lib.hid (each_few HZ.out (by rw [HP.out]; exact hlt) hf (each_bad_long ⟨hy0, hy1⟩ hrr hlong))
          clear hrr hsn hs
          go_wp2_with fail
          refine (rvar_any a n c r _ hvr hc).mono ?_
          rw [HV2.out]
          rintro e w2 ⟨rfl, hb2⟩
          replace hbel := Below.then hbel hb2
          go_wp2_with fail
          go_ret3
          exact .inr ⟨rfl, HF.out, hbel⟩
        · obtain ⟨x, rfl⟩ : ∃ x : Nat, y = (x : Int) := ⟨y.toNat, by omega⟩
          have hxi : IntKind.i64.wrap (x : Int) = (x : Int) := by rw [IntKind.wrap_i64]; omega
          have hns : IntKind.i64.wrap ((n : Int) - (s : Int)) = (n : Int) - (s : Int) := by rw [IntKind.wrap_i64]; omega
          by_cases hfew : n - s < x
          · have HF := Lib.hid (each_few HZ.out (by rw [HP.out]; exact hlt) hf (each_bad_few ⟨hy0, hy1⟩ hrr (by omega)))
            have hfi : (n : Int) - (s : Int) < (x : Int) := by omega
            clear hrr hsn hs
            go_wp2_with fail
            refine (rvar_any a n c r _ hvr hc).mono ?_
            rw [HV2.out]
            rintro e w2 ⟨rfl, hb2⟩
            replace hbel := Below.then hbel hb2
            go_wp2_with fail
            go_ret3
            exact .inr ⟨rfl, HF.out, hbel⟩
          · have hfi : ¬ (n : Int) - (s : Int) < (x : Int) := by omega
            obtain ⟨t, ht⟩ : ∃ t, s + x = t := ⟨_, rfl⟩
            have hti : IntKind.i64.wrap ((s : Int) + (x : Int)) = (t : Int) := by rw [IntKind.wrap_i64]; omega
            have htn : t ≤ n := by omega
            have HRR := Lib.hid hrr
            have HSS := Lib.hid hs
            have HTT := Lib.hid ht
            have hrx : x ≤ rest.length := by omega
            have hst : s ≤ t := by omega
            clear hrr hs ht hsn
            go_wp2_with fail
            refine (rvar_any a n c r _ hvr hc).mono ?_
            rw [HV2.out]
            rintro e w2 ⟨rfl, hb2⟩
            have hvr2 := hvr.below hb2
            have hrr := HRR.out
            have hs := HSS.out
            have ht := HTT.out
            replace hbel := Below.then hbel hb2
            replace ho := ho.below hb2
            obtain ⟨a3, hsl3, bv3⟩ := hvr2.slice_lh s t c (by omega) htn hc
            obtain ⟨a4, hsl4, -⟩ := hvr2.slice_lo t c htn hc
            have hrd : r.drop t = rest.drop x := by rw [hrr, ← ht, ← hs, ← List.drop_drop]; rw [List.drop_left' rfl]
            have hrt : (r.drop s).take (t - s) = rest.take x := by rw [hrr, ← hs, List.drop_left' rfl, ← ht, hs, Nat.add_sub_cancel_left]
            have HV4 : Hid (∀ V, BV V a0 n0 zs → BV V a4 (n - t) (rest.drop x)) := Lib.hid (fun V hV => by
              obtain ⟨a5, hsl5, hb5⟩ := (HV.out V hV).slice_lo t c htn hc
              have e1 := (hsl4 V).symm.trans (hsl5 V)
              simp only [Result.ok.injEq, Value.slice.injEq, and_true] at e1
              rw [e1, ← hrd]
              exact hb5)
            rw [hrt] at bv3
            have hcv := fun q => conv_any (bv3.alloc q) (c - s)
            have hcv0 := conv_any bv3 (c - s)
            have hql : (rest.take x).length = x := by rw [List.length_take]; omega
            have hqb := bv3.2.1
            have HST : Hid (eachL p ++ r = eachL (p ++ [strOfNums (rest.take x)]) ++ rest.drop x) := Lib.hid (each_step (by rw [hrr, List.take_append_drop]) (by rw [hql]) hqb)
            have hxs : (strOfNums (rest.take x)).size ≤ 60 := by rw [str_size, hql]; omega
            generalize strOfNums (rest.take x) = q at hcv0 HST hxs
            have hone : SV 1 (w2.alloc (.cells #[.string q] 9)) (some ⟨w2.heap.size, 0, none⟩) 1 (tcells [q]) := SV.lit (k := 1) w2 (tcells [q]) 1 9 rfl (tcells_one _)
            have ho1 := ho.alloc (.cells #[.string q] 9)
            have hb1 := hbel.alloc hbel.size (.cells #[.string q] 9)
            have hsz := hb1.size
            clear hrr hs ht hrd hrt hql hqb bv3 hvr hvr2 hb2 ho hbel hcv
            go_wp2_with (at_builtin; refine append_os2 el_texts rfl (.tmp 37) (.tmp 46) rfl w.heap.size _ j (tcells p) rfl ho1 _ 1 1 _ rfl hone (by omega) (by omega) hsz ?_; intro v3 w3 ho3 hb3 _ _)
            go_roundw
            case rel => exact ⟨j + 1, _, _, _, p ++ [q], rest.drop x, by omega, by go_num, rfl, by omega, by omega, HV4, Lib.hid (by rw [List.length_append, HP.out, List.length_singleton]), few_snoc6 hf hxs, Lib.hid (by rw [HZ.out, HST.out]), by rw [tcells_app]; exact ho3, hb1.trans hb3⟩
            case measure => simp [intOf]; omega
    · obtain rfl : j = N := by omega
      obtain ⟨A', C', rfl, hC1, -, hv', -⟩ := ho.sv
      go_wp2_with fail
      go_ret3
      exact .inl ⟨A', C', p, r, a, n, c, rfl, hC1, hf, hv', HZ.out, hc, hnn, HV.out, hbel⟩
end Go.Proofs.YtbfihajgjbpmaaaGreat
/- The document's own answers for layer 6: numbered. -/
namespace Go.Proofs.YtbfihajgjbpmaaaGreat
open Go.ChangeShapes Go.WideShapes Go.ChangeAt Go.RowKit
set_option linter.unusedVariables false
set_option maxRecDepth 4000

set_option maxHeartbeats 2000000 in
theorem rnumbered_any (N : Nat) (hN : N ≤ 2000) (a0 : Option Addr) (n0 c0 : Nat) (zs : List Int) (w : World) (hv0 : BV w a0 n0 zs) (hc0 : n0 ≤ c0) (hn0 : n0 ≤ 1000000) :
    Calls Tryz.prog 126 #[.slice a0 n0 c0, .int .i64 (N : Int)] w fun e w' => WayE w w' N (fun u => dictL u = zs) e := by
  have hlz := hv0.1
  have hwN : IntKind.u64.wrap (N : Int) = (N : Int) := u64_same (by omega) (by omega)
  go_enter Tryz.func126, Tryz.ntmps126
  by_cases hs0 : (varR zs).2 = 0
  · have hno := Lib.hid (varR_none hs0)
    have HF : Hid (∀ u, Few60 u → u.length = N → ¬ dictL u = zs) := Lib.hid (dict_no_size (fun k r hk => below_none hs0 k r (by omega)))
    clear hs0 hlz
    go_wp2_with fail
    refine (rvar_any a0 n0 c0 zs _ hv0 hc0).mono ?_
    rw [hno.out]
    rintro e w1 ⟨rfl, hb1⟩
    clear hno
    go_wp2_with fail
    go_ret2
    exact .inr ⟨rfl, HF.out, hb1⟩
  obtain ⟨y, rest, hrr, hy0, hy1, hvar⟩ := varR_back zs hv0.2.1 hs0
  have hpos := pv_pos y
  have hl10 := pv_len10 (x := y) (by omega)
  obtain ⟨s, hs⟩ : ∃ s, (pv y).length = s := ⟨_, rfl⟩
  rw [hs] at hvar hpos hl10
  have hsn : n0 = s + rest.length := by
    have := congrArg List.length hrr
    rw [List.length_append, hlz, hs] at this; exact this
  have HV := Lib.hid hvar
  have hsl : s ≤ n0 := by omega
  have HRR := Lib.hid hrr
  have HSS := Lib.hid hs
  clear hs0 hlz hvar hsn hrr hs
  have hs1 : ((s : Int) == 0) = false := by rw [beq_eq_false_iff_ne]; omega
  by_cases hmany : (N : Int) < y
  · have HF : Hid (∀ u, Few60 u → u.length = N → ¬ dictL u = zs) := Lib.hid (dict_no_size (fun k r hk => below_not ⟨hy0, hy1⟩ HRR.out k r (by omega)))
    go_wp2_with fail
    refine (rvar_any a0 n0 c0 zs _ hv0 hc0).mono ?_
    rw [HV.out]
    rintro e w1 ⟨rfl, hb1⟩
    go_wp2_with fail
    go_ret2
    exact .inr ⟨rfl, HF.out, hb1⟩
  obtain ⟨K, rfl⟩ : ∃ K : Nat, y = (K : Int) := ⟨y.toNat, by omega⟩
  have hKi : IntKind.i64.wrap (K : Int) = (K : Int) := by rw [IntKind.wrap_i64]; omega
  have hKu : IntKind.u64.wrap (K : Int) = (K : Int) := u64_same (by omega) (by omega)
  have hKN : K ≤ N := by omega
  obtain ⟨a1, hsl1, bv1⟩ := hv0.slice_lo s c0 hsl hc0
  rw [show zs.drop s = rest by rw [HRR.out, ← HSS.out]; exact List.drop_left' rfl] at bv1
  go_wp2_with fail
  refine (rvar_any a0 n0 c0 zs _ hv0 hc0).mono ?_
  rw [HV.out]
  rintro e w1 ⟨rfl, hb1⟩
  replace bv1 := bv1.below hb1
  clear hv0
  go_wp2_with fail
  refine (reachin_any K (by omega) a1 (n0 - s) (c0 - s) rest _ bv1 (by omega) (by omega)).mono ?_
  rintro e w2 he
  rcases he with ⟨Au, Cu, ws, r1, a2, n2, c2, rfl, hCu, hf, vu, hbd, hc2, hn2, hV2, hb2⟩ | ⟨rfl, hno, hb2⟩
  rotate_left
  · have HF := Lib.hid (dict_no_words hN (by omega) HRR.out hno)
    clear hno
    go_wp2_with fail
    go_ret2
    exact .inr ⟨rfl, HF.out, Below.then hb1 hb2⟩
  replace hb1 := Below.then hb1 hb2
  have hv2 := hV2 _ (bv1.below hb2)
  have HWL := Lib.hid (TV.len vu)
  have HD : Hid (∀ u, Few60 u → u.length = N → dictL u = zs → words u = ws ∧ joinN (placesL u) = r1) := Lib.hid (fun u hu hn hp => dict_rest hN (by omega) HRR.out hbd HWL.out hf hu hn hp)
  clear hV2 bv1 hb2 hbd HRR HSS hsl1
  have o0 : OS 1 (w2.alloc (.cells #[] 9)) w2.heap.size (.slice (some ⟨w2.heap.size, 0, none⟩) 0 0) 0 (tcells (byPlaces ws [])) := OS.lit (k := 1) w2 w2.heap.size (Nat.le_refl _) [] 0 9 rfl (by simp) (by unfold maxLen; omega) _ rfl
  have hw0 : Below w2.heap.size w2 (w2.alloc (.cells #[] 9)) := Joins.below_alloc1 _ _
  go_wp2_with fail
  go_loopw [9, 11, 12] (fun b v i wr => ∃ (j : Nat) (a : Option Addr) (n c : Nat) (ps : List Int) (r : List Int), j ≤ N ∧ i = .int .i64 (j : Int) ∧ b = .slice a n c ∧ n ≤ c ∧ n ≤ n0 ∧ BV w2 a n r ∧ Hid (ps.length = j) ∧ Hid (∀ q ∈ ps, 0 ≤ q ∧ q < (K : Int)) ∧ Hid (r1 = joinN ps ++ r) ∧ OS 1 wr w2.heap.size v j (tcells (byPlaces ws ps)) ∧ Below w2.heap.size w2 wr) (fun _ _ i _ => N - (intOf i).toNat)
  case atStart => exact ⟨0, _, _, _, [], r1, by omega, rfl, rfl, hc2, by omega, hv2, Lib.hid rfl, Lib.hid (fun x hx => by cases hx), Lib.hid rfl, o0, hw0⟩
  case round =>
    clear o0 hw0 hv2 hc2 hn2 HV hpos hs1 hl10 hsl
    obtain ⟨j, a, n, c, ps, r, hj, rfl, rfl, hc, hnn, hv, HP, HQ, HR, ho, hbel⟩ := hrel
    by_cases hlt : j < N
    · have hji : (j : Int) < (N : Int) := by omega
      have hvr := hv.below hbel
      by_cases hs0 : (varR r).2 = 0
      · have hno := Lib.hid (varR_none hs0)
        have HF := Lib.hid (dict_no_place (by omega) HWL.out HD.out HR.out (by rw [HP.out]; exact hlt) HQ.out (fun k r' hk => below_none hs0 k r' (by omega)))
        clear hs0
        go_wp2_with fail
        refine (rvar_any a n c r _ hvr hc).mono ?_
        rw [hno.out]
        rintro e w3 ⟨rfl, hb3⟩
        clear hno
        have hbel3 := Below.then hb1 (Below.then hbel hb3)
        go_wp2_with fail
        go_ret2
        exact .inr ⟨rfl, HF.out, hbel3⟩
      obtain ⟨y, r3, hr3, hz0, hz1, hvar⟩ := varR_back r hvr.2.1 hs0
      have hpos := pv_pos y
      have hl10 := pv_len10 (x := y) (by omega)
      obtain ⟨m, hm⟩ : ∃ m, (pv y).length = m := ⟨_, rfl⟩
      rw [hm] at hvar hpos hl10
      have hmn : m ≤ n := by
        have := congrArg List.length hr3
        rw [List.length_append, hvr.1, hm] at this; omega
      have HV := Lib.hid hvar
      have HR3 := Lib.hid hr3
      have HM := Lib.hid hm
      clear hs0 hvar hr3 hm
      have hs1 : ((m : Int) == 0) = false := by rw [beq_eq_false_iff_ne]; omega
      by_cases hbig : (K : Int) ≤ y
      · have HF := Lib.hid (dict_no_place (by omega) HWL.out HD.out HR.out (by rw [HP.out]; exact hlt) HQ.out (fun k r' hk => below_not ⟨hz0, hz1⟩ HR3.out k r' (by omega)))
        go_wp2_with fail
        refine (rvar_any a n c r _ hvr hc).mono ?_
        rw [HV.out]
        rintro e w3 ⟨rfl, hb3⟩
        have hbel3 := Below.then hb1 (Below.then hbel hb3)
        go_wp2_with fail
        go_ret2
        exact .inr ⟨rfl, HF.out, hbel3⟩
      obtain ⟨x, rfl⟩ : ∃ x : Nat, y = (x : Int) := ⟨y.toNat, by omega⟩
      have hxK : (x : Int) < (K : Int) := by omega
      have hbg : ¬ (K : Int) ≤ (x : Int) := by omega
      obtain ⟨a3, hsl3, bv3⟩ := hv.slice_lo m c hmn hc
      rw [show r.drop m = r3 by rw [HR3.out, ← HM.out]; exact List.drop_left' rfl] at bv3
      have HR4 : Hid (r1 = joinN (ps ++ [(x : Int)]) ++ r3) := Lib.hid (by rw [HR.out, HR3.out, joinN_snoc, List.append_assoc])
      have HQ3 : Hid (∀ q ∈ ps ++ [(x : Int)], 0 ≤ q ∧ q < (K : Int)) := Lib.hid (fun q hq => by
        rcases List.mem_append.1 hq with hq | hq
        · exact HQ.out q hq
        · rw [List.mem_singleton.1 hq]; omega)
      have HBP : Hid (byPlaces ws (ps ++ [(x : Int)]) = byPlaces ws ps ++ [ws.getD x ⟨#[]⟩]) := Lib.hid (by rw [byPlaces_snoc, Int.toNat_natCast])
      obtain ⟨bu, ou, rfl, hcx⟩ := TV.at vu x (by omega)
      go_wp2_with fail
      refine (rvar_any a n c r _ hvr hc).mono ?_
      rw [HV.out]
      rintro e w3 ⟨rfl, hb3⟩
      have hbel3 := Below.then hbel hb3
      replace hcx := keepc hcx hbel3
      replace ho := ho.below hb3
      generalize ws.getD x ⟨#[]⟩ = t at hcx HBP
      have hone : SV 1 (w3.alloc (.cells #[.string t] 9)) (some ⟨w3.heap.size, 0, none⟩) 1 (tcells [t]) := SV.lit (k := 1) w3 (tcells [t]) 1 9 rfl (tcells_one _)
      have ho1 := ho.alloc (.cells #[.string t] 9)
      have hw3 := hbel3.alloc hbel3.size (.cells #[.string t] 9)
      have hsz := hw3.size
      clear ho hbel hbel3 hb3 hvr
      go_wp2_with (at_builtin; refine append_os2 el_texts rfl (.tmp 60) (.tmp 65) rfl w2.heap.size _ j (tcells (byPlaces ws ps)) rfl ho1 _ 1 1 _ rfl hone (by omega) (by omega) hsz ?_; intro v4 w4 ho4 hb4 _ _)
      go_roundw
      case rel => exact ⟨j + 1, _, _, _, ps ++ [(x : Int)], r3, by omega, by go_num, rfl, by omega, by omega, bv3, Lib.hid (by rw [List.length_append, HP.out, List.length_singleton]), HQ3, HR4, by rw [HBP.out, tcells_app]; exact ho4, hw3.trans hb4⟩
      case measure => simp [intOf]; omega
    · obtain rfl : j = N := by omega
      have HF := Lib.hid (dict_done (by omega) (by omega) HD.out HR.out HP.out HQ.out)
      obtain ⟨A', C', rfl, hC1, -, hv', -⟩ := ho.sv
      go_wp2_with fail
      go_ret2
      exact .inl ⟨A', C', byPlaces ws ps, rfl, hC1, byPlaces_few hf ps, hv', HF.out, Below.then hb1 hbel⟩
end Go.Proofs.YtbfihajgjbpmaaaGreat
/- The document's own answers for layer 6: Take. -/
namespace Go.Proofs.YtbfihajgjbpmaaaGreat
open Go.ChangeShapes Go.WideShapes Go.ChangeAt Go.RowKit
set_option linter.unusedVariables false
set_option maxRecDepth 4000

theorem ReadT.two {w w' : World} {zs : List Int} {A : Option Addr} {N C : Nat} {ok : Bool} (h : ReadT w w' zs (.returned (.tuple #[.slice A N C, .bool ok]))) :
    (ok = true ∧ ∃ l, N ≤ C ∧ N ≤ 2000 ∧ Few60 l ∧ TV w' A N l ∧ (∀ k, OkT k → putT k = zs → k = l) ∧ Below w.heap.size w w') ∨ (ok = false ∧ NoT zs ∧ Below w.heap.size w w') := by
  rcases h with ⟨A', N', C', l, he, h1, h2, h3, h4, h5, h6⟩ | ⟨he, h1, h2⟩
  · simp only [Ending.returned.injEq, Value.tuple.injEq, Array.mk.injEq, List.cons.injEq, Value.slice.injEq, Value.bool.injEq, and_true] at he
    obtain ⟨⟨rfl, rfl, rfl⟩, rfl⟩ := he
    exact .inl ⟨rfl, l, h1, h2, h3, h4, h5, h6⟩
  · simp only [Ending.returned.injEq, Value.tuple.injEq, Array.mk.injEq, List.cons.injEq, Value.slice.injEq, Value.bool.injEq, and_true] at he
    obtain ⟨_, rfl⟩ := he
    exact .inr ⟨rfl, h1, h2⟩
theorem TakeT.done {w w' : World} {A : Option Addr} {N C : Nat} {l : List ByteArray} {zs : List Int} (hC : N ≤ C) (hN : N ≤ 2000) (hi : Few60 l) (hl : TV w' A N l) (hp : putT l = zs) (hb : Below w.heap.size w w') : TakeT w w' zs (.returned (.tuple #[.slice A N C, .int .i64 0])) :=
  .inl ⟨A, N, C, l, rfl, hC, hN, hi, hl, hp, hb⟩
theorem TakeT.none {w w' : World} {zs : List Int} (hno : NoT zs) (hb : Below w.heap.size w w') : TakeT w w' zs (.returned (.tuple #[.slice none 0 0, .int .i64 10])) := .inr ⟨rfl, hno, hb⟩
set_option maxHeartbeats 4000000 in
theorem rtakeT_any (a : Option Addr) (n c : Nat) (zs : List Int) (w : World) (hv : BV w a n zs) (hc : n ≤ c) (hn : n ≤ 1000000) :
    Calls Tryz.prog 111 #[.slice a n c] w fun e w' => TakeT w w' zs e := by
  have hlz := hv.1
  go_enter Tryz.func111, Tryz.ntmps111
  by_cases hs0 : (varR zs).2 = 0
  · have hno := Lib.hid (varR_none hs0)
    have HF := Lib.hid (noT_below (fun k r hk => below_none hs0 k r (by omega)))
    clear hs0 hlz
    go_wp2_with fail
    refine (rvar_any a n c zs _ hv hc).mono ?_
    rw [hno.out]
    rintro e w1 ⟨rfl, hb1⟩
    clear hno
    go_wp2_with fail
    go_ret2
    exact TakeT.none HF.out hb1
  obtain ⟨y, rest, hrr, hy0, hy1, hvar⟩ := varR_back zs hv.2.1 hs0
  have hpos := pv_pos y
  have hl10 := pv_len10 (x := y) (by omega)
  obtain ⟨s, hs⟩ : ∃ s, (pv y).length = s := ⟨_, rfl⟩
  rw [hs] at hvar hpos hl10
  have hsn : n = s + rest.length := by
    have := congrArg List.length hrr
    rw [List.length_append, hlz, hs] at this; exact this
  have HV := Lib.hid hvar
  have HRR := Lib.hid hrr
  have HSS := Lib.hid hs
  clear hs0 hlz hvar hrr hs
  have hs1 : ((s : Int) == 0) = false := by rw [beq_eq_false_iff_ne]; omega
  by_cases hmany : 2000 < y
  · have HF := Lib.hid (noT_below (fun k r hk => below_not ⟨hy0, hy1⟩ HRR.out k r (by omega)))
    clear hsn
    go_wp2_with fail
    refine (rvar_any a n c zs _ hv hc).mono ?_
    rw [HV.out]
    rintro e w1 ⟨rfl, hb1⟩
    go_wp2_with fail
    go_ret2
    exact TakeT.none HF.out hb1
  cases rest with
  | nil =>
    have HF := Lib.hid (noT_empty ⟨hy0, hy1⟩ HRR.out)
    obtain rfl : n = s := hsn
    go_wp2_with fail
    refine (rvar_any a n c zs _ hv hc).mono ?_
    rw [HV.out]
    rintro e w1 ⟨rfl, hb1⟩
    go_wp2_with fail
    go_ret2
    exact TakeT.none HF.out hb1
  | cons x rr =>
    obtain ⟨N, rfl⟩ : ∃ N : Nat, y = (N : Int) := ⟨y.toNat, by omega⟩
    have hN : N ≤ 2000 := by omega
    have hNi : IntKind.i64.wrap (N : Int) = (N : Int) := by rw [IntKind.wrap_i64]; omega
    rw [List.length_cons] at hsn
    have hsn1 : s + 1 ≤ n := by omega
    clear hsn
    obtain ⟨b, off, rfl, hcell⟩ := hv.opened (by omega)
    have hcw := hcell s (by omega)
    rw [show zs.getD s 0 = x by rw [HRR.out]; simp [List.getD, HSS.out]] at hcw
    have hxb : 0 ≤ x ∧ x ≤ 255 := hv.2.1 x (by rw [HRR.out]; simp)
    have i1 : ¬ n ≤ s := by omega
    have i2 : (s : Int) < (n : Int) := by omega
    obtain ⟨t, ht⟩ : ∃ t, s + 1 = t := ⟨_, rfl⟩
    have HRD : Hid (zs.drop t = rr) := Lib.hid (by rw [← ht, HRR.out, List.drop_append, HSS.out]; simp [List.drop_eq_nil_of_le, HSS.out])
    have hwt : IntKind.i64.wrap ((s : Int) + 1) = (t : Int) := by rw [IntKind.wrap_i64]; omega
    have i4 : t ≤ n := by omega
    obtain ⟨a1, hsl1, bv1⟩ := hv.slice_lo t c i4 hc
    rw [HRD.out] at bv1
    clear hcell ht HRD hsn1
    go_wp2_with fail
    refine (rvar_any _ n c zs _ hv hc).mono ?_
    rw [HV.out]
    rintro e w1 ⟨rfl, hb1⟩
    replace hcw := keepc hcw hb1
    replace hv := hv.below hb1
    replace bv1 := bv1.below hb1
    go_wp2_with fail
    refine (reachin_any N hN a1 (n - t) (c - t) rr _ bv1 (by omega) (by omega)).mono ?_
    rintro e w2 he
    have hb2 : Below w1.heap.size w1 w2 := by
      rcases he with ⟨_, _, _, _, _, _, _, _, _, _, _, _, _, _, _, hb⟩ | ⟨_, _, hb⟩ <;> exact hb
    replace hcw := keepc hcw hb2
    obtain ⟨A2, N2, C2, a3, n3, c3, ok2, rfl, hW⟩ := he.way
    clear he
    replace hv := hv.below hb2
    replace bv1 := bv1.below hb2
    by_cases h1 : x = 1
    · subst h1
      clear hW
      replace hb1 := Below.then hb1 hb2
      go_wp2_with fail
      refine (rnumbered_any N hN a1 (n - t) (c - t) rr _ bv1 (by omega) (by omega)).mono ?_
      rintro e w3 he
      have hA := he.all hb1 hN (fun k hk hp => wayT1 HRR.out hN hk hp)
      have hb3 : Below w2.heap.size w2 w3 := by
        rcases he with ⟨_, _, _, _, _, _, _, _, hb⟩ | ⟨_, _, hb⟩ <;> exact hb
      clear he hcw bv1 hsl1 hb1 hb2
      obtain ⟨A4, N4, C4, ok4, rfl⟩ := hA.shape
      replace hv := hv.below hb3
      rcases hA.two with ⟨rfl, p, hC, hN2, hi, vo, hu, hbel⟩ | ⟨rfl, hno, hbel⟩
      rotate_left
      · have HF := Lib.hid hno
        clear hno hA
        go_wp2_with fail
        refine wp_region_noPanic ?_
        refine region_g 10 (Ext (World.drew _)) (by kernel_rfl) (Ext.refl _) (fun hS => ?_)
        refine take_w (i := 0) (v := ?_) (some 52) rfl (by kernel_rfl) rfl (fun _ _ _ h => h) (Or.inl ⟨by rfl, ?_⟩) hS ?_
        rotate_left
        · (intro wq hq; go_simp); first | done | with_reducible rfl
        try simp only [Act.put, List.setIfInBounds_toArray, List.set_cons_zero, List.set_cons_succ]
        replace hS := Till.list 0 hS
        refine take_w (i := 1) (v := ?_) (some 53) rfl (by kernel_rfl) rfl (fun _ _ _ h => h) (Or.inl ⟨by rfl, ?_⟩) hS ?_
        rotate_left
        · (intro wq hq; go_simp); first | done | with_reducible rfl
        try simp only [Act.put, List.setIfInBounds_toArray, List.set_cons_zero, List.set_cons_succ]
        replace hS := Till.list 1 hS
        refine take_w (i := 2) (v := ?_) (some 54) rfl (by kernel_rfl) rfl (fun _ _ _ h => h) (Or.inl ⟨by rfl, ?_⟩) hS ?_
        rotate_left
        · (intro wq hq; go_simp); first | done | with_reducible rfl
        try simp only [Act.put, List.setIfInBounds_toArray, List.set_cons_zero, List.set_cons_succ]
        replace hS := Till.list 2 hS
        refine take_w (i := 3) (v := undef) (some 55) rfl (by kernel_rfl) rfl (fun _ _ _ h => h) (Or.inr ⟨by rfl, rfl⟩) hS ?_
        try simp only [Act.put, List.setIfInBounds_toArray, List.set_cons_zero, List.set_cons_succ]
        replace hS := Till.list 3 hS
        refine take_w (i := 6) (v := undef) (some 58) rfl (by kernel_rfl) rfl (fun _ _ _ h => h) (Or.inr ⟨by rfl, rfl⟩) hS ?_
        try simp only [Act.put, List.setIfInBounds_toArray, List.set_cons_zero, List.set_cons_succ]
        replace hS := Till.list 6 hS
        refine take_w (i := 4) (v := undef) (some 56) rfl (by kernel_rfl) rfl (fun _ _ _ h => h) (Or.inr ⟨by rfl, rfl⟩) hS ?_
        try simp only [Act.put, List.setIfInBounds_toArray, List.set_cons_zero, List.set_cons_succ]
        replace hS := Till.list 4 hS
        refine take_w (i := 7) (v := undef) (some 59) rfl (by kernel_rfl) rfl (fun _ _ _ h => h) (Or.inr ⟨by rfl, rfl⟩) hS ?_
        try simp only [Act.put, List.setIfInBounds_toArray, List.set_cons_zero, List.set_cons_succ]
        replace hS := Till.list 7 hS
        refine take_w (i := 5) (v := undef) (some 57) rfl (by kernel_rfl) rfl (fun _ _ _ h => h) (Or.inr ⟨by rfl, rfl⟩) hS ?_
        try simp only [Act.put, List.setIfInBounds_toArray, List.set_cons_zero, List.set_cons_succ]
        replace hS := Till.list 5 hS
        refine take_w (i := 8) (v := undef) (some 60) rfl (by kernel_rfl) rfl (fun _ _ _ h => h) (Or.inr ⟨by rfl, rfl⟩) hS ?_
        try simp only [Act.put, List.setIfInBounds_toArray, List.set_cons_zero, List.set_cons_succ]
        replace hS := Till.list 8 hS
        refine take_w (i := 9) (v := ?_) (some 61) rfl (by kernel_rfl) rfl (fun _ _ _ h => h) (Or.inl ⟨by rfl, ?_⟩) hS ?_
        rotate_left
        · (intro wq hq; go_simp); first | done | with_reducible rfl
        try simp only [Act.put, List.setIfInBounds_toArray, List.set_cons_zero, List.set_cons_succ]
        replace hS := Till.list 9 hS
        refine done_g (by kernel_rfl) (NoPanic.normal ?_) _
        clear hS
        go_wp2_with fail
        go_ret2
        exact TakeT.none HF.out hbel.drew
      have HPB := Lib.hid (putT_bytes (l := p) (by rw [TV.len vo]; omega))
      by_cases hp : putT p = zs
      · have HP := Lib.hid hp
        rw [← hp] at hv
        clear hp hu hA
        have hst := str_beq HPB.out HPB.out
        go_wp2_with fail
        refine wp_region_noPanic ?_
        refine region_g 10 (Ext (World.drew _)) (by kernel_rfl) (Ext.refl _) (fun hS => ?_)
        refine take_w (i := 0) (v := ?_) (some 52) rfl (by kernel_rfl) rfl (fun _ _ _ h => h) (Or.inl ⟨by rfl, ?_⟩) hS ?_
        rotate_left
        · (intro wq hq; go_simp); first | done | with_reducible rfl
        try simp only [Act.put, List.setIfInBounds_toArray, List.set_cons_zero, List.set_cons_succ]
        replace hS := Till.list 0 hS
        refine take_w (i := 1) (v := ?_) (some 53) rfl (by kernel_rfl) rfl (fun _ _ _ h => h) (Or.inl ⟨by rfl, ?_⟩) hS ?_
        rotate_left
        · (intro wq hq; go_simp); first | done | with_reducible rfl
        try simp only [Act.put, List.setIfInBounds_toArray, List.set_cons_zero, List.set_cons_succ]
        replace hS := Till.list 1 hS
        refine take_w (i := 2) (v := ?_) (some 54) rfl (by kernel_rfl) rfl (fun _ _ _ h => h) (Or.inl ⟨by rfl, ?_⟩) hS ?_
        rotate_left
        · (intro wq hq; go_simp); first | done | with_reducible rfl
        try simp only [Act.put, List.setIfInBounds_toArray, List.set_cons_zero, List.set_cons_succ]
        replace hS := Till.list 2 hS
        refine take_w (i := 3) (v := ?_) (some 55) rfl (by kernel_rfl) rfl (fun _ _ _ h => h) (Or.inl ⟨by rfl, ?_⟩) hS ?_
        rotate_left
        · (intro wq hq; go_simp); first | done | with_reducible rfl
        try simp only [Act.put, List.setIfInBounds_toArray, List.set_cons_zero, List.set_cons_succ]
        replace hS := Till.list 3 hS
        refine take_w (i := 6) (v := ?_) (some 58) rfl (by kernel_rfl) rfl (fun _ _ _ h => h) (Or.inl ⟨by rfl, ?_⟩) hS ?_
        rotate_left
        · (intro wq hq; go_simp); first | done | with_reducible rfl
        try simp only [Act.put, List.setIfInBounds_toArray, List.set_cons_zero, List.set_cons_succ]
        replace hS := Till.list 6 hS
        refine take_n (i := 7) (v := .string (strOfNums (putT p))) (some 59) rfl (by kernel_rfl) rfl (fun _ _ _ h => h) (Or.inl ⟨by rfl, ?_⟩) hS ?_
        · (intro wq hq; (have hcv := conv_any (hv.ext hq) c; go_simp))
        try simp only [Act.put, List.setIfInBounds_toArray, List.set_cons_zero, List.set_cons_succ]
        replace hS := Till.list 7 hS
        refine ready_g (rs := [4]) (by kernel_rfl) (by simp) ?_
        refine AllReadyG.cons rfl (fun Kont hK => ?_) AllReadyG.nil
        go_simp
        refine (rputT_any _ _ _ p _ vo.drew hi.sm hN2).mono ?_
        rintro e w4 ⟨vp, rfl, op, hb4⟩
        obtain ⟨ap, cp, rfl, -, -, bp, -⟩ := op.bvn HPB.out _ rfl
        have hb5 := Below.then hbel.drew hb4
        have vo4 := vo.drew.below hb4
        refine hK.out _ _ (Or.inr ((hS.get (by kernel_rfl)).trans (Ext.below hb4))) (fun hS0 => ?_)
        clear hK Kont
        try simp only [Act.put, List.setIfInBounds_toArray, List.set_cons_zero, List.set_cons_succ]
        clear hS
        refine now_t (by kernel_rfl) hS0 (fun hS => ?_)
        clear hS0
        refine take_n (i := 5) (v := .string (strOfNums (putT p))) (some 57) rfl (by kernel_rfl) rfl (fun _ _ _ h => h) (Or.inl ⟨by rfl, ?_⟩) hS ?_
        · (intro wq hq; (have hcv := conv_any (bp.ext hq) cp; go_simp))
        try simp only [Act.put, List.setIfInBounds_toArray, List.set_cons_zero, List.set_cons_succ]
        replace hS := Till.list 5 hS
        refine take_w (i := 8) (v := ?_) (some 60) rfl (by kernel_rfl) rfl (fun _ _ _ h => h) (Or.inl ⟨by rfl, ?_⟩) hS ?_
        rotate_left
        · (intro wq hq; go_simp); first | done | with_reducible rfl
        try simp only [Act.put, List.setIfInBounds_toArray, List.set_cons_zero, List.set_cons_succ]
        replace hS := Till.list 8 hS
        refine take_w (i := 9) (v := ?_) (some 61) rfl (by kernel_rfl) rfl (fun _ _ _ h => h) (Or.inl ⟨by rfl, ?_⟩) hS ?_
        rotate_left
        · (intro wq hq; go_simp); first | done | with_reducible rfl
        try simp only [Act.put, List.setIfInBounds_toArray, List.set_cons_zero, List.set_cons_succ]
        replace hS := Till.list 9 hS
        refine done_g (by kernel_rfl) (NoPanic.normal ?_) _
        clear hS
        go_wp2_with fail
        go_ret2
        exact TakeT.done hC hN2 hi vo4 HP.out hb5
      · have HF : Hid (NoT zs) := Lib.hid (fun k hk h => hp (by rw [← hu k hk h]; exact h))
        have hst := str_beq HPB.out hv.2.1
        rw [decide_eq_false hp] at hst
        clear hp hu hA
        go_wp2_with fail
        refine wp_region_noPanic ?_
        refine region_g 10 (Ext (World.drew _)) (by kernel_rfl) (Ext.refl _) (fun hS => ?_)
        refine take_w (i := 0) (v := ?_) (some 52) rfl (by kernel_rfl) rfl (fun _ _ _ h => h) (Or.inl ⟨by rfl, ?_⟩) hS ?_
        rotate_left
        · (intro wq hq; go_simp); first | done | with_reducible rfl
        try simp only [Act.put, List.setIfInBounds_toArray, List.set_cons_zero, List.set_cons_succ]
        replace hS := Till.list 0 hS
        refine take_w (i := 1) (v := ?_) (some 53) rfl (by kernel_rfl) rfl (fun _ _ _ h => h) (Or.inl ⟨by rfl, ?_⟩) hS ?_
        rotate_left
        · (intro wq hq; go_simp); first | done | with_reducible rfl
        try simp only [Act.put, List.setIfInBounds_toArray, List.set_cons_zero, List.set_cons_succ]
        replace hS := Till.list 1 hS
        refine take_w (i := 2) (v := ?_) (some 54) rfl (by kernel_rfl) rfl (fun _ _ _ h => h) (Or.inl ⟨by rfl, ?_⟩) hS ?_
        rotate_left
        · (intro wq hq; go_simp); first | done | with_reducible rfl
        try simp only [Act.put, List.setIfInBounds_toArray, List.set_cons_zero, List.set_cons_succ]
        replace hS := Till.list 2 hS
        refine take_w (i := 3) (v := ?_) (some 55) rfl (by kernel_rfl) rfl (fun _ _ _ h => h) (Or.inl ⟨by rfl, ?_⟩) hS ?_
        rotate_left
        · (intro wq hq; go_simp); first | done | with_reducible rfl
        try simp only [Act.put, List.setIfInBounds_toArray, List.set_cons_zero, List.set_cons_succ]
        replace hS := Till.list 3 hS
        refine take_w (i := 6) (v := ?_) (some 58) rfl (by kernel_rfl) rfl (fun _ _ _ h => h) (Or.inl ⟨by rfl, ?_⟩) hS ?_
        rotate_left
        · (intro wq hq; go_simp); first | done | with_reducible rfl
        try simp only [Act.put, List.setIfInBounds_toArray, List.set_cons_zero, List.set_cons_succ]
        replace hS := Till.list 6 hS
        refine take_n (i := 7) (v := .string (strOfNums zs)) (some 59) rfl (by kernel_rfl) rfl (fun _ _ _ h => h) (Or.inl ⟨by rfl, ?_⟩) hS ?_
        · (intro wq hq; (have hcv := conv_any (hv.ext hq) c; go_simp))
        try simp only [Act.put, List.setIfInBounds_toArray, List.set_cons_zero, List.set_cons_succ]
        replace hS := Till.list 7 hS
        refine ready_g (rs := [4]) (by kernel_rfl) (by simp) ?_
        refine AllReadyG.cons rfl (fun Kont hK => ?_) AllReadyG.nil
        go_simp
        refine (rputT_any _ _ _ p _ vo.drew hi.sm hN2).mono ?_
        rintro e w4 ⟨vp, rfl, op, hb4⟩
        obtain ⟨ap, cp, rfl, -, -, bp, -⟩ := op.bvn HPB.out _ rfl
        have hb5 := Below.then hbel.drew hb4
        refine hK.out _ _ (Or.inr ((hS.get (by kernel_rfl)).trans (Ext.below hb4))) (fun hS0 => ?_)
        clear hK Kont
        try simp only [Act.put, List.setIfInBounds_toArray, List.set_cons_zero, List.set_cons_succ]
        clear hS
        refine now_t (by kernel_rfl) hS0 (fun hS => ?_)
        clear hS0
        refine take_n (i := 5) (v := .string (strOfNums (putT p))) (some 57) rfl (by kernel_rfl) rfl (fun _ _ _ h => h) (Or.inl ⟨by rfl, ?_⟩) hS ?_
        · (intro wq hq; (have hcv := conv_any (bp.ext hq) cp; go_simp))
        try simp only [Act.put, List.setIfInBounds_toArray, List.set_cons_zero, List.set_cons_succ]
        replace hS := Till.list 5 hS
        refine take_w (i := 8) (v := ?_) (some 60) rfl (by kernel_rfl) rfl (fun _ _ _ h => h) (Or.inl ⟨by rfl, ?_⟩) hS ?_
        rotate_left
        · (intro wq hq; go_simp); first | done | with_reducible rfl
        try simp only [Act.put, List.setIfInBounds_toArray, List.set_cons_zero, List.set_cons_succ]
        replace hS := Till.list 8 hS
        refine take_w (i := 9) (v := ?_) (some 61) rfl (by kernel_rfl) rfl (fun _ _ _ h => h) (Or.inl ⟨by rfl, ?_⟩) hS ?_
        rotate_left
        · (intro wq hq; go_simp); first | done | with_reducible rfl
        try simp only [Act.put, List.setIfInBounds_toArray, List.set_cons_zero, List.set_cons_succ]
        replace hS := Till.list 9 hS
        refine done_g (by kernel_rfl) (NoPanic.normal ?_) _
        clear hS
        go_wp2_with fail
        go_ret2
        exact TakeT.none HF.out hb5
    · have h1b : (x == 1) = false := by rw [beq_eq_false_iff_ne]; exact h1
      have hA := hW.all hb1 hN (zs := zs) (fun k hk hp => by
        by_cases h0 : x = 0
        · subst h0; exact wayT0 HRR.out hN hk hp
        · have h3 := (putT_of (c := (N : Int)) (by omega) HRR.out hk hp).2
          unfold bodyT at h3
          split at h3
          · rw [List.cons.injEq] at h3; exact absurd h3.1.symm h1
          · rw [List.cons.injEq] at h3; exact absurd h3.1.symm h0)
      have hb3 := Below.refl w2.heap.size w2
      clear hW hb1 hb2 bv1 hsl1 h1
      replace hv := hv.below hb3
      rcases hA.two with ⟨rfl, p, hC, hN2, hi, vo, hu, hbel⟩ | ⟨rfl, hno, hbel⟩
      rotate_left
      · have HF := Lib.hid hno
        clear hno hA
        go_wp2_with fail
        refine wp_region_noPanic ?_
        refine region_g 10 (Ext (World.drew _)) (by kernel_rfl) (Ext.refl _) (fun hS => ?_)
        refine take_w (i := 0) (v := ?_) (some 52) rfl (by kernel_rfl) rfl (fun _ _ _ h => h) (Or.inl ⟨by rfl, ?_⟩) hS ?_
        rotate_left
        · (intro wq hq; go_simp); first | done | with_reducible rfl
        try simp only [Act.put, List.setIfInBounds_toArray, List.set_cons_zero, List.set_cons_succ]
        replace hS := Till.list 0 hS
        refine take_w (i := 1) (v := ?_) (some 53) rfl (by kernel_rfl) rfl (fun _ _ _ h => h) (Or.inl ⟨by rfl, ?_⟩) hS ?_
        rotate_left
        · (intro wq hq; go_simp); first | done | with_reducible rfl
        try simp only [Act.put, List.setIfInBounds_toArray, List.set_cons_zero, List.set_cons_succ]
        replace hS := Till.list 1 hS
        refine take_w (i := 2) (v := ?_) (some 54) rfl (by kernel_rfl) rfl (fun _ _ _ h => h) (Or.inl ⟨by rfl, ?_⟩) hS ?_
        rotate_left
        · (intro wq hq; go_simp); first | done | with_reducible rfl
        try simp only [Act.put, List.setIfInBounds_toArray, List.set_cons_zero, List.set_cons_succ]
        replace hS := Till.list 2 hS
        refine take_w (i := 3) (v := undef) (some 55) rfl (by kernel_rfl) rfl (fun _ _ _ h => h) (Or.inr ⟨by rfl, rfl⟩) hS ?_
        try simp only [Act.put, List.setIfInBounds_toArray, List.set_cons_zero, List.set_cons_succ]
        replace hS := Till.list 3 hS
        refine take_w (i := 6) (v := undef) (some 58) rfl (by kernel_rfl) rfl (fun _ _ _ h => h) (Or.inr ⟨by rfl, rfl⟩) hS ?_
        try simp only [Act.put, List.setIfInBounds_toArray, List.set_cons_zero, List.set_cons_succ]
        replace hS := Till.list 6 hS
        refine take_w (i := 4) (v := undef) (some 56) rfl (by kernel_rfl) rfl (fun _ _ _ h => h) (Or.inr ⟨by rfl, rfl⟩) hS ?_
        try simp only [Act.put, List.setIfInBounds_toArray, List.set_cons_zero, List.set_cons_succ]
        replace hS := Till.list 4 hS
        refine take_w (i := 7) (v := undef) (some 59) rfl (by kernel_rfl) rfl (fun _ _ _ h => h) (Or.inr ⟨by rfl, rfl⟩) hS ?_
        try simp only [Act.put, List.setIfInBounds_toArray, List.set_cons_zero, List.set_cons_succ]
        replace hS := Till.list 7 hS
        refine take_w (i := 5) (v := undef) (some 57) rfl (by kernel_rfl) rfl (fun _ _ _ h => h) (Or.inr ⟨by rfl, rfl⟩) hS ?_
        try simp only [Act.put, List.setIfInBounds_toArray, List.set_cons_zero, List.set_cons_succ]
        replace hS := Till.list 5 hS
        refine take_w (i := 8) (v := undef) (some 60) rfl (by kernel_rfl) rfl (fun _ _ _ h => h) (Or.inr ⟨by rfl, rfl⟩) hS ?_
        try simp only [Act.put, List.setIfInBounds_toArray, List.set_cons_zero, List.set_cons_succ]
        replace hS := Till.list 8 hS
        refine take_w (i := 9) (v := ?_) (some 61) rfl (by kernel_rfl) rfl (fun _ _ _ h => h) (Or.inl ⟨by rfl, ?_⟩) hS ?_
        rotate_left
        · (intro wq hq; go_simp); first | done | with_reducible rfl
        try simp only [Act.put, List.setIfInBounds_toArray, List.set_cons_zero, List.set_cons_succ]
        replace hS := Till.list 9 hS
        refine done_g (by kernel_rfl) (NoPanic.normal ?_) _
        clear hS
        go_wp2_with fail
        go_ret2
        exact TakeT.none HF.out hbel.drew
      have HPB := Lib.hid (putT_bytes (l := p) (by rw [TV.len vo]; omega))
      by_cases hp : putT p = zs
      · have HP := Lib.hid hp
        rw [← hp] at hv
        clear hp hu hA
        have hst := str_beq HPB.out HPB.out
        go_wp2_with fail
        refine wp_region_noPanic ?_
        refine region_g 10 (Ext (World.drew _)) (by kernel_rfl) (Ext.refl _) (fun hS => ?_)
        refine take_w (i := 0) (v := ?_) (some 52) rfl (by kernel_rfl) rfl (fun _ _ _ h => h) (Or.inl ⟨by rfl, ?_⟩) hS ?_
        rotate_left
        · (intro wq hq; go_simp); first | done | with_reducible rfl
        try simp only [Act.put, List.setIfInBounds_toArray, List.set_cons_zero, List.set_cons_succ]
        replace hS := Till.list 0 hS
        refine take_w (i := 1) (v := ?_) (some 53) rfl (by kernel_rfl) rfl (fun _ _ _ h => h) (Or.inl ⟨by rfl, ?_⟩) hS ?_
        rotate_left
        · (intro wq hq; go_simp); first | done | with_reducible rfl
        try simp only [Act.put, List.setIfInBounds_toArray, List.set_cons_zero, List.set_cons_succ]
        replace hS := Till.list 1 hS
        refine take_w (i := 2) (v := ?_) (some 54) rfl (by kernel_rfl) rfl (fun _ _ _ h => h) (Or.inl ⟨by rfl, ?_⟩) hS ?_
        rotate_left
        · (intro wq hq; go_simp); first | done | with_reducible rfl
        try simp only [Act.put, List.setIfInBounds_toArray, List.set_cons_zero, List.set_cons_succ]
        replace hS := Till.list 2 hS
        refine take_w (i := 3) (v := ?_) (some 55) rfl (by kernel_rfl) rfl (fun _ _ _ h => h) (Or.inl ⟨by rfl, ?_⟩) hS ?_
        rotate_left
        · (intro wq hq; go_simp); first | done | with_reducible rfl
        try simp only [Act.put, List.setIfInBounds_toArray, List.set_cons_zero, List.set_cons_succ]
        replace hS := Till.list 3 hS
        refine take_w (i := 6) (v := ?_) (some 58) rfl (by kernel_rfl) rfl (fun _ _ _ h => h) (Or.inl ⟨by rfl, ?_⟩) hS ?_
        rotate_left
        · (intro wq hq; go_simp); first | done | with_reducible rfl
        try simp only [Act.put, List.setIfInBounds_toArray, List.set_cons_zero, List.set_cons_succ]
        replace hS := Till.list 6 hS
        refine take_n (i := 7) (v := .string (strOfNums (putT p))) (some 59) rfl (by kernel_rfl) rfl (fun _ _ _ h => h) (Or.inl ⟨by rfl, ?_⟩) hS ?_
        · (intro wq hq; (have hcv := conv_any (hv.ext hq) c; go_simp))
        try simp only [Act.put, List.setIfInBounds_toArray, List.set_cons_zero, List.set_cons_succ]
        replace hS := Till.list 7 hS
        refine ready_g (rs := [4]) (by kernel_rfl) (by simp) ?_
        refine AllReadyG.cons rfl (fun Kont hK => ?_) AllReadyG.nil
        go_simp
        refine (rputT_any _ _ _ p _ vo.drew hi.sm hN2).mono ?_
        rintro e w4 ⟨vp, rfl, op, hb4⟩
        obtain ⟨ap, cp, rfl, -, -, bp, -⟩ := op.bvn HPB.out _ rfl
        have hb5 := Below.then hbel.drew hb4
        have vo4 := vo.drew.below hb4
        refine hK.out _ _ (Or.inr ((hS.get (by kernel_rfl)).trans (Ext.below hb4))) (fun hS0 => ?_)
        clear hK Kont
        try simp only [Act.put, List.setIfInBounds_toArray, List.set_cons_zero, List.set_cons_succ]
        clear hS
        refine now_t (by kernel_rfl) hS0 (fun hS => ?_)
        clear hS0
        refine take_n (i := 5) (v := .string (strOfNums (putT p))) (some 57) rfl (by kernel_rfl) rfl (fun _ _ _ h => h) (Or.inl ⟨by rfl, ?_⟩) hS ?_
        · (intro wq hq; (have hcv := conv_any (bp.ext hq) cp; go_simp))
        try simp only [Act.put, List.setIfInBounds_toArray, List.set_cons_zero, List.set_cons_succ]
        replace hS := Till.list 5 hS
        refine take_w (i := 8) (v := ?_) (some 60) rfl (by kernel_rfl) rfl (fun _ _ _ h => h) (Or.inl ⟨by rfl, ?_⟩) hS ?_
        rotate_left
        · (intro wq hq; go_simp); first | done | with_reducible rfl
        try simp only [Act.put, List.setIfInBounds_toArray, List.set_cons_zero, List.set_cons_succ]
        replace hS := Till.list 8 hS
        refine take_w (i := 9) (v := ?_) (some 61) rfl (by kernel_rfl) rfl (fun _ _ _ h => h) (Or.inl ⟨by rfl, ?_⟩) hS ?_
        rotate_left
        · (intro wq hq; go_simp); first | done | with_reducible rfl
        try simp only [Act.put, List.setIfInBounds_toArray, List.set_cons_zero, List.set_cons_succ]
        replace hS := Till.list 9 hS
        refine done_g (by kernel_rfl) (NoPanic.normal ?_) _
        clear hS
        go_wp2_with fail
        go_ret2
        exact TakeT.done hC hN2 hi vo4 HP.out hb5
      · have HF : Hid (NoT zs) := Lib.hid (fun k hk h => hp (by rw [← hu k hk h]; exact h))
        have hst := str_beq HPB.out hv.2.1
        rw [decide_eq_false hp] at hst
        clear hp hu hA
        go_wp2_with fail
        refine wp_region_noPanic ?_
        refine region_g 10 (Ext (World.drew _)) (by kernel_rfl) (Ext.refl _) (fun hS => ?_)
        refine take_w (i := 0) (v := ?_) (some 52) rfl (by kernel_rfl) rfl (fun _ _ _ h => h) (Or.inl ⟨by rfl, ?_⟩) hS ?_
        rotate_left
        · (intro wq hq; go_simp); first | done | with_reducible rfl
        try simp only [Act.put, List.setIfInBounds_toArray, List.set_cons_zero, List.set_cons_succ]
        replace hS := Till.list 0 hS
        refine take_w (i := 1) (v := ?_) (some 53) rfl (by kernel_rfl) rfl (fun _ _ _ h => h) (Or.inl ⟨by rfl, ?_⟩) hS ?_
        rotate_left
        · (intro wq hq; go_simp); first | done | with_reducible rfl
        try simp only [Act.put, List.setIfInBounds_toArray, List.set_cons_zero, List.set_cons_succ]
        replace hS := Till.list 1 hS
        refine take_w (i := 2) (v := ?_) (some 54) rfl (by kernel_rfl) rfl (fun _ _ _ h => h) (Or.inl ⟨by rfl, ?_⟩) hS ?_
        rotate_left
        · (intro wq hq; go_simp); first | done | with_reducible rfl
        try simp only [Act.put, List.setIfInBounds_toArray, List.set_cons_zero, List.set_cons_succ]
        replace hS := Till.list 2 hS
        refine take_w (i := 3) (v := ?_) (some 55) rfl (by kernel_rfl) rfl (fun _ _ _ h => h) (Or.inl ⟨by rfl, ?_⟩) hS ?_
        rotate_left
        · (intro wq hq; go_simp); first | done | with_reducible rfl
        try simp only [Act.put, List.setIfInBounds_toArray, List.set_cons_zero, List.set_cons_succ]
        replace hS := Till.list 3 hS
        refine take_w (i := 6) (v := ?_) (some 58) rfl (by kernel_rfl) rfl (fun _ _ _ h => h) (Or.inl ⟨by rfl, ?_⟩) hS ?_
        rotate_left
        · (intro wq hq; go_simp); first | done | with_reducible rfl
        try simp only [Act.put, List.setIfInBounds_toArray, List.set_cons_zero, List.set_cons_succ]
        replace hS := Till.list 6 hS
        refine take_n (i := 7) (v := .string (strOfNums zs)) (some 59) rfl (by kernel_rfl) rfl (fun _ _ _ h => h) (Or.inl ⟨by rfl, ?_⟩) hS ?_
        · (intro wq hq; (have hcv := conv_any (hv.ext hq) c; go_simp))
        try simp only [Act.put, List.setIfInBounds_toArray, List.set_cons_zero, List.set_cons_succ]
        replace hS := Till.list 7 hS
        refine ready_g (rs := [4]) (by kernel_rfl) (by simp) ?_
        refine AllReadyG.cons rfl (fun Kont hK => ?_) AllReadyG.nil
        go_simp
        refine (rputT_any _ _ _ p _ vo.drew hi.sm hN2).mono ?_
        rintro e w4 ⟨vp, rfl, op, hb4⟩
        obtain ⟨ap, cp, rfl, -, -, bp, -⟩ := op.bvn HPB.out _ rfl
        have hb5 := Below.then hbel.drew hb4
        refine hK.out _ _ (Or.inr ((hS.get (by kernel_rfl)).trans (Ext.below hb4))) (fun hS0 => ?_)
        clear hK Kont
        try simp only [Act.put, List.setIfInBounds_toArray, List.set_cons_zero, List.set_cons_succ]
        clear hS
        refine now_t (by kernel_rfl) hS0 (fun hS => ?_)
        clear hS0
        refine take_n (i := 5) (v := .string (strOfNums (putT p))) (some 57) rfl (by kernel_rfl) rfl (fun _ _ _ h => h) (Or.inl ⟨by rfl, ?_⟩) hS ?_
        · (intro wq hq; (have hcv := conv_any (bp.ext hq) cp; go_simp))
        try simp only [Act.put, List.setIfInBounds_toArray, List.set_cons_zero, List.set_cons_succ]
        replace hS := Till.list 5 hS
        refine take_w (i := 8) (v := ?_) (some 60) rfl (by kernel_rfl) rfl (fun _ _ _ h => h) (Or.inl ⟨by rfl, ?_⟩) hS ?_
        rotate_left
        · (intro wq hq; go_simp); first | done | with_reducible rfl
        try simp only [Act.put, List.setIfInBounds_toArray, List.set_cons_zero, List.set_cons_succ]
        replace hS := Till.list 8 hS
        refine take_w (i := 9) (v := ?_) (some 61) rfl (by kernel_rfl) rfl (fun _ _ _ h => h) (Or.inl ⟨by rfl, ?_⟩) hS ?_
        rotate_left
        · (intro wq hq; go_simp); first | done | with_reducible rfl
        try simp only [Act.put, List.setIfInBounds_toArray, List.set_cons_zero, List.set_cons_succ]
        replace hS := Till.list 9 hS
        refine done_g (by kernel_rfl) (NoPanic.normal ?_) _
        clear hS
        go_wp2_with fail
        go_ret2
        exact TakeT.none HF.out hb5
end Go.Proofs.YtbfihajgjbpmaaaGreat
