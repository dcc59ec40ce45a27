/- The document's own answers for layer 6: Each, place, Dict, Put. -/
import Derived.Test.YtmoppmifhhnolaaT6c
import Derived.Test.YtmoppmifhhnolaaE
import Derived.Test.YtmoppmifhhnolaaR2
namespace Go.Proofs.Ytmoppmifhhnolaa
open Go.ChangeShapes Go.WideShapes Go.ChangeAt Go.RowKit
set_option linter.unusedVariables false

set_option maxHeartbeats 2000000 in
theorem reach6_any (A : Option Addr) (N C : Nat) (l : List ByteArray) (w : World) (hv : TV w A N l) (hr : Sm l) (hN : N ≤ 2000) :
    Calls Try.prog 15 #[.slice A N C] w fun e w' => ∃ v, e = .returned v ∧ OW w' w.heap.size v (eachL l) ∧ Below w.heap.size w w' := by
  have hl := Lib.hid (TV.len hv)
  go_enter Try.func15, Try.ntmps15
  go_wp2_with fail
  go_loopw [3, 4] (fun v i wr => ∃ (j : Nat) (bs : List Int), j ≤ N ∧ i = .int .i64 (j : Int) ∧ Hid (bs = eachL (l.take j)) ∧ bs.length ≤ 210 * j ∧ OW wr w.heap.size v bs ∧ Below w.heap.size w wr) (fun _ i _ => N - (intOf i).toNat)
  case atStart => exact ⟨0, [], by omega, rfl, Lib.hid rfl, by simp, OW.empty w w.heap.size (Nat.le_refl _) _ rfl, Joins.below_alloc1 _ _⟩
  case round =>
    obtain ⟨j, bs, hj, rfl, HB, hbl, ho, hbel⟩ := hrel
    by_cases hlt : j < N
    · obtain ⟨b, off, rfl, hcl⟩ := TV.at hv j hlt
      have hcl' := keepc hcl hbel
      have hx := hr.at j
      have HS := Lib.hid (take_snocT l j (by rw [hl.out]; exact hlt))
      generalize l.getD j ⟨#[]⟩ = x at hcl hcl' hx HS
      have hji : (j : Int) < (N : Int) := by omega
      obtain ⟨u, hu⟩ : ∃ u : Nat, x.size = u := ⟨_, rfl⟩
      have HU := Lib.hid hu
      rw [hu] at hx
      have hwu : IntKind.u64.wrap (u : Int) = (u : Int) := u64_same (by omega) (by omega)
      have hlp := pv_len10 (x := (u : Int)) (by omega)
      have hsz := hbel.size
      go_wp2_with fail
      refine wp_region_noPanic ?_
      refine region_g 13 (fun wq => wq.cell? ⟨b, off + j, none⟩ = some (.string x)) (by kernel_rfl) (hcl') (fun hS => ?_)
      refine take_w (i := 0) (v := ?_) (some 12) rfl (by kernel_rfl) rfl (fun _ _ _ h => h) (Or.inl ⟨by rfl, ?_⟩) hS ?_
      rotate_left
      · (intro wq hq; go_simp); first | done | with_reducible rfl
      try simp only [Act.put, List.setIfInBounds_toArray, List.set_cons_zero, List.set_cons_succ]
      replace hS := Till.list 0 hS
      refine take_w (i := 1) (v := ?_) (some 13) rfl (by kernel_rfl) rfl (fun _ _ _ h => h) (Or.inl ⟨by rfl, ?_⟩) hS ?_
      rotate_left
      · (intro wq hq; go_simp); first | done | with_reducible rfl
      try simp only [Act.put, List.setIfInBounds_toArray, List.set_cons_zero, List.set_cons_succ]
      replace hS := Till.list 1 hS
      refine take_w (i := 2) (v := ?_) (some 14) rfl (by kernel_rfl) rfl (fun _ _ _ h => h) (Or.inl ⟨by rfl, ?_⟩) hS ?_
      rotate_left
      · (intro wq hq; go_simp); first | done | with_reducible rfl
      try simp only [Act.put, List.setIfInBounds_toArray, List.set_cons_zero, List.set_cons_succ]
      replace hS := Till.list 2 hS
      refine take_w (i := 9) (v := ?_) (some 21) rfl (by kernel_rfl) rfl (fun _ _ _ h => h) (Or.inl ⟨by rfl, ?_⟩) hS ?_
      rotate_left
      · (intro wq hq; go_simp); first | done | with_reducible rfl
      try simp only [Act.put, List.setIfInBounds_toArray, List.set_cons_zero, List.set_cons_succ]
      replace hS := Till.list 9 hS
      refine take_w (i := 10) (v := ?_) (some 22) rfl (by kernel_rfl) rfl (fun _ _ _ h => h) (Or.inl ⟨by rfl, ?_⟩) hS ?_
      rotate_left
      · (intro wq hq; go_simp); first | done | with_reducible rfl
      try simp only [Act.put, List.setIfInBounds_toArray, List.set_cons_zero, List.set_cons_succ]
      replace hS := Till.list 10 hS
      refine take_w (i := 3) (v := ?_) (some 15) rfl (by kernel_rfl) rfl (fun _ _ _ h => h) (Or.inl ⟨by rfl, ?_⟩) hS ?_
      rotate_left
      · (intro wq hq; go_simp); first | done | with_reducible rfl
      try simp only [Act.put, List.setIfInBounds_toArray, List.set_cons_zero, List.set_cons_succ]
      replace hS := Till.list 3 hS
      refine take_w (i := 11) (v := ?_) (some 23) rfl (by kernel_rfl) rfl (fun _ _ _ h => h) (Or.inl ⟨by rfl, ?_⟩) hS ?_
      rotate_left
      · (intro wq hq; go_simp); first | done | with_reducible rfl
      try simp only [Act.put, List.setIfInBounds_toArray, List.set_cons_zero, List.set_cons_succ]
      replace hS := Till.list 11 hS
      refine take_g (i := 4) (v := ?_) [8, 7, 6, 5, 4] (some 16) rfl (by kernel_rfl) rfl (fun _ _ _ h => h) (Or.inl ⟨by rfl, ?_⟩) hS ?_
      rotate_left
      · (intro wq hq; skip; go_simp); first | done | with_reducible rfl
      try simp only [Act.put, List.setIfInBounds_toArray, List.set_cons_zero, List.set_cons_succ]
      replace hS := Till.list 4 hS
      refine take_g (i := 12) (v := ?_) [12] (some 24) rfl (by kernel_rfl) rfl (fun _ _ _ h => h) (Or.inl ⟨by rfl, ?_⟩) hS ?_
      rotate_left
      · (intro wq hq; skip; go_simp); first | done | with_reducible rfl
      try simp only [Act.put, List.setIfInBounds_toArray, List.set_cons_zero, List.set_cons_succ]
      replace hS := Till.list 12 hS
      refine take_w (i := 5) (v := ?_) (some 17) rfl (by kernel_rfl) rfl (fun _ _ _ h => h) (Or.inl ⟨by rfl, ?_⟩) hS ?_
      rotate_left
      · (intro wq hq; go_simp); first | done | with_reducible rfl
      try simp only [Act.put, List.setIfInBounds_toArray, List.set_cons_zero, List.set_cons_succ]
      replace hS := Till.list 5 hS
      refine take_w (i := 6) (v := ?_) (some 18) rfl (by kernel_rfl) rfl (fun _ _ _ h => h) (Or.inl ⟨by rfl, ?_⟩) hS ?_
      rotate_left
      · (intro wq hq; go_simp); first | done | with_reducible rfl
      try simp only [Act.put, List.setIfInBounds_toArray, List.set_cons_zero, List.set_cons_succ]
      replace hS := Till.list 6 hS
      refine ready_g (rs := [7]) (by kernel_rfl) (by simp) ?_
      refine AllReadyG.cons rfl (fun Kont hK => ?_) AllReadyG.nil
      go_simp
      refine (rputvar_any (u : Int) _ (by omega) (by omega)).mono ?_
      clear hu
      rintro e w1 ⟨v1, rfl, ob, hb1⟩
      obtain ⟨a1, c1, rfl, -, bv1, -⟩ := ob.bvn (pv_bytes (by omega)) _ rfl
      have ho1 := ho.drew.below hb1
      have hw1 := Below.then hbel.drew hb1
      have hs1 := hw1.size
      clear ho hbel hb1 ob
      refine hK.out _ _ (Or.inr (keepc hcl hw1)) (fun hS0 => ?_)
      clear hK Kont
      try simp only [Act.put, List.setIfInBounds_toArray, List.set_cons_zero, List.set_cons_succ]
      clear hS
      have hS := hS0
      clear hS0
      refine ready_g (rs := [8]) (by kernel_rfl) (by simp) ?_
      refine AllReadyG.cons rfl (fun Kont hK => ?_) AllReadyG.nil
      refine want (by kernel_rfl) ?_
      refine wp_append_ow (some 20) rfl (.tmp 12) (.tmp 19) rfl w.heap.size _ bs rfl ho1 _ _ _ _ rfl bv1 (by omega) hs1 ?_
      intro v2 w2 ho2 hb2
      have hw2 := hw1.trans hb2
      refine hK.out _ _ (Or.inr (keepc hcl hw2)) (fun hS0 => ?_)
      clear hK Kont
      try simp only [Act.put, List.setIfInBounds_toArray, List.set_cons_zero, List.set_cons_succ]
      clear hS
      have hS := hS0
      clear hS0
      refine ready_g (rs := [13]) (by kernel_rfl) (by simp) ?_
      refine AllReadyG.cons rfl (fun Kont hK => ?_) AllReadyG.nil
      refine want (by kernel_rfl) ?_
      refine wp_append_str (some 25) rfl (.tmp 20) (.tmp 24) rfl w.heap.size _ _ rfl ho2 x rfl (by rw [List.length_append, HU.out]; omega) (Nat.le_trans hs1 hb2.size) ?_
      intro v3 w3 ho3 hb3 _ _
      refine hK.out _ _ (Or.inl (by kernel_rfl)) (fun hS0 => ?_)
      clear hK Kont
      try simp only [Act.put, List.setIfInBounds_toArray, List.set_cons_zero, List.set_cons_succ]
      clear hS
      have hS := hS0
      clear hS0
      refine take_w (i := 14) (v := ?_) (some 3) rfl (by kernel_rfl) rfl (fun _ _ _ h => h) (Or.inl ⟨by rfl, ?_⟩) hS ?_
      rotate_left
      · (intro wq hq; go_simp); first | done | with_reducible rfl
      try simp only [Act.put, List.setIfInBounds_toArray, List.set_cons_zero, List.set_cons_succ]
      replace hS := Till.list 14 hS
      refine done_g (by kernel_rfl) (NoPanic.normal ?_) _
      clear hS
      go_wp2_with fail
      go_roundw
      case rel => exact ⟨j + 1, _, by omega, by go_num, Lib.hid (by rw [HS.out, eachL_snoc, ← HB.out, HU.out, List.append_assoc]), by rw [List.length_append, List.length_append, nums_len, HU.out]; omega, ho3, hw2.trans hb3⟩
      case measure => simp [intOf]; omega
    · obtain rfl : j = N := by omega
      have HB' : Hid (bs = eachL l) := Lib.hid (by rw [HB.out, ← hl.out, List.take_length])
      go_wp2_with fail
      go_ret
      exact ⟨_, rfl, by rw [← HB'.out]; exact ho, hbel⟩
theorem place_first : ∀ {ws : List ByteArray} {s : ByteArray} {j : Nat}, j < ws.length → ws.getD j ⟨#[]⟩ = s → (∀ i, i < j → ws.getD i ⟨#[]⟩ ≠ s) → placeB ws s = j
  | [], s, j, hj, _, _ => by simp at hj
  | x :: ws, s, 0, hj, he, _ => by
    have : x = s := by simpa [List.getD] using he
    rw [placeB, if_pos this]
  | x :: ws, s, j + 1, hj, he, hn => by
    have h0 : x ≠ s := by have := hn 0 (by omega); simpa [List.getD] using this
    rw [placeB, if_neg h0, place_first (ws := ws) (s := s) (j := j) (by simpa using hj) (by simpa [List.getD] using he) (fun i hi => by have := hn (i + 1) (by omega); simpa [List.getD] using this)]
theorem getD_mem6 {ws : List ByteArray} {j : Nat} (hj : j < ws.length) : ws.getD j ⟨#[]⟩ ∈ ws := by
  have : ws.getD j ⟨#[]⟩ = ws[j] := by simp [List.getD, hj]
  rw [this]; exact List.getElem_mem hj
theorem there_none {ws : List ByteArray} {s : ByteArray} (h : ∀ i, i < ws.length → ws.getD i ⟨#[]⟩ ≠ s) : thereB ws s = false := by
  refine there_not.2 (fun hm => ?_)
  obtain ⟨i, hi, he⟩ := List.mem_iff_getElem.1 hm
  exact h i hi (by simp [List.getD, hi, he])
/-- the place that is told: -1, if the text is not there -/
def placeR (ws : List ByteArray) (s : ByteArray) : Int := if thereB ws s = true then (placeB ws s : Int) else -1
set_option maxHeartbeats 1000000 in
theorem rplace6_any (A : Option Addr) (N C : Nat) (ws : List ByteArray) (s : ByteArray) (w : World) (hv : TV w A N ws) (hN : N ≤ 2000) :
    Calls Try.prog 28 #[.slice A N C, .string s] w fun e w' => e = .returned (.int .i64 (placeR ws s)) ∧ w' = w := by
  have hl := Lib.hid (TV.len hv)
  go_enter Try.func28, Try.ntmps28
  go_wp2
  go_loop [5] (fun i => ∃ j : Nat, j ≤ N ∧ i = .int .i64 (j : Int) ∧ Hid (∀ i, i < j → ws.getD i ⟨#[]⟩ ≠ s)) (fun i => N - (intOf i).toNat)
  case atStart => exact ⟨0, by omega, rfl, Lib.hid (fun i hi => by omega)⟩
  case round =>
    obtain ⟨j, hj, rfl, HT⟩ := hrel
    by_cases hlt : j < N
    · obtain ⟨b, off, rfl, hc⟩ := TV.at hv j hlt
      have hji : (j : Int) < (N : Int) := by omega
      by_cases hx : ws.getD j ⟨#[]⟩ = s
      · have HR : Hid (placeR ws s = (j : Int)) := Lib.hid (by
          have hm : s ∈ ws := by rw [← hx]; exact getD_mem6 (by rw [hl.out]; exact hlt)
          rw [placeR, if_pos (there_iff.2 hm), place_first (by rw [hl.out]; exact hlt) hx HT.out])
        rw [hx] at hc
        have hss : (s.toList == s.toList) = true := by simp
        clear hx
        go_wp2
        go_ret
        exact ⟨ret_int HR.out.symm, rfl⟩
      · have HT' : Hid (∀ i, i < j + 1 → ws.getD i ⟨#[]⟩ ≠ s) := Lib.hid (fun i hi => by
          by_cases hij : i < j
          · exact HT.out i hij
          · obtain rfl : i = j := by omega
            exact hx)
        generalize ws.getD j ⟨#[]⟩ = x at hc hx
        have hne : (x.toList == s.toList) = false := by rw [beq_eq_false_iff_ne]; exact fun h => hx (toList_inj h)
        clear hx
        go_wp2
        go_round
        case rel => exact ⟨j + 1, by omega, by go_num, HT'⟩
        case measure => simp [intOf]; omega
    · obtain rfl : j = N := by omega
      have HR : Hid (placeR ws s = -1) := Lib.hid (by rw [placeR, there_none (fun i hi => HT.out i (by rw [← hl.out]; exact hi))]; rfl)
      go_wp2
      go_ret
      exact ⟨ret_int HR.out.symm, rfl⟩
end Go.Proofs.Ytmoppmifhhnolaa
