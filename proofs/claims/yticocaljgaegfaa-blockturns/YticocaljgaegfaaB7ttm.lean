/-
  BlockTurns: for every byte, every list of values and every number of 16 bits the statement's function returns true, and its arguments read as they did. No condition.
-/
import Derived.Test.YticocaljgaegfaaBlock
import Derived.Test.YticocaljgaegfaaBase
import Derived.Test.YticocaljgaegfaaBlockOwn
import Derived.Test.YticocaljgaegfaaRows
import Derived.WalkKit
import Derived.ProofKit
import Derived.OpenShut
import Derived.ShutString
import Derived.ChangeOld
import Derived.Below
import Derived.Test.YticocaljgaegfaaVals
/- The statements' own helpers of stage 7: shown, few; Same. -/
namespace Go.Proofs.Yticocaljgaegfaa
open Go.ChangeShapes Go.WideShapes Go.ChangeAt Go.RowKit
set_option linter.unusedVariables false

theorem shown7_put : putI [] = [0, 0] := by
  have h : shortB [] = false := rfl
  rw [putI, bodyI, h]
  show pv 0 ++ _ = _
  rw [pv_small (by omega)]; rfl
theorem shown7_block : ∃ a b c d, blockL 1 [] = [3, a, b, c, d, 1, 0, 0] := by
  have hd : dataL 1 [] = [1, 0, 0] := by rw [dataL, bare_num (.inl rfl)]; show 1 :: putI [] = _; rw [shown7_put]
  have hq := sealL_len [1, 0, 0]
  rw [blockL, hd, frameL]
  generalize sealL [1, 0, 0] = q at hq
  match q, hq with
  | [a, b, c, d], _ => exact ⟨a, b, c, d, by rw [show (([1, 0, 0] : List Int).length : Int) = 3 from rfl, pv_small (by omega)]; rfl⟩
set_option maxHeartbeats 1000000 in
theorem shown7_is (w : World) : Calls Try.prog 9 #[] w fun e w' => e = .returned (.bool true) ∧ Below w.heap.size w w' := by
  go_enter Try.func9, Try.ntmps9
  go_wp2_with fail
  refine (bput_any 1 none 0 0 [] _ (SV.zero _ _) (fun v hv => by cases hv) (by omega)).mono ?_
  rintro e w1 he
  rcases he with ⟨hc, ⟨v, rfl, ho⟩, hb⟩ | ⟨hc, -, -⟩
  · obtain ⟨a, b, c, d, hB⟩ := shown7_block
    have hbb := block_bytes hc
    rw [hB] at ho hbb
    obtain ⟨ad, cp, rfl, -, -, bv, -⟩ := ho.bvn hbb 8 rfl
    obtain ⟨g, off, rfl, hcell⟩ := bv.opened (by omega)
    have c0 : w1.cell? ⟨g, off, none⟩ = some (.int .u8 3) := hcell 0 (by omega)
    have c5 : w1.cell? ⟨g, off + 5, none⟩ = some (.int .u8 1) := hcell 5 (by omega)
    have c6 : w1.cell? ⟨g, off + 6, none⟩ = some (.int .u8 0) := hcell 6 (by omega)
    have c7 : w1.cell? ⟨g, off + 7, none⟩ = some (.int .u8 0) := hcell 7 (by omega)
    clear hcell bv ho hbb hB hc
    go_wp2_with fail
    go_ret
    exact ⟨rfl, hb⟩
  · cases hc
/-- where a slice of the call's own lies -/
theorem OS.where {k : Nat} {w : World} {base : Nat} {A : Option Addr} {N C : Nat} {n : Nat} {cs : List Value} (h : OS k w base (.slice A N C) n cs) : (A = none ∧ N = 0 ∧ C = 0) ∨ ∃ g, A = some ⟨g, 0, none⟩ ∧ base ≤ g ∧ g < w.heap.size := by
  rcases h.2.2 with ⟨hv, _⟩ | ⟨g, cap, cur, T, hv, hg, hh, _⟩
  · cases hv; exact .inl ⟨rfl, rfl, rfl⟩
  · cases hv; exact .inr ⟨g, rfl, hg, heap_lt hh⟩
def cutV (v : Int × ByteArray) : Int × ByteArray := (v.1, cut 70 v.2)
/-- the first values of some that are few -/
def fewP (l : List (Int × ByteArray)) (j : Nat) : List (Int × ByteArray) := (l.take j).map cutV
theorem fewP_snoc {l : List (Int × ByteArray)} {j : Nat} (h : j < l.length) : fewP l (j + 1) = fewP l j ++ [cutV (l.getD j v0)] := by
  rw [fewP, List.take_succ_eq_append_getElem h, List.map_append]; simp [fewP, List.getD, h]
theorem fewP_rg {l : List (Int × ByteArray)} (h : RgV l) (j : Nat) : RgV (fewP l j) := by
  intro v hv
  obtain ⟨x, hx, rfl⟩ := List.mem_map.1 hv
  exact h x (List.mem_of_mem_take hx)
/-- what few tells -/
def FewV (w w' : World) (l0 : List (Int × ByteArray)) (e : Ending) : Prop :=
  ∃ (A : Option Addr) (N C : Nat) (l : List (Int × ByteArray)), e = .returned (.slice A N C) ∧ N ≤ C ∧ N ≤ 60 ∧ WV w' A N l ∧ RgV l ∧ Hid (l = fewP l0 60) ∧ OS 2 w' w.heap.size (.slice A N C) N (vcells l) ∧ Below w.heap.size w w'
set_option maxHeartbeats 4000000 in
theorem few7_any (R : Option Addr) (n c : Nat) (l : List (Int × ByteArray)) (w : World) (hr : WV w R n l) (hn : n ≤ maxLen) (hg : RgV l) :
    Calls Try.prog 10 #[.slice R n c] w fun e w' => FewV w w' l e := by
  unfold maxLen at hn
  have hl2 := Lib.hid (WV.len hr)
  have ho0 : OS 2 (w.alloc (.cells #[] 35)) w.heap.size (.slice (some ⟨w.heap.size, 0, none⟩) 0 0) 0 (vcells (fewP l 0)) := OS.lit (k := 2) w w.heap.size (by simp) [] 0 35 rfl (by simp) (by simp) _ (by simp)
  go_enter Try.func10, Try.ntmps10
  go_wp2_with fail
  go_loopw [3, 4] (fun o i wr => ∃ (j : Nat) (a : Option Addr) (c : Nat), j ≤ n ∧ j ≤ 60 ∧ i = .int .i64 (j : Int) ∧ o = .slice a j c ∧ OS 2 wr w.heap.size (.slice a j c) j (vcells (fewP l j)) ∧ Below w.heap.size w wr) (fun _ i _ => 60 - (intOf i).toNat)
  case atStart => exact ⟨0, _, _, by omega, by omega, rfl, rfl, ho0, Joins.below_alloc1 _ _⟩
  case round =>
    clear ho0
    obtain ⟨j, a, c', hj, hj7, rfl, rfl, ho, hbel⟩ := hrel
    have hsz := hbel.size
    by_cases hlt : j < n
    · by_cases h7 : j < 60
      · obtain ⟨b2, off2, rfl, hd1, hd2⟩ := WV.at hr j hlt
        have hd1 := keepc hd1 hbel
        have hd2 := keepc hd2 hbel
        have lb2 := cell_lt hd1
        have HS := Lib.hid (fewP_snoc (l := l) (j := j) (by rw [hl2.out]; exact hlt))
        generalize l.getD j v0 = y at hd1 hd2 HS
        by_cases hs : y.2.size ≤ 70
        · have hs' : (y.2.size : Int) ≤ 70 := by omega
          go_wp2_with (refine append_os el_vals rfl (.tmp 29) (.tmp 31) rfl w.heap.size _ j _ rfl ((ho.alloc _).alloc _) _ 1 1 [.int .i64 y.1, .string y.2] rfl (SV.lit' (k := 2) _ [.int .i64 y.1, .string y.2] 1 35 rfl (two_one _ _) _ (by simp)) (by omega) (by omega) (by simp; omega) ?_; intro v2 w2 ho2 hb2)
          obtain ⟨a3, c3, rfl⟩ := ho2.shape
          have hw2 : Below w.heap.size w w2 := ((hbel.alloc (by omega) _).alloc (by simp; omega) _).trans (hb2.mono (by omega))
          have ho3 : OS 2 w2 w.heap.size (.slice a3 (j + 1) c3) (j + 1) (vcells (fewP l (j + 1))) := by
            rw [HS.out, vcells_app]
            simpa only [vcells, cutV, cut_all hs] using ho2
          go_wp2_with fail
          go_roundw
          case rel => exact ⟨j + 1, a3, c3, by omega, by omega, by go_num, rfl, ho3, hw2⟩
          case measure => simp [intOf]; omega
        · have hs' : ¬ (y.2.size : Int) ≤ 70 := by omega
          go_wp2_with (refine append_os el_vals rfl (.tmp 29) (.tmp 31) rfl w.heap.size _ j _ rfl ((ho.alloc _).alloc _) _ 1 1 [.int .i64 y.1, .string (y.2.extract 0 70)] rfl (SV.lit' (k := 2) _ [.int .i64 y.1, .string (y.2.extract 0 70)] 1 35 rfl (two_one _ _) _ (by simp)) (by omega) (by omega) (by simp; omega) ?_; intro v2 w2 ho2 hb2)
          obtain ⟨a3, c3, rfl⟩ := ho2.shape
          have hw2 : Below w.heap.size w w2 := ((hbel.alloc (by omega) _).alloc (by simp; omega) _).trans (hb2.mono (by omega))
          have ho3 : OS 2 w2 w.heap.size (.slice a3 (j + 1) c3) (j + 1) (vcells (fewP l (j + 1))) := by
            rw [HS.out, vcells_app]
            simpa only [vcells, cutV, cut_part hs] using ho2
          go_wp2_with fail
          go_roundw
          case rel => exact ⟨j + 1, a3, c3, by omega, by omega, by go_num, rfl, ho3, hw2⟩
          case measure => simp [intOf]; omega
      · have HE := Lib.hid (show fewP l j = fewP l 60 by rw [show j = 60 by omega])
        obtain ⟨A3, C3, hA3, hC, -, tv, -, -⟩ := ho.sv
        cases hA3
        go_wp2_with fail
        go_ret
        exact ⟨_, _, _, _, rfl, hC, by omega, tv, fewP_rg hg _, HE, ho, hbel⟩
    · obtain rfl : j = n := by omega
      have HE := Lib.hid (show fewP l j = fewP l 60 by rw [fewP, fewP, List.take_of_length_le (by rw [hl2.out]; omega), List.take_of_length_le (by rw [hl2.out]; omega)])
      obtain ⟨A3, C3, hA3, hC, -, tv, -, -⟩ := ho.sv
      cases hA3
      go_wp2_with fail
      go_ret
      exact ⟨_, _, _, _, rfl, hC, by omega, tv, fewP_rg hg _, HE, ho, hbel⟩
/-- those of some values that fit -/
def fitA (t : Int) (l : List (Int × ByteArray)) : List (Int × ByteArray) := l.filter (fun v => fitsB t v.1 v.2)
def fitL (t : Int) (l : List (Int × ByteArray)) (j : Nat) : List (Int × ByteArray) := fitA t (l.take j)
theorem fitL_snoc {t : Int} {l : List (Int × ByteArray)} {j : Nat} (h : j < l.length) : fitL t l (j + 1) = fitL t l j ++ (if fitsB t (l.getD j v0).1 (l.getD j v0).2 = true then [l.getD j v0] else []) := by
  rw [fitL, fitA, List.take_succ_eq_append_getElem h, List.filter_append]
  simp [fitL, fitA, List.getD, h, List.filter_cons]
theorem fitA_col {t : Int} {l : List (Int × ByteArray)} (ht : 1 ≤ t ∧ t ≤ 3) (hl : l.length ≤ 2000) : colB t (fitA t l) = true := by
  refine colB_iff.2 ⟨ht, Nat.le_trans (List.length_filter_le _ _) hl, fun v hv => ?_⟩
  exact (List.mem_filter.1 hv).2
theorem fitA_rg {t : Int} {l : List (Int × ByteArray)} (h : RgV l) : RgV (fitA t l) := fun v hv => h v (List.mem_filter.1 hv).1
theorem eqv_ne (y z : Int × ByteArray) (w : World) : (if y.1 = z.1 then if y.2.toList = z.2.toList then Result.ok (Next.value (.bool false)) w else Result.ok (Next.value (.bool true)) w else Result.ok (Next.value (.bool true)) w) = Result.ok (Next.value (.bool (!decide (y = z)))) w := by
  obtain ⟨a, s⟩ := y
  obtain ⟨b, t⟩ := z
  by_cases h1 : a = b
  · by_cases h2 : s = t
    · simp [h1, h2]
    · have : ¬ s.toList = t.toList := fun h => h2 (toList_inj h)
      simp [h1, h2, this]
  · simp [h1]
theorem listV_getD {ts us : List (Int × ByteArray)} (hl : ts.length = us.length) (h : ∀ i, i < ts.length → ts.getD i v0 = us.getD i v0) : ts = us := by
  refine List.ext_getElem hl (fun i h1 h2 => ?_)
  have := h i h1
  simpa [List.getD, h1, h2] using this
set_option maxHeartbeats 2000000 in
theorem same7_any (A : Option Addr) (N C : Nat) (l : List (Int × ByteArray)) (A' : Option Addr) (N' C' : Nat) (k : List (Int × ByteArray)) (w : World) (hv : WV w A N l) (hv' : WV w A' N' k) (hN : N ≤ 1000000) (hN' : N' ≤ 1000000) :
    Calls Try.prog 15 #[.slice A N C, .slice A' N' C'] w fun e w' => e = .returned (.bool (decide (l = k))) ∧ Below w.heap.size w w' := by
  have hl := Lib.hid (WV.len hv)
  have hl' := Lib.hid (WV.len hv')
  by_cases h1 : N = N'
  · subst h1
    go_enter Try.func15, Try.ntmps15
    go_wp2_with fail
    go_loopw [5] (fun i wr => ∃ j : Nat, j ≤ N ∧ i = .int .i64 (j : Int) ∧ Hid (∀ i, i < j → l.getD i v0 = k.getD i v0) ∧ Below w.heap.size w wr) (fun i _ => N - (intOf i).toNat)
    case atStart => exact ⟨0, by omega, rfl, Lib.hid (fun i hi => by omega), Below.refl _ _⟩
    case round =>
      obtain ⟨j, hj, rfl, HT, hbel⟩ := hrel
      by_cases hlt : j < N
      · obtain ⟨b, off, rfl, hd1, hd2⟩ := WV.at hv j hlt
        obtain ⟨b', off', rfl, he1, he2⟩ := WV.at hv' j hlt
        replace hd1 := keepc hd1 hbel
        replace hd2 := keepc hd2 hbel
        replace he1 := keepc he1 hbel
        replace he2 := keepc he2 hbel
        have hji : (j : Int) < (N : Int) := by omega
        generalize hx1 : l.getD j v0 = y at hd1 hd2
        generalize hy1 : k.getD j v0 = z at he1 he2
        have HX := Lib.hid hx1
        have HY := Lib.hid hy1
        clear hx1 hy1 hv hv'
        go_wp2_with fail
        refine wp_region_noPanic ?_
        refine region_g 9 (Ext (World.drew _)) (by kernel_rfl) (Ext.refl _) (fun hS => ?_)
        refine take_w (i := 0) (v := ?_) (some 17) rfl (by kernel_rfl) rfl (fun _ _ _ h => h) (Or.inl ⟨by rfl, ?_⟩) hS ?_
        rotate_left
        · (intro wq hq; go_simp); first | done | with_reducible rfl
        try simp only [Act.put, List.setIfInBounds_toArray, List.set_cons_zero, List.set_cons_succ]
        replace hS := Till.list 0 hS
        refine take_w (i := 1) (v := ?_) (some 18) rfl (by kernel_rfl) rfl (fun _ _ _ h => h) (Or.inl ⟨by rfl, ?_⟩) hS ?_
        rotate_left
        · (intro wq hq; go_simp); first | done | with_reducible rfl
        try simp only [Act.put, List.setIfInBounds_toArray, List.set_cons_zero, List.set_cons_succ]
        replace hS := Till.list 1 hS
        refine take_w (i := 4) (v := ?_) (some 21) rfl (by kernel_rfl) rfl (fun _ _ _ h => h) (Or.inl ⟨by rfl, ?_⟩) hS ?_
        rotate_left
        · (intro wq hq; go_simp); first | done | with_reducible rfl
        try simp only [Act.put, List.setIfInBounds_toArray, List.set_cons_zero, List.set_cons_succ]
        replace hS := Till.list 4 hS
        refine take_w (i := 5) (v := ?_) (some 22) rfl (by kernel_rfl) rfl (fun _ _ _ h => h) (Or.inl ⟨by rfl, ?_⟩) hS ?_
        rotate_left
        · (intro wq hq; go_simp); first | done | with_reducible rfl
        try simp only [Act.put, List.setIfInBounds_toArray, List.set_cons_zero, List.set_cons_succ]
        replace hS := Till.list 5 hS
        refine take_w (i := 2) (v := ?_) (some 19) rfl (by kernel_rfl) rfl (fun _ _ _ h => h) (Or.inl ⟨by rfl, ?_⟩) hS ?_
        rotate_left
        · (intro wq hq; go_simp); first | done | with_reducible rfl
        try simp only [Act.put, List.setIfInBounds_toArray, List.set_cons_zero, List.set_cons_succ]
        replace hS := Till.list 2 hS
        refine take_w (i := 6) (v := ?_) (some 23) rfl (by kernel_rfl) rfl (fun _ _ _ h => h) (Or.inl ⟨by rfl, ?_⟩) hS ?_
        rotate_left
        · (intro wq hq; go_simp); first | done | with_reducible rfl
        try simp only [Act.put, List.setIfInBounds_toArray, List.set_cons_zero, List.set_cons_succ]
        replace hS := Till.list 6 hS
        refine take_n (i := 3) (v := ?_) (some 20) rfl (by kernel_rfl) rfl (fun _ _ _ h => h) (Or.inl ⟨by rfl, ?_⟩) hS ?_
        rotate_left
        · (intro wq hq; have q0 := hq _ _ _ hd1; have q1 := hq _ _ _ hd2; have q2 := hq _ _ _ he1; have q3 := hq _ _ _ he2; go_simp); first | done | with_reducible rfl
        try simp only [Act.put, List.setIfInBounds_toArray, List.set_cons_zero, List.set_cons_succ]
        replace hS := Till.list 3 hS
        refine take_n (i := 7) (v := ?_) (some 24) rfl (by kernel_rfl) rfl (fun _ _ _ h => h) (Or.inl ⟨by rfl, ?_⟩) hS ?_
        rotate_left
        · (intro wq hq; have q0 := hq _ _ _ hd1; have q1 := hq _ _ _ hd2; have q2 := hq _ _ _ he1; have q3 := hq _ _ _ he2; go_simp); first | done | with_reducible rfl
        try simp only [Act.put, List.setIfInBounds_toArray, List.set_cons_zero, List.set_cons_succ]
        replace hS := Till.list 7 hS
        refine take_n (i := 8) (v := .bool (!decide (y = z))) (some 25) rfl (by kernel_rfl) rfl (fun _ _ _ h => h) (Or.inl ⟨by rfl, ?_⟩) hS ?_
        · (intro wq hq; (go_simp; exact eqv_ne y z wq))
        try simp only [Act.put, List.setIfInBounds_toArray, List.set_cons_zero, List.set_cons_succ]
        replace hS := Till.list 8 hS
        refine done_g (by kernel_rfl) (NoPanic.normal ?_) _
        clear hS
        clear hd1 hd2 he1 he2
        by_cases hxy : y = z
        · have HT' : Hid (∀ i, i < j + 1 → l.getD i v0 = k.getD i v0) := Lib.hid (fun i hi => by
            by_cases hij : i < j
            · exact HT.out i hij
            · obtain rfl : i = j := by omega
              rw [HX.out, HY.out, hxy])
          rw [decide_eq_true hxy]
          clear hxy
          go_wp2_with fail
          go_roundw
          case rel => exact ⟨j + 1, by omega, by go_num, HT', hbel.drew⟩
          case measure => simp [intOf]; omega
        · have HF : Hid (decide (l = k) = false) := Lib.hid (decide_eq_false (fun h => hxy (by rw [← HX.out, ← HY.out, h])))
          rw [decide_eq_false hxy]
          clear hxy
          go_wp2_with fail
          go_ret
          exact ⟨by rw [HF.out]; rfl, hbel.drew⟩
      · obtain rfl : j = N := by omega
        have HF : Hid (decide (l = k) = true) := Lib.hid (decide_eq_true (listV_getD (by rw [hl.out, hl'.out]) (fun i hi => HT.out i (by rw [← hl.out]; exact hi))))
        go_wp2_with fail
        go_ret
        exact ⟨by rw [HF.out]; rfl, hbel⟩
  · have hne : ((N : Int) == (N' : Int)) = false := by rw [beq_eq_false_iff_ne]; omega
    have HF : Hid (decide (l = k) = false) := Lib.hid (decide_eq_false (fun h => h1 (by rw [← hl.out, ← hl'.out, h])))
    clear hv hv'
    go_enter Try.func15, Try.ntmps15
    go_wp2_with fail
    go_ret
    exact ⟨by rw [HF.out]; rfl, Below.refl _ _⟩
end Go.Proofs.Yticocaljgaegfaa
/- BlockTurns: the walk. -/
namespace Go.Proofs.Yticocaljgaegfaa
open Go.ChangeShapes Go.WideShapes Go.ChangeAt Go.RowKit
set_option linter.unusedVariables false

/-- the bytes of a number of no more than three -/
theorem pv_dig {n : Nat} (h : n ≤ 2000000) : ((pv (n : Int)).length = 1 ∧ ¬ 128 ≤ (pv (n : Int)).getD 0 0) ∨ ((pv (n : Int)).length = 2 ∧ 128 ≤ (pv (n : Int)).getD 0 0 ∧ ¬ 128 ≤ (pv (n : Int)).getD 1 0) ∨ ((pv (n : Int)).length = 3 ∧ 128 ≤ (pv (n : Int)).getD 0 0 ∧ 128 ≤ (pv (n : Int)).getD 1 0) := by
  by_cases h1 : (n : Int) < 128
  · left; rw [pv_small h1]; exact ⟨rfl, by show ¬ 128 ≤ (n : Int); omega⟩
  · by_cases h2 : (n : Int) / 128 < 128
    · right; left
      rw [pv_big h1, pv_small h2]
      exact ⟨rfl, by show 128 ≤ (n : Int) % 128 + 128; omega, by show ¬ 128 ≤ (n : Int) / 128; omega⟩
    · right; right
      rw [pv_big h1, pv_big h2, pv_small (by omega)]
      exact ⟨rfl, by show 128 ≤ (n : Int) % 128 + 128; omega, by show 128 ≤ (n : Int) / 128 % 128 + 128; omega⟩
theorem getD_app {a b : List Int} {i : Nat} (h : i < a.length) : (a ++ b).getD i 0 = a.getD i 0 := by simp [List.getD, List.getElem?_append_left h]
theorem xor_one {a R : Nat} (h : a ^^^ 2 ^ R = a) : False := by
  have h2 := congrArg (fun z => a ^^^ z) h
  simp only [← Nat.xor_assoc, Nat.xor_self, Nat.zero_xor] at h2
  have : 0 < 2 ^ R := Nat.two_pow_pos R
  omega
theorem set_app_left {a b : List Int} {i : Nat} (c : Int) (h : i < a.length) : (a ++ b).set i c = a.set i c ++ b := List.set_append_left _ _ h
/-- a bit that is turned behind the length is told -/
theorem says_turned {t u : Int} {f : List (Int × ByteArray)} (hc : colB t f = true) {P i I R : Nat} (hP : (pv ((dataL t f).length : Int)).length = P) (hI : I = P + i) (hL : I < (blockL t f).length) (hR : R < 8) {c : Int} (hcd : c = (blockL t f).getD I 0) :
    SaysB u ((blockL t f).set I ((c.toNat ^^^ 2 ^ R : Nat) : Int)) [] 0 11 := by
  have hXb := data_bytes hc
  have hm := (data_len hc).2
  have hq := sealL_bytes (dataL t f)
  have hql := sealL_len (dataL t f)
  rw [blockL, frameL_len] at hL
  rw [blockL, frameL, List.append_assoc] at hcd ⊢
  generalize dataL t f = X at *
  generalize hQ : sealL X = Q at *
  subst hI
  rw [set_behind _ _ P i _ hP]
  rw [get_behind _ _ P i hP] at hcd
  have e : unf (pv (X.length : Int) ++ (Q ++ X).set i ((c.toNat ^^^ 2 ^ R : Nat) : Int)) = ([], 0, 11) := by
    by_cases h4 : i < 4
    · rw [set_app_left _ (by omega)]
      rw [getD_app (by omega)] at hcd
      have h := unf_of X.length (Q.set i ((c.toNat ^^^ 2 ^ R : Nat) : Int)) X [] rfl (by rw [List.length_set]; exact hql) (by omega)
      rw [List.append_nil, if_neg ?_] at h
      · rw [← List.append_assoc]; exact h
      · intro he
        rw [hQ] at he
        have h1 := congrArg (fun z : List Int => z.getD i 0) he
        have e1 : (Q.set i ((c.toNat ^^^ 2 ^ R : Nat) : Int)).getD i 0 = ((c.toNat ^^^ 2 ^ R : Nat) : Int) := by simp [List.getD, show i < Q.length by omega]
        simp only [e1, ← hcd] at h1
        have hcb : 0 ≤ c ∧ c ≤ 255 := by apply hq; rw [hcd]; simp [show i < Q.length by omega]
        exact xor_one (a := c.toNat) (R := R) (by omega)
    · obtain ⟨d, rfl⟩ : ∃ d, i = 4 + d := ⟨i - 4, by omega⟩
      rw [set_behind _ _ 4 d _ hql]
      rw [get_behind _ _ 4 d hql] at hcd
      have hT := (Turned.start X (8 * d + R) hXb).turn c (by rw [show (8 * d + R + 0) / 8 = d by omega]; exact hcd) (by omega)
      rw [show (8 * d + R + 0) / 8 = d by omega, show (8 * d + R + 0) % 8 = R by omega] at hT
      have hne := hT.told (by omega) (by omega) (by decide)
      have h := unf_turned X _ hT.len (by omega) hXb hT.bytes hne
      rw [hQ, List.append_assoc] at h
      exact h
  exact .inr (.inr ⟨rfl, rfl, by rw [e], by decide⟩)
set_option maxRecDepth 20000 in
set_option maxHeartbeats 4000000 in
theorem turns7_is (x : Int) (hx : 0 ≤ x ∧ x ≤ 255) (A0 : Option Addr) (n0 C0 : Nat) (l0 : List (Int × ByteArray)) (tt : Int) (htt : 0 ≤ tt ∧ tt ≤ 65535) (w : World) (hv0 : WV w A0 n0 l0) (hn0 : n0 ≤ maxLen) (hr0 : RgV l0) :
    Calls Try.prog 5 #[.int .u8 x, .slice A0 n0 C0, .int .u16 tt] w fun e w' => e = .returned (.bool true) ∧ Below w.heap.size w w' := by
  obtain ⟨T, rfl⟩ : ∃ T : Nat, tt = T := ⟨tt.toNat, by omega⟩
  go_enter Try.func5, Try.ntmps5
  go_wp2_with fail
  refine (shown7_is _).mono ?_
  rintro e w1 ⟨rfl, hb1⟩
  have hv1 := (hv0.below hb1).alloc (.cells #[] 35)
  have ho0 : OS 2 (w1.alloc (.cells #[] 35)) w1.heap.size (.slice (some ⟨w1.heap.size, 0, none⟩) 0 0) 0 (vcells []) := OS.lit (k := 2) w1 w1.heap.size (by simp) [] 0 35 rfl (by simp) (by simp) _ (by simp)
  have hw0 : Below w1.heap.size w1 (w1.alloc (.cells #[] 35)) := Joins.below_alloc1 _ _
  have hs1 : w1.heap.size < (w1.alloc (.cells #[] 35)).heap.size := by simp
  obtain ⟨k, hk⟩ : ∃ k, 1 + x % 3 = k := ⟨_, rfl⟩
  have hk1 : 1 ≤ k ∧ k ≤ 3 := by omega
  go_wp2_with fail
  refine (few7_any A0 n0 C0 l0 _ hv1 hn0 hr0).mono ?_
  rintro e w2 ⟨A, N, C, l, rfl, hCN, hN, hv, hr, -, hos, hbf⟩
  replace ho0 := ho0.below hbf
  replace hw0 := Below.then hw0 hbf
  have HA : Hid (∀ y, A = some y → y.block < w2.heap.size ∧ y.block ≠ w1.heap.size) := Lib.hid (fun y hy => by
    rcases hos.where with ⟨h, -, -⟩ | ⟨g, h, h1, h2⟩
    · rw [h] at hy; cases hy
    · rw [h] at hy; cases hy
      exact ⟨h2, by show g ≠ _; omega⟩)
  have hsz2 := hw0.size
  clear hv0 hv1 hbf hr0 hos hs1
  have hl := Lib.hid (WV.len hv)
  go_wp2_with fail
  go_loopw [9, 10] (fun v i wr => ∃ (j m : Nat), j ≤ N ∧ m ≤ j ∧ i = .int .i64 (j : Int) ∧ OS 2 wr w1.heap.size v m (vcells (fitL k l j)) ∧ Hid (∀ g, v.ownBlock = some g → g = w1.heap.size ∨ w2.heap.size ≤ g) ∧ WV wr A N l ∧ w2.heap.size ≤ wr.heap.size ∧ Below w1.heap.size w1 wr) (fun _ i _ => N - (intOf i).toNat)
  case atStart => exact ⟨0, 0, by omega, by omega, rfl, ho0, Lib.hid (fun g hg => .inl (by have : some w1.heap.size = some g := hg; cases this; rfl)), hv, Nat.le_refl _, hw0⟩
  case round =>
    clear ho0 hw0 hv
    obtain ⟨j, m, hj, hmj, rfl, ho, HO, hv, hsz, hbel⟩ := hrel
    by_cases hlt : j < N
    · have hji : (j : Int) < (N : Int) := by omega
      obtain ⟨b, off, rfl, hd1, hd2⟩ := WV.at hv j hlt
      obtain ⟨hlt3, hne3⟩ : b < w2.heap.size ∧ b ≠ w1.heap.size := HA.out _ rfl
      have HS := Lib.hid (fitL_snoc (t := k) (l := l) (j := j) (by rw [hl.out]; exact hlt))
      generalize l.getD j v0 = y at hd1 hd2 HS
      go_wp2_with fail
      refine (rfits_any k y.1 y.2 _).mono ?_
      rintro e w3 ⟨rfl, hb3⟩
      replace hd1 := keepc hd1 hb3
      replace hd2 := keepc hd2 hb3
      replace ho := ho.below hb3
      replace hv := hv.below hb3
      have hz3 := hb3.size
      replace hbel := Below.then hbel hb3
      clear hb3
      cases hft : fitsB k y.1 y.2
      · rw [hft] at HS
        go_wp2_with fail
        go_roundw
        case rel => exact ⟨j + 1, m, by omega, by omega, by go_num, by rw [HS.out, if_neg (by decide), List.append_nil]; exact ho, HO, hv, by omega, hbel⟩
        case measure => simp [intOf]; omega
      · rw [hft] at HS
        have hl4 := hv.alloc (.cells #[.int .i64 y.1, .string y.2] 35)
        have hb4 := hbel.alloc hbel.size (.cells #[.int .i64 y.1, .string y.2] 35)
        have hs4 : w3.heap.size < (w3.alloc (.cells #[.int .i64 y.1, .string y.2] 35)).heap.size := by simp
        have hs5 := hb4.size
        go_wp2_with (at_builtin; refine append_os2 el_vals rfl (.tmp 41) (.tmp 46) rfl w1.heap.size _ m _ rfl (ho.alloc _) _ 1 1 [.int .i64 y.1, .string y.2] rfl (SV.lit' (k := 2) _ [.int .i64 y.1, .string y.2] 1 35 rfl (two_one _ _) _ rfl) (by omega) (by omega) hs5 ?_; intro v4 w4 ho4 hb5 ob4 hk4; have HK : Hid (∀ b, b < (w3.alloc (.cells #[.int .i64 y.1, .string y.2] 35)).heap.size → u9.ownBlock ≠ some b → w4.heap[b]? = (w3.alloc (.cells #[.int .i64 y.1, .string y.2] 35)).heap[b]?) := Lib.hid hk4; have HO3 : Hid (v4.ownBlock = u9.ownBlock ∨ v4.ownBlock = some (w3.alloc (.cells #[.int .i64 y.1, .string y.2] 35)).heap.size) := Lib.hid ob4; clear hk4 ob4)
        go_roundw
        case rel =>
          refine ⟨j + 1, m + 1, by omega, by omega, by go_num, by rw [HS.out, vcells_app]; exact ho4, Lib.hid (fun g hg => ?_), hl4.other (fun x hx hlt => ?_), ?_, hb4.trans hb5⟩
          · rcases HO3.out with h | h
            · exact HO.out g (by rw [← h]; exact hg)
            · rw [h] at hg; cases hg; right; omega
          · cases hx
            exact HK.out b hlt (fun e => by have := HO.out b e; omega)
          · have := hb5.size; omega
        case measure => simp [intOf]; omega
    · obtain rfl : j = N := by omega
      obtain ⟨A5, C5, rfl, hC5, -, wv, -, -⟩ := ho.sv
      have HF := Lib.hid (show fitL k l j = fitA k l by rw [fitL, ← hl.out, List.take_length])
      rw [HF.out] at wv
      replace hb1 := Below.then hb1 hbel
      have hcol : colB k (fitA k l) = true := fitA_col hk1 (by rw [hl.out]; omega)
      have hrg := fitA_rg (t := k) hr
      generalize fitA k l = f at wv hcol hrg
      clear HF ho HO hv hl hbel
      go_wp2_with fail
      refine (bput_any k A5 m C5 f _ wv hrg (by omega)).mono ?_
      rintro e w5 he
      rcases he with ⟨-, ⟨v5, rfl, o5⟩, hb5⟩ | ⟨h, -, -⟩
      rotate_left
      · rw [hcol] at h; cases h
      replace hb1 := Below.then hb1 hb5
      obtain ⟨L, hL⟩ : ∃ L, (blockL k f).length = L := ⟨_, rfl⟩
      have hLb : 8 ≤ L ∧ L ≤ 500015 := by rw [← hL]; exact block_len hcol
      obtain ⟨a6, c6, rfl, hc6, -, b6, -⟩ := o5.bvn (block_bytes hcol) L hL
      have HL := Lib.hid hL
      have HC := Lib.hid hcol
      have hDl := data_len hcol
      have hpl := pv_dig (n := (dataL k f).length) (by omega)
      obtain ⟨b, off, rfl, hcell⟩ := b6.opened (by omega)
      have hb60 : w5.cell? ⟨b, off, none⟩ = some (.int .u8 ((blockL k f).getD 0 0)) := hcell 0 (by omega)
      have hb61 : w5.cell? ⟨b, off + 1, none⟩ = some (.int .u8 ((blockL k f).getD 1 0)) := hcell 1 (by omega)
      obtain ⟨p0, hp0⟩ : ∃ p0, (blockL k f).getD 0 0 = p0 := ⟨_, rfl⟩
      obtain ⟨p1, hp1⟩ : ∃ p1, (blockL k f).getD 1 0 = p1 := ⟨_, rfl⟩
      rw [hp0] at hb60
      rw [hp1] at hb61
      have hL8 : ¬ (L : Int) < 8 := by omega
      have hL1 : (1 : Int) < (L : Int) := by omega
      have hL1n : 1 < L := by omega
      have hL0n : 0 < L := by omega
      clear hcell hcol hL o5 hb5 wv
      rcases hpl with ⟨hP, h0⟩ | ⟨hP, h0, h1⟩ | ⟨hP, h0, h1⟩
      · have q0 : ¬ 128 ≤ p0 := by rw [← hp0, blockL, frameL, List.append_assoc]; rw [getD_app (by omega)]; exact h0
        have HP := Lib.hid hP
        clear hP h0 hp0 hp1
        obtain ⟨Z, hZ, hZ1, hZ2⟩ : ∃ Z : Nat, wrap64 (8 + (T : Int) % (8 * ((L : Int) - 1))) = (Z : Int) ∧ 8 ≤ Z ∧ Z < 8 * L := by
          have h1 := Int.emod_nonneg (T : Int) (show 8 * ((L : Int) - 1) ≠ 0 by omega)
          have h2 := Int.emod_lt_of_pos (T : Int) (show 0 < 8 * ((L : Int) - 1) by omega)
          refine ⟨(8 + (T : Int) % (8 * ((L : Int) - 1))).toNat, ?_, by omega, by omega⟩
          rw [wrap64]; omega
        obtain ⟨I, hI⟩ : ∃ I : Nat, I = Z / 8 := ⟨_, rfl⟩
        obtain ⟨R, hR⟩ : ∃ R : Nat, R = Z % 8 := ⟨_, rfl⟩
        have hIL : I < L := by omega
        have hI0 : 1 ≤ I := by omega
        have hR8 : R < 8 := by omega
        have hq8 : (Z : Int) / 8 = (I : Int) := by omega
        have hr8 : (Z : Int) % 8 = (R : Int) := by omega
        have hr8' : (Z : Int).tmod 8 = (R : Int) := by rw [Int.tmod_eq_emod_of_nonneg (by omega)]; exact hr8
        have hil : (I : Int) < (L : Int) := by omega
        have hwq : IntKind.i64.wrap (I : Int) = (I : Int) := by rw [IntKind.wrap_i64]; omega
        have hLP : (8 * ((L : Int) - 1) == 0) = false := by rw [beq_eq_false_iff_ne]; omega
        go_wp2_with (at_builtin; refine append_ow rfl (.tmp 84) (.tmp 85) rfl w5.heap.size _ [] rfl (OW.empty _ _ (Nat.le_refl _) _ rfl) _ L _ _ rfl (b6.alloc _) (by simp only [List.length_nil]; omega) (by rw [heap_alloc]; omega) ?_; intro v7 w7 ho7 hb7; rw [List.nil_append] at ho7; obtain ⟨g, c7, rfl, hc7, hg⟩ := ho7.slice_of L HL.out hL0n)
        replace hb7 := (Joins.below_alloc1 w5 (.cells #[] 5)).trans hb7
        have hcg := ho7.at I hIL
        have hfz := ho7.free I
        obtain ⟨c, hcd⟩ : ∃ c, c = (blockL k f).getD I 0 := ⟨_, rfl⟩
        rw [← hcd] at hcg
        have hcb : 0 ≤ c ∧ c ≤ 255 := by apply block_bytes HC.out; rw [hcd]; simp [show I < (blockL k f).length from by rw [HL.out]; exact hIL]
        have ho8 := ho7.set I ((c.toNat ^^^ 2 ^ R : Nat) : Int) hIL
        have HS := Lib.hid (says_turned (u := k) HC.out (P := 1) (i := I - 1) (I := I) (R := R) HP.out (by omega) (by rw [HL.out]; exact hIL) hR8 hcd)
        have hx : bits BinOp.xor IntKind.u8 c (2 ^ R % 256) = ((c.toNat ^^^ 2 ^ R : Nat) : Int) := by
          rw [← IntKind.wrap_u8', one_shl R hR8, show ((2 ^ R : Nat) : Int) = 2 ^ R from by simp]
          exact u8_turn c R hR8 hcb.1 hcb.2
        have hw8 := hb7.setCell (p := ⟨g, I, none⟩) hg (.int .u8 ((c.toNat ^^^ 2 ^ R : Nat) : Int))
        have hc'b : 0 ≤ ((c.toNat ^^^ 2 ^ R : Nat) : Int) ∧ ((c.toNat ^^^ 2 ^ R : Nat) : Int) ≤ 255 := by
          have := xor_lt8 (show c.toNat < 256 by omega) (show 2 ^ R < 256 from by have : 2 ^ R ≤ 2 ^ 7 := Nat.pow_le_pow_right (by omega) (by omega)
                                                                                  omega)
          omega
        generalize ((c.toNat ^^^ 2 ^ R : Nat) : Int) = c' at *
        have hbb : ∀ z ∈ (blockL k f).set I c', 0 ≤ z ∧ z ≤ 255 := fun z hz => (List.mem_or_eq_of_mem_set hz).elim (block_bytes HC.out z) (fun h => by rw [h]; exact hc'b)
        clear hcd hI hR hb60 hb61 b6
        go_wp2_with fail
        refine wp_region_noPanic ?_
        refine region_g 13 (Ext (World.drew _)) (by kernel_rfl) (Ext.refl _) (fun hS => ?_)
        refine take_w (i := 0) (v := ?_) (some 87) rfl (by kernel_rfl) rfl (fun _ _ _ h => h) (Or.inl ⟨by rfl, ?_⟩) hS ?_
        rotate_left
        · (intro wq hq; go_simp); first | done | with_reducible rfl
        try simp only [Act.put, List.setIfInBounds_toArray, List.set_cons_zero, List.set_cons_succ]
        replace hS := Till.list 0 hS
        refine take_w (i := 1) (v := ?_) (some 88) rfl (by kernel_rfl) rfl (fun _ _ _ h => h) (Or.inl ⟨by rfl, ?_⟩) hS ?_
        rotate_left
        · (intro wq hq; go_simp); first | done | with_reducible rfl
        try simp only [Act.put, List.setIfInBounds_toArray, List.set_cons_zero, List.set_cons_succ]
        replace hS := Till.list 1 hS
        refine take_w (i := 3) (v := ?_) (some 90) rfl (by kernel_rfl) rfl (fun _ _ _ h => h) (Or.inl ⟨by rfl, ?_⟩) hS ?_
        rotate_left
        · (intro wq hq; go_simp); first | done | with_reducible rfl
        try simp only [Act.put, List.setIfInBounds_toArray, List.set_cons_zero, List.set_cons_succ]
        replace hS := Till.list 3 hS
        refine take_w (i := 4) (v := ?_) (some 91) rfl (by kernel_rfl) rfl (fun _ _ _ h => h) (Or.inl ⟨by rfl, ?_⟩) hS ?_
        rotate_left
        · (intro wq hq; go_simp); first | done | with_reducible rfl
        try simp only [Act.put, List.setIfInBounds_toArray, List.set_cons_zero, List.set_cons_succ]
        replace hS := Till.list 4 hS
        refine take_w (i := 8) (v := ?_) (some 95) rfl (by kernel_rfl) rfl (fun _ _ _ h => h) (Or.inl ⟨by rfl, ?_⟩) hS ?_
        rotate_left
        · (intro wq hq; go_simp); first | done | with_reducible rfl
        try simp only [Act.put, List.setIfInBounds_toArray, List.set_cons_zero, List.set_cons_succ]
        replace hS := Till.list 8 hS
        refine take_w (i := 2) (v := ?_) (some 89) rfl (by kernel_rfl) rfl (fun _ _ _ h => h) (Or.inl ⟨by rfl, ?_⟩) hS ?_
        rotate_left
        · (intro wq hq; go_simp); first | done | with_reducible rfl
        try simp only [Act.put, List.setIfInBounds_toArray, List.set_cons_zero, List.set_cons_succ]
        replace hS := Till.list 2 hS
        refine take_w (i := 5) (v := ?_) (some 92) rfl (by kernel_rfl) rfl (fun _ _ _ h => h) (Or.inl ⟨by rfl, ?_⟩) hS ?_
        rotate_left
        · (intro wq hq; go_simp); first | done | with_reducible rfl
        try simp only [Act.put, List.setIfInBounds_toArray, List.set_cons_zero, List.set_cons_succ]
        replace hS := Till.list 5 hS
        refine take_w (i := 9) (v := ?_) (some 96) rfl (by kernel_rfl) rfl (fun _ _ _ h => h) (Or.inl ⟨by rfl, ?_⟩) hS ?_
        rotate_left
        · (intro wq hq; go_simp); first | done | with_reducible rfl
        try simp only [Act.put, List.setIfInBounds_toArray, List.set_cons_zero, List.set_cons_succ]
        replace hS := Till.list 9 hS
        refine take_w (i := 6) (v := ?_) (some 93) rfl (by kernel_rfl) rfl (fun _ _ _ h => h) (Or.inl ⟨by rfl, ?_⟩) hS ?_
        rotate_left
        · (intro wq hq; go_simp); first | done | with_reducible rfl
        try simp only [Act.put, List.setIfInBounds_toArray, List.set_cons_zero, List.set_cons_succ]
        replace hS := Till.list 6 hS
        refine take_w (i := 10) (v := ?_) (some 97) rfl (by kernel_rfl) rfl (fun _ _ _ h => h) (Or.inl ⟨by rfl, ?_⟩) hS ?_
        rotate_left
        · (intro wq hq; go_simp); first | done | with_reducible rfl
        try simp only [Act.put, List.setIfInBounds_toArray, List.set_cons_zero, List.set_cons_succ]
        replace hS := Till.list 10 hS
        refine take_g (i := 7) (v := ?_) [7] (some 94) rfl (by kernel_rfl) rfl (fun _ _ _ h => h) (Or.inl ⟨by rfl, ?_⟩) hS ?_
        rotate_left
        · (intro wq hq; have q0 := hq _ _ _ hcg; go_simp); first | done | with_reducible rfl
        try simp only [Act.put, List.setIfInBounds_toArray, List.set_cons_zero, List.set_cons_succ]
        replace hS := Till.list 7 hS
        refine take_w (i := 11) (v := ?_) (some 98) rfl (by kernel_rfl) rfl (fun _ _ _ h => h) (Or.inl ⟨by rfl, ?_⟩) hS ?_
        rotate_left
        · (intro wq hq; go_simp); first | done | with_reducible rfl
        try simp only [Act.put, List.setIfInBounds_toArray, List.set_cons_zero, List.set_cons_succ]
        replace hS := Till.list 11 hS
        refine take_w (i := 12) (v := ?_) (some 99) rfl (by kernel_rfl) rfl (fun _ _ _ h => h) (Or.inl ⟨by rfl, ?_⟩) hS ?_
        rotate_left
        · (intro wq hq; go_simp); first | done | with_reducible rfl
        try simp only [Act.put, List.setIfInBounds_toArray, List.set_cons_zero, List.set_cons_succ]
        replace hS := Till.list 12 hS
        refine ready_g (rs := [13]) (by kernel_rfl) (by simp) ?_
        refine AllReadyG.cons rfl (fun Kont hK => ?_) AllReadyG.nil
        go_simp
        refine hK.out _ _ (Or.inl (by kernel_rfl)) (fun hS0 => ?_)
        clear hK Kont
        try simp only [Act.put, List.setIfInBounds_toArray, List.set_cons_zero, List.set_cons_succ]
        clear hS
        have hS := hS0
        clear hS0
        refine done_g (by kernel_rfl) (NoPanic.normal ?_) _
        clear hS
        obtain ⟨a9, c9, hA9, hc9, -, b9, -⟩ := ho8.bvn hbb L (by rw [List.length_set, HL.out])
        cases hA9
        replace hb1 := Below.then hb1 hw8
        clear ho7 ho8 hbb hb7 hcg hfz hw8
        go_wp2_with fail
        rw [hx]
        generalize w7.setCell ⟨g, I, none⟩ (.int .u8 c') = w9 at *
        have b10 : BV w9.drew (some ⟨g, 0, none⟩) L ((blockL k f).set I c') := b9
        replace hb1 := hb1.drew
        refine (btake_any k _ L c7 _ _ b10 hc7 (by omega)).mono ?_
        rintro e w10 ⟨A10, N10, C10, l10, s10, e10, rfl, hN10, v10, S10, hb10⟩
        obtain ⟨rfl, rfl, rfl⟩ := S10.out.one HS.out
        obtain rfl : N10 = 0 := (WV.len v10).symm
        replace hb1 := Below.then hb1 hb10
        clear hb10 v10 S10 HS b9 b10
        go_wp2_with fail
        go_ret
        exact ⟨rfl, hb1⟩
      · have q0 : 128 ≤ p0 := by rw [← hp0, blockL, frameL, List.append_assoc]; rw [getD_app (by omega)]; exact h0
        have q1 : ¬ 128 ≤ p1 := by rw [← hp1, blockL, frameL, List.append_assoc]; rw [getD_app (by omega)]; exact h1
        have HP := Lib.hid hP
        clear hP h0 h1 hp0 hp1
        obtain ⟨Z, hZ, hZ1, hZ2⟩ : ∃ Z : Nat, wrap64 (16 + (T : Int) % (8 * ((L : Int) - 2))) = (Z : Int) ∧ 16 ≤ Z ∧ Z < 8 * L := by
          have h1 := Int.emod_nonneg (T : Int) (show 8 * ((L : Int) - 2) ≠ 0 by omega)
          have h2 := Int.emod_lt_of_pos (T : Int) (show 0 < 8 * ((L : Int) - 2) by omega)
          refine ⟨(16 + (T : Int) % (8 * ((L : Int) - 2))).toNat, ?_, by omega, by omega⟩
          rw [wrap64]; omega
        obtain ⟨I, hI⟩ : ∃ I : Nat, I = Z / 8 := ⟨_, rfl⟩
        obtain ⟨R, hR⟩ : ∃ R : Nat, R = Z % 8 := ⟨_, rfl⟩
        have hIL : I < L := by omega
        have hI0 : 2 ≤ I := by omega
        have hR8 : R < 8 := by omega
        have hq8 : (Z : Int) / 8 = (I : Int) := by omega
        have hr8 : (Z : Int) % 8 = (R : Int) := by omega
        have hr8' : (Z : Int).tmod 8 = (R : Int) := by rw [Int.tmod_eq_emod_of_nonneg (by omega)]; exact hr8
        have hil : (I : Int) < (L : Int) := by omega
        have hwq : IntKind.i64.wrap (I : Int) = (I : Int) := by rw [IntKind.wrap_i64]; omega
        have hLP : (8 * ((L : Int) - 2) == 0) = false := by rw [beq_eq_false_iff_ne]; omega
        go_wp2_with (at_builtin; refine append_ow rfl (.tmp 84) (.tmp 85) rfl w5.heap.size _ [] rfl (OW.empty _ _ (Nat.le_refl _) _ rfl) _ L _ _ rfl (b6.alloc _) (by simp only [List.length_nil]; omega) (by rw [heap_alloc]; omega) ?_; intro v7 w7 ho7 hb7; rw [List.nil_append] at ho7; obtain ⟨g, c7, rfl, hc7, hg⟩ := ho7.slice_of L HL.out hL0n)
        replace hb7 := (Joins.below_alloc1 w5 (.cells #[] 5)).trans hb7
        have hcg := ho7.at I hIL
        have hfz := ho7.free I
        obtain ⟨c, hcd⟩ : ∃ c, c = (blockL k f).getD I 0 := ⟨_, rfl⟩
        rw [← hcd] at hcg
        have hcb : 0 ≤ c ∧ c ≤ 255 := by apply block_bytes HC.out; rw [hcd]; simp [show I < (blockL k f).length from by rw [HL.out]; exact hIL]
        have ho8 := ho7.set I ((c.toNat ^^^ 2 ^ R : Nat) : Int) hIL
        have HS := Lib.hid (says_turned (u := k) HC.out (P := 2) (i := I - 2) (I := I) (R := R) HP.out (by omega) (by rw [HL.out]; exact hIL) hR8 hcd)
        have hx : bits BinOp.xor IntKind.u8 c (2 ^ R % 256) = ((c.toNat ^^^ 2 ^ R : Nat) : Int) := by
          rw [← IntKind.wrap_u8', one_shl R hR8, show ((2 ^ R : Nat) : Int) = 2 ^ R from by simp]
          exact u8_turn c R hR8 hcb.1 hcb.2
        have hw8 := hb7.setCell (p := ⟨g, I, none⟩) hg (.int .u8 ((c.toNat ^^^ 2 ^ R : Nat) : Int))
        have hc'b : 0 ≤ ((c.toNat ^^^ 2 ^ R : Nat) : Int) ∧ ((c.toNat ^^^ 2 ^ R : Nat) : Int) ≤ 255 := by
          have := xor_lt8 (show c.toNat < 256 by omega) (show 2 ^ R < 256 from by have : 2 ^ R ≤ 2 ^ 7 := Nat.pow_le_pow_right (by omega) (by omega)
                                                                                  omega)
          omega
        generalize ((c.toNat ^^^ 2 ^ R : Nat) : Int) = c' at *
        have hbb : ∀ z ∈ (blockL k f).set I c', 0 ≤ z ∧ z ≤ 255 := fun z hz => (List.mem_or_eq_of_mem_set hz).elim (block_bytes HC.out z) (fun h => by rw [h]; exact hc'b)
        clear hcd hI hR hb60 hb61 b6
        go_wp2_with fail
        refine wp_region_noPanic ?_
        refine region_g 13 (Ext (World.drew _)) (by kernel_rfl) (Ext.refl _) (fun hS => ?_)
        refine take_w (i := 0) (v := ?_) (some 87) rfl (by kernel_rfl) rfl (fun _ _ _ h => h) (Or.inl ⟨by rfl, ?_⟩) hS ?_
        rotate_left
        · (intro wq hq; go_simp); first | done | with_reducible rfl
        try simp only [Act.put, List.setIfInBounds_toArray, List.set_cons_zero, List.set_cons_succ]
        replace hS := Till.list 0 hS
        refine take_w (i := 1) (v := ?_) (some 88) rfl (by kernel_rfl) rfl (fun _ _ _ h => h) (Or.inl ⟨by rfl, ?_⟩) hS ?_
        rotate_left
        · (intro wq hq; go_simp); first | done | with_reducible rfl
        try simp only [Act.put, List.setIfInBounds_toArray, List.set_cons_zero, List.set_cons_succ]
        replace hS := Till.list 1 hS
        refine take_w (i := 3) (v := ?_) (some 90) rfl (by kernel_rfl) rfl (fun _ _ _ h => h) (Or.inl ⟨by rfl, ?_⟩) hS ?_
        rotate_left
        · (intro wq hq; go_simp); first | done | with_reducible rfl
        try simp only [Act.put, List.setIfInBounds_toArray, List.set_cons_zero, List.set_cons_succ]
        replace hS := Till.list 3 hS
        refine take_w (i := 4) (v := ?_) (some 91) rfl (by kernel_rfl) rfl (fun _ _ _ h => h) (Or.inl ⟨by rfl, ?_⟩) hS ?_
        rotate_left
        · (intro wq hq; go_simp); first | done | with_reducible rfl
        try simp only [Act.put, List.setIfInBounds_toArray, List.set_cons_zero, List.set_cons_succ]
        replace hS := Till.list 4 hS
        refine take_w (i := 8) (v := ?_) (some 95) rfl (by kernel_rfl) rfl (fun _ _ _ h => h) (Or.inl ⟨by rfl, ?_⟩) hS ?_
        rotate_left
        · (intro wq hq; go_simp); first | done | with_reducible rfl
        try simp only [Act.put, List.setIfInBounds_toArray, List.set_cons_zero, List.set_cons_succ]
        replace hS := Till.list 8 hS
        refine take_w (i := 2) (v := ?_) (some 89) rfl (by kernel_rfl) rfl (fun _ _ _ h => h) (Or.inl ⟨by rfl, ?_⟩) hS ?_
        rotate_left
        · (intro wq hq; go_simp); first | done | with_reducible rfl
        try simp only [Act.put, List.setIfInBounds_toArray, List.set_cons_zero, List.set_cons_succ]
        replace hS := Till.list 2 hS
        refine take_w (i := 5) (v := ?_) (some 92) rfl (by kernel_rfl) rfl (fun _ _ _ h => h) (Or.inl ⟨by rfl, ?_⟩) hS ?_
        rotate_left
        · (intro wq hq; go_simp); first | done | with_reducible rfl
        try simp only [Act.put, List.setIfInBounds_toArray, List.set_cons_zero, List.set_cons_succ]
        replace hS := Till.list 5 hS
        refine take_w (i := 9) (v := ?_) (some 96) rfl (by kernel_rfl) rfl (fun _ _ _ h => h) (Or.inl ⟨by rfl, ?_⟩) hS ?_
        rotate_left
        · (intro wq hq; go_simp); first | done | with_reducible rfl
        try simp only [Act.put, List.setIfInBounds_toArray, List.set_cons_zero, List.set_cons_succ]
        replace hS := Till.list 9 hS
        refine take_w (i := 6) (v := ?_) (some 93) rfl (by kernel_rfl) rfl (fun _ _ _ h => h) (Or.inl ⟨by rfl, ?_⟩) hS ?_
        rotate_left
        · (intro wq hq; go_simp); first | done | with_reducible rfl
        try simp only [Act.put, List.setIfInBounds_toArray, List.set_cons_zero, List.set_cons_succ]
        replace hS := Till.list 6 hS
        refine take_w (i := 10) (v := ?_) (some 97) rfl (by kernel_rfl) rfl (fun _ _ _ h => h) (Or.inl ⟨by rfl, ?_⟩) hS ?_
        rotate_left
        · (intro wq hq; go_simp); first | done | with_reducible rfl
        try simp only [Act.put, List.setIfInBounds_toArray, List.set_cons_zero, List.set_cons_succ]
        replace hS := Till.list 10 hS
        refine take_g (i := 7) (v := ?_) [7] (some 94) rfl (by kernel_rfl) rfl (fun _ _ _ h => h) (Or.inl ⟨by rfl, ?_⟩) hS ?_
        rotate_left
        · (intro wq hq; have q0 := hq _ _ _ hcg; go_simp); first | done | with_reducible rfl
        try simp only [Act.put, List.setIfInBounds_toArray, List.set_cons_zero, List.set_cons_succ]
        replace hS := Till.list 7 hS
        refine take_w (i := 11) (v := ?_) (some 98) rfl (by kernel_rfl) rfl (fun _ _ _ h => h) (Or.inl ⟨by rfl, ?_⟩) hS ?_
        rotate_left
        · (intro wq hq; go_simp); first | done | with_reducible rfl
        try simp only [Act.put, List.setIfInBounds_toArray, List.set_cons_zero, List.set_cons_succ]
        replace hS := Till.list 11 hS
        refine take_w (i := 12) (v := ?_) (some 99) rfl (by kernel_rfl) rfl (fun _ _ _ h => h) (Or.inl ⟨by rfl, ?_⟩) hS ?_
        rotate_left
        · (intro wq hq; go_simp); first | done | with_reducible rfl
        try simp only [Act.put, List.setIfInBounds_toArray, List.set_cons_zero, List.set_cons_succ]
        replace hS := Till.list 12 hS
        refine ready_g (rs := [13]) (by kernel_rfl) (by simp) ?_
        refine AllReadyG.cons rfl (fun Kont hK => ?_) AllReadyG.nil
        go_simp
        refine hK.out _ _ (Or.inl (by kernel_rfl)) (fun hS0 => ?_)
        clear hK Kont
        try simp only [Act.put, List.setIfInBounds_toArray, List.set_cons_zero, List.set_cons_succ]
        clear hS
        have hS := hS0
        clear hS0
        refine done_g (by kernel_rfl) (NoPanic.normal ?_) _
        clear hS
        obtain ⟨a9, c9, hA9, hc9, -, b9, -⟩ := ho8.bvn hbb L (by rw [List.length_set, HL.out])
        cases hA9
        replace hb1 := Below.then hb1 hw8
        clear ho7 ho8 hbb hb7 hcg hfz hw8
        go_wp2_with fail
        rw [hx]
        generalize w7.setCell ⟨g, I, none⟩ (.int .u8 c') = w9 at *
        have b10 : BV w9.drew (some ⟨g, 0, none⟩) L ((blockL k f).set I c') := b9
        replace hb1 := hb1.drew
        refine (btake_any k _ L c7 _ _ b10 hc7 (by omega)).mono ?_
        rintro e w10 ⟨A10, N10, C10, l10, s10, e10, rfl, hN10, v10, S10, hb10⟩
        obtain ⟨rfl, rfl, rfl⟩ := S10.out.one HS.out
        obtain rfl : N10 = 0 := (WV.len v10).symm
        replace hb1 := Below.then hb1 hb10
        clear hb10 v10 S10 HS b9 b10
        go_wp2_with fail
        go_ret
        exact ⟨rfl, hb1⟩
      · have q0 : 128 ≤ p0 := by rw [← hp0, blockL, frameL, List.append_assoc]; rw [getD_app (by omega)]; exact h0
        have q1 : 128 ≤ p1 := by rw [← hp1, blockL, frameL, List.append_assoc]; rw [getD_app (by omega)]; exact h1
        have HP := Lib.hid hP
        clear hP h0 h1 hp0 hp1
        obtain ⟨Z, hZ, hZ1, hZ2⟩ : ∃ Z : Nat, wrap64 (24 + (T : Int) % (8 * ((L : Int) - 3))) = (Z : Int) ∧ 24 ≤ Z ∧ Z < 8 * L := by
          have h1 := Int.emod_nonneg (T : Int) (show 8 * ((L : Int) - 3) ≠ 0 by omega)
          have h2 := Int.emod_lt_of_pos (T : Int) (show 0 < 8 * ((L : Int) - 3) by omega)
          refine ⟨(24 + (T : Int) % (8 * ((L : Int) - 3))).toNat, ?_, by omega, by omega⟩
          rw [wrap64]; omega
        obtain ⟨I, hI⟩ : ∃ I : Nat, I = Z / 8 := ⟨_, rfl⟩
        obtain ⟨R, hR⟩ : ∃ R : Nat, R = Z % 8 := ⟨_, rfl⟩
        have hIL : I < L := by omega
        have hI0 : 3 ≤ I := by omega
        have hR8 : R < 8 := by omega
        have hq8 : (Z : Int) / 8 = (I : Int) := by omega
        have hr8 : (Z : Int) % 8 = (R : Int) := by omega
        have hr8' : (Z : Int).tmod 8 = (R : Int) := by rw [Int.tmod_eq_emod_of_nonneg (by omega)]; exact hr8
        have hil : (I : Int) < (L : Int) := by omega
        have hwq : IntKind.i64.wrap (I : Int) = (I : Int) := by rw [IntKind.wrap_i64]; omega
        have hLP : (8 * ((L : Int) - 3) == 0) = false := by rw [beq_eq_false_iff_ne]; omega
        go_wp2_with (at_builtin; refine append_ow rfl (.tmp 84) (.tmp 85) rfl w5.heap.size _ [] rfl (OW.empty _ _ (Nat.le_refl _) _ rfl) _ L _ _ rfl (b6.alloc _) (by simp only [List.length_nil]; omega) (by rw [heap_alloc]; omega) ?_; intro v7 w7 ho7 hb7; rw [List.nil_append] at ho7; obtain ⟨g, c7, rfl, hc7, hg⟩ := ho7.slice_of L HL.out hL0n)
        replace hb7 := (Joins.below_alloc1 w5 (.cells #[] 5)).trans hb7
        have hcg := ho7.at I hIL
        have hfz := ho7.free I
        obtain ⟨c, hcd⟩ : ∃ c, c = (blockL k f).getD I 0 := ⟨_, rfl⟩
        rw [← hcd] at hcg
        have hcb : 0 ≤ c ∧ c ≤ 255 := by apply block_bytes HC.out; rw [hcd]; simp [show I < (blockL k f).length from by rw [HL.out]; exact hIL]
        have ho8 := ho7.set I ((c.toNat ^^^ 2 ^ R : Nat) : Int) hIL
        have HS := Lib.hid (says_turned (u := k) HC.out (P := 3) (i := I - 3) (I := I) (R := R) HP.out (by omega) (by rw [HL.out]; exact hIL) hR8 hcd)
        have hx : bits BinOp.xor IntKind.u8 c (2 ^ R % 256) = ((c.toNat ^^^ 2 ^ R : Nat) : Int) := by
          rw [← IntKind.wrap_u8', one_shl R hR8, show ((2 ^ R : Nat) : Int) = 2 ^ R from by simp]
          exact u8_turn c R hR8 hcb.1 hcb.2
        have hw8 := hb7.setCell (p := ⟨g, I, none⟩) hg (.int .u8 ((c.toNat ^^^ 2 ^ R : Nat) : Int))
        have hc'b : 0 ≤ ((c.toNat ^^^ 2 ^ R : Nat) : Int) ∧ ((c.toNat ^^^ 2 ^ R : Nat) : Int) ≤ 255 := by
          have := xor_lt8 (show c.toNat < 256 by omega) (show 2 ^ R < 256 from by have : 2 ^ R ≤ 2 ^ 7 := Nat.pow_le_pow_right (by omega) (by omega)
                                                                                  omega)
          omega
        generalize ((c.toNat ^^^ 2 ^ R : Nat) : Int) = c' at *
        have hbb : ∀ z ∈ (blockL k f).set I c', 0 ≤ z ∧ z ≤ 255 := fun z hz => (List.mem_or_eq_of_mem_set hz).elim (block_bytes HC.out z) (fun h => by rw [h]; exact hc'b)
        clear hcd hI hR hb60 hb61 b6
        go_wp2_with fail
        refine wp_region_noPanic ?_
        refine region_g 13 (Ext (World.drew _)) (by kernel_rfl) (Ext.refl _) (fun hS => ?_)
        refine take_w (i := 0) (v := ?_) (some 87) rfl (by kernel_rfl) rfl (fun _ _ _ h => h) (Or.inl ⟨by rfl, ?_⟩) hS ?_
        rotate_left
        · (intro wq hq; go_simp); first | done | with_reducible rfl
        try simp only [Act.put, List.setIfInBounds_toArray, List.set_cons_zero, List.set_cons_succ]
        replace hS := Till.list 0 hS
        refine take_w (i := 1) (v := ?_) (some 88) rfl (by kernel_rfl) rfl (fun _ _ _ h => h) (Or.inl ⟨by rfl, ?_⟩) hS ?_
        rotate_left
        · (intro wq hq; go_simp); first | done | with_reducible rfl
        try simp only [Act.put, List.setIfInBounds_toArray, List.set_cons_zero, List.set_cons_succ]
        replace hS := Till.list 1 hS
        refine take_w (i := 3) (v := ?_) (some 90) rfl (by kernel_rfl) rfl (fun _ _ _ h => h) (Or.inl ⟨by rfl, ?_⟩) hS ?_
        rotate_left
        · (intro wq hq; go_simp); first | done | with_reducible rfl
        try simp only [Act.put, List.setIfInBounds_toArray, List.set_cons_zero, List.set_cons_succ]
        replace hS := Till.list 3 hS
        refine take_w (i := 4) (v := ?_) (some 91) rfl (by kernel_rfl) rfl (fun _ _ _ h => h) (Or.inl ⟨by rfl, ?_⟩) hS ?_
        rotate_left
        · (intro wq hq; go_simp); first | done | with_reducible rfl
        try simp only [Act.put, List.setIfInBounds_toArray, List.set_cons_zero, List.set_cons_succ]
        replace hS := Till.list 4 hS
        refine take_w (i := 8) (v := ?_) (some 95) rfl (by kernel_rfl) rfl (fun _ _ _ h => h) (Or.inl ⟨by rfl, ?_⟩) hS ?_
        rotate_left
        · (intro wq hq; go_simp); first | done | with_reducible rfl
        try simp only [Act.put, List.setIfInBounds_toArray, List.set_cons_zero, List.set_cons_succ]
        replace hS := Till.list 8 hS
        refine take_w (i := 2) (v := ?_) (some 89) rfl (by kernel_rfl) rfl (fun _ _ _ h => h) (Or.inl ⟨by rfl, ?_⟩) hS ?_
        rotate_left
        · (intro wq hq; go_simp); first | done | with_reducible rfl
        try simp only [Act.put, List.setIfInBounds_toArray, List.set_cons_zero, List.set_cons_succ]
        replace hS := Till.list 2 hS
        refine take_w (i := 5) (v := ?_) (some 92) rfl (by kernel_rfl) rfl (fun _ _ _ h => h) (Or.inl ⟨by rfl, ?_⟩) hS ?_
        rotate_left
        · (intro wq hq; go_simp); first | done | with_reducible rfl
        try simp only [Act.put, List.setIfInBounds_toArray, List.set_cons_zero, List.set_cons_succ]
        replace hS := Till.list 5 hS
        refine take_w (i := 9) (v := ?_) (some 96) rfl (by kernel_rfl) rfl (fun _ _ _ h => h) (Or.inl ⟨by rfl, ?_⟩) hS ?_
        rotate_left
        · (intro wq hq; go_simp); first | done | with_reducible rfl
        try simp only [Act.put, List.setIfInBounds_toArray, List.set_cons_zero, List.set_cons_succ]
        replace hS := Till.list 9 hS
        refine take_w (i := 6) (v := ?_) (some 93) rfl (by kernel_rfl) rfl (fun _ _ _ h => h) (Or.inl ⟨by rfl, ?_⟩) hS ?_
        rotate_left
        · (intro wq hq; go_simp); first | done | with_reducible rfl
        try simp only [Act.put, List.setIfInBounds_toArray, List.set_cons_zero, List.set_cons_succ]
        replace hS := Till.list 6 hS
        refine take_w (i := 10) (v := ?_) (some 97) rfl (by kernel_rfl) rfl (fun _ _ _ h => h) (Or.inl ⟨by rfl, ?_⟩) hS ?_
        rotate_left
        · (intro wq hq; go_simp); first | done | with_reducible rfl
        try simp only [Act.put, List.setIfInBounds_toArray, List.set_cons_zero, List.set_cons_succ]
        replace hS := Till.list 10 hS
        refine take_g (i := 7) (v := ?_) [7] (some 94) rfl (by kernel_rfl) rfl (fun _ _ _ h => h) (Or.inl ⟨by rfl, ?_⟩) hS ?_
        rotate_left
        · (intro wq hq; have q0 := hq _ _ _ hcg; go_simp); first | done | with_reducible rfl
        try simp only [Act.put, List.setIfInBounds_toArray, List.set_cons_zero, List.set_cons_succ]
        replace hS := Till.list 7 hS
        refine take_w (i := 11) (v := ?_) (some 98) rfl (by kernel_rfl) rfl (fun _ _ _ h => h) (Or.inl ⟨by rfl, ?_⟩) hS ?_
        rotate_left
        · (intro wq hq; go_simp); first | done | with_reducible rfl
        try simp only [Act.put, List.setIfInBounds_toArray, List.set_cons_zero, List.set_cons_succ]
        replace hS := Till.list 11 hS
        refine take_w (i := 12) (v := ?_) (some 99) rfl (by kernel_rfl) rfl (fun _ _ _ h => h) (Or.inl ⟨by rfl, ?_⟩) hS ?_
        rotate_left
        · (intro wq hq; go_simp); first | done | with_reducible rfl
        try simp only [Act.put, List.setIfInBounds_toArray, List.set_cons_zero, List.set_cons_succ]
        replace hS := Till.list 12 hS
        refine ready_g (rs := [13]) (by kernel_rfl) (by simp) ?_
        refine AllReadyG.cons rfl (fun Kont hK => ?_) AllReadyG.nil
        go_simp
        refine hK.out _ _ (Or.inl (by kernel_rfl)) (fun hS0 => ?_)
        clear hK Kont
        try simp only [Act.put, List.setIfInBounds_toArray, List.set_cons_zero, List.set_cons_succ]
        clear hS
        have hS := hS0
        clear hS0
        refine done_g (by kernel_rfl) (NoPanic.normal ?_) _
        clear hS
        obtain ⟨a9, c9, hA9, hc9, -, b9, -⟩ := ho8.bvn hbb L (by rw [List.length_set, HL.out])
        cases hA9
        replace hb1 := Below.then hb1 hw8
        clear ho7 ho8 hbb hb7 hcg hfz hw8
        go_wp2_with fail
        rw [hx]
        generalize w7.setCell ⟨g, I, none⟩ (.int .u8 c') = w9 at *
        have b10 : BV w9.drew (some ⟨g, 0, none⟩) L ((blockL k f).set I c') := b9
        replace hb1 := hb1.drew
        refine (btake_any k _ L c7 _ _ b10 hc7 (by omega)).mono ?_
        rintro e w10 ⟨A10, N10, C10, l10, s10, e10, rfl, hN10, v10, S10, hb10⟩
        obtain ⟨rfl, rfl, rfl⟩ := S10.out.one HS.out
        obtain rfl : N10 = 0 := (WV.len v10).symm
        replace hb1 := Below.then hb1 hb10
        clear hb10 v10 S10 HS b9 b10
        go_wp2_with fail
        go_ret
        exact ⟨rfl, hb1⟩
end Go.Proofs.Yticocaljgaegfaa
/-
  BlockTurns: for every byte, every list of values and every number of 16 bits the statement's function returns true, and its arguments read as they did. No condition.
-/
namespace Go.Proofs.Yticocaljgaegfaa.blockTurns
open Go.ChangeShapes Go.WideShapes Go.ChangeAt Go.RowKit
set_option linter.unusedVariables false

set_option maxRecDepth 100000 in
theorem lifted (os : Os) (started : os.Started) (H : Type) (enc : TypeId × Value → H) :
    ReturnsInHanded {} Try.checked os 5 .any (Rows.blockTurnsSpec.pre6 enc Try.prog Try.f5 Rows.blockTurnsRow.domain false) (Rows.blockTurnsSpec.post enc Try.prog Try.f5 false true false false) := by
  refine returnsInHanded_of_change (C := Try.checked) own started (by kernel_rfl) Try.func5
    (ChangeSpec.witness6 (enc := enc) (C := Try.checked) false ⟨#[], #[.int .u8 0, .slice none 0 0, .int .u16 0], []⟩ 8 (by kernel_rfl) (by kernel_rfl) (by kernel_rfl) (by kernel_rfl)) ?_
  intro W base args ds gs before hval0 hW hcnd _
  have hval : ∀ (j : Nat) t v, Try.f5.params[j]? = some t → args[j]? = some v → Value.okWide Try.prog W .any base t v := hval0
  have hW' := hW
  obtain ⟨p, q, hA0, hV, rfl, hfz, hnd⟩ := hW
  have hA : DataW.TrodAll enc Try.prog W 0 (fun _ => true) true Try.f5.params.toList args.toList ds p := hA0
  rw [Try.params5] at hA hval
  obtain ⟨v0, vs0, d0, ds0, p0, q0, hargs0, rfl, rfl, h0, r0⟩ := trodAll_cons hA
  obtain ⟨v1, vs1, d1, ds1, p1, q1, hargs1, hds1, hq1, h1, r1⟩ := trodAll_cons r0
  obtain ⟨v2, vs2, d2, ds2, p2, q2, hargs2, hds2, hq2, h2, r2⟩ := trodAll_cons r1
  obtain ⟨hn1, hn2, hn3⟩ := trodAll_nil r2
  subst hn2 hn3
  subst hds2 hq2
  subst hds1 hq1
  obtain rfl : args = #[v0, v1, v2] := by cases args; simp_all
  obtain ⟨rfl, rfl⟩ := trodVars_none hV
  have rd0 := h0
  have lt0 : ∀ x ∈ p0, x.block < W.heap.size := by obtain ⟨m, hm⟩ := rd0; exact DataW.trod_lt m _ _ _ hm
  obtain ⟨a0, rfl, B0⟩ := open_u8 (hval 0 5 v0 rfl rfl) h0
  have rd1 := h1
  have lt1 : ∀ x ∈ p1, x.block < W.heap.size := by obtain ⟨m, hm⟩ := rd1; exact DataW.trod_lt m _ _ _ hm
  obtain ⟨A1, n1, c1, v1, rfl, W1, L1, R1⟩ := open_values (hval 1 22 v1 rfl rfl) h1
  have rd2 := h2
  have lt2 : ∀ x ∈ p2, x.block < W.heap.size := by obtain ⟨m, hm⟩ := rd2; exact DataW.trod_lt m _ _ _ hm
  obtain ⟨a2, rfl, B2⟩ := open_u16 (hval 2 37 v2 rfl rfl) h2
  clear hA0 hval0
  refine (turns7_is a0 B0 A1 n1 c1 v1 a2 B2 W W1 L1 R1).mono fun e W' ⟨he, bel⟩ => ?_
  subst he
  exact ⟨_, rfl, _, _, _, [], _, [], hW', trodAll_mk1 (shut_bool Try.underlying4 _), (trodAll_cons_mk (Below.trod laidOut (by kernel_rfl) (of_decide_eq_true (by kernel_rfl)) rd0 bel lt0) (trodAll_cons_mk (Below.trod laidOut (by kernel_rfl) (of_decide_eq_true (by kernel_rfl)) rd1 bel lt1) (trodAll_cons_mk (Below.trod laidOut (by kernel_rfl) (of_decide_eq_true (by kernel_rfl)) rd2 bel lt2) trodAll_mk0))), rfl, bel.frame _, fun h => by cases h⟩

theorem over : Rows.blockTurnsRow.holds Try.pinned (OpenSpec.ofChange Rows.blockTurnsSpec) :=
  OpenClaim.holds_of_wide 5 Try.f5 rfl rfl rfl rfl rfl rfl rfl ⟨rfl, rfl, rfl, rfl, rfl⟩ rfl rfl rfl rfl rfl (by kernel_rfl) Try.func5 (by kernel_rfl)
    (of_decide_eq_true (by kernel_rfl)) (by unfold Func.isWrapper; first | (rw [if_pos (by decide +kernel)]; kernel_rfl) | (rw [if_neg (by decide +kernel)]; exact ⟨rfl, rfl⟩))
    (fun os started H enc _ => lifted os started H enc)
end Go.Proofs.Yticocaljgaegfaa.blockTurns
namespace Go.Proofs.Yticocaljgaegfaa
theorem blockTurns_holds : Rows.BlockTurnsSaid := blockTurns.over
end Go.Proofs.Yticocaljgaegfaa
