/-
  BlockNext: for every list of values the statement's function returns true, and its argument reads as it did. No condition.
-/
import Derived.Test.YticocaljgaegfaaBlock
import Derived.Test.YticocaljgaegfaaBase
import Derived.Test.YticocaljgaegfaaBlockOwn
import Derived.Test.YticocaljgaegfaaRows
import Derived.WalkKit
import Derived.ProofKit
import Derived.OpenShut
import Derived.ShutString
import Derived.ChangeOld
import Derived.Below
import Derived.Test.YticocaljgaegfaaVals
/- The statements' own helpers of stage 7: shown, few; Same. -/
namespace Go.Proofs.Yticocaljgaegfaa
open Go.ChangeShapes Go.WideShapes Go.ChangeAt Go.RowKit
set_option linter.unusedVariables false

theorem shown7_put : putI [] = [0, 0] := by
  have h : shortB [] = false := rfl
  rw [putI, bodyI, h]
  show pv 0 ++ _ = _
  rw [pv_small (by omega)]; rfl
theorem shown7_block : ∃ a b c d, blockL 1 [] = [3, a, b, c, d, 1, 0, 0] := by
  have hd : dataL 1 [] = [1, 0, 0] := by rw [dataL, bare_num (.inl rfl)]; show 1 :: putI [] = _; rw [shown7_put]
  have hq := sealL_len [1, 0, 0]
  rw [blockL, hd, frameL]
  generalize sealL [1, 0, 0] = q at hq
  match q, hq with
  | [a, b, c, d], _ => exact ⟨a, b, c, d, by rw [show (([1, 0, 0] : List Int).length : Int) = 3 from rfl, pv_small (by omega)]; rfl⟩
set_option maxHeartbeats 1000000 in
theorem shown7_is (w : World) : Calls Try.prog 9 #[] w fun e w' => e = .returned (.bool true) ∧ Below w.heap.size w w' := by
  go_enter Try.func9, Try.ntmps9
  go_wp2_with fail
  refine (bput_any 1 none 0 0 [] _ (SV.zero _ _) (fun v hv => by cases hv) (by omega)).mono ?_
  rintro e w1 he
  rcases he with ⟨hc, ⟨v, rfl, ho⟩, hb⟩ | ⟨hc, -, -⟩
  · obtain ⟨a, b, c, d, hB⟩ := shown7_block
    have hbb := block_bytes hc
    rw [hB] at ho hbb
    obtain ⟨ad, cp, rfl, -, -, bv, -⟩ := ho.bvn hbb 8 rfl
    obtain ⟨g, off, rfl, hcell⟩ := bv.opened (by omega)
    have c0 : w1.cell? ⟨g, off, none⟩ = some (.int .u8 3) := hcell 0 (by omega)
    have c5 : w1.cell? ⟨g, off + 5, none⟩ = some (.int .u8 1) := hcell 5 (by omega)
    have c6 : w1.cell? ⟨g, off + 6, none⟩ = some (.int .u8 0) := hcell 6 (by omega)
    have c7 : w1.cell? ⟨g, off + 7, none⟩ = some (.int .u8 0) := hcell 7 (by omega)
    clear hcell bv ho hbb hB hc
    go_wp2_with fail
    go_ret
    exact ⟨rfl, hb⟩
  · cases hc
/-- where a slice of the call's own lies -/
theorem OS.where {k : Nat} {w : World} {base : Nat} {A : Option Addr} {N C : Nat} {n : Nat} {cs : List Value} (h : OS k w base (.slice A N C) n cs) : (A = none ∧ N = 0 ∧ C = 0) ∨ ∃ g, A = some ⟨g, 0, none⟩ ∧ base ≤ g ∧ g < w.heap.size := by
  rcases h.2.2 with ⟨hv, _⟩ | ⟨g, cap, cur, T, hv, hg, hh, _⟩
  · cases hv; exact .inl ⟨rfl, rfl, rfl⟩
  · cases hv; exact .inr ⟨g, rfl, hg, heap_lt hh⟩
def cutV (v : Int × ByteArray) : Int × ByteArray := (v.1, cut 70 v.2)
/-- the first values of some that are few -/
def fewP (l : List (Int × ByteArray)) (j : Nat) : List (Int × ByteArray) := (l.take j).map cutV
theorem fewP_snoc {l : List (Int × ByteArray)} {j : Nat} (h : j < l.length) : fewP l (j + 1) = fewP l j ++ [cutV (l.getD j v0)] := by
  rw [fewP, List.take_succ_eq_append_getElem h, List.map_append]; simp [fewP, List.getD, h]
theorem fewP_rg {l : List (Int × ByteArray)} (h : RgV l) (j : Nat) : RgV (fewP l j) := by
  intro v hv
  obtain ⟨x, hx, rfl⟩ := List.mem_map.1 hv
  exact h x (List.mem_of_mem_take hx)
/-- what few tells -/
def FewV (w w' : World) (l0 : List (Int × ByteArray)) (e : Ending) : Prop :=
  ∃ (A : Option Addr) (N C : Nat) (l : List (Int × ByteArray)), e = .returned (.slice A N C) ∧ N ≤ C ∧ N ≤ 60 ∧ WV w' A N l ∧ RgV l ∧ Hid (l = fewP l0 60) ∧ OS 2 w' w.heap.size (.slice A N C) N (vcells l) ∧ Below w.heap.size w w'
set_option maxHeartbeats 4000000 in
theorem few7_any (R : Option Addr) (n c : Nat) (l : List (Int × ByteArray)) (w : World) (hr : WV w R n l) (hn : n ≤ maxLen) (hg : RgV l) :
    Calls Try.prog 10 #[.slice R n c] w fun e w' => FewV w w' l e := by
  unfold maxLen at hn
  have hl2 := Lib.hid (WV.len hr)
  have ho0 : OS 2 (w.alloc (.cells #[] 35)) w.heap.size (.slice (some ⟨w.heap.size, 0, none⟩) 0 0) 0 (vcells (fewP l 0)) := OS.lit (k := 2) w w.heap.size (by simp) [] 0 35 rfl (by simp) (by simp) _ (by simp)
  go_enter Try.func10, Try.ntmps10
  go_wp2_with fail
  go_loopw [3, 4] (fun o i wr => ∃ (j : Nat) (a : Option Addr) (c : Nat), j ≤ n ∧ j ≤ 60 ∧ i = .int .i64 (j : Int) ∧ o = .slice a j c ∧ OS 2 wr w.heap.size (.slice a j c) j (vcells (fewP l j)) ∧ Below w.heap.size w wr) (fun _ i _ => 60 - (intOf i).toNat)
  case atStart => exact ⟨0, _, _, by omega, by omega, rfl, rfl, ho0, Joins.below_alloc1 _ _⟩
  case round =>
    clear ho0
    obtain ⟨j, a, c', hj, hj7, rfl, rfl, ho, hbel⟩ := hrel
    have hsz := hbel.size
    by_cases hlt : j < n
    · by_cases h7 : j < 60
      · obtain ⟨b2, off2, rfl, hd1, hd2⟩ := WV.at hr j hlt
        have hd1 := keepc hd1 hbel
        have hd2 := keepc hd2 hbel
        have lb2 := cell_lt hd1
        have HS := Lib.hid (fewP_snoc (l := l) (j := j) (by rw [hl2.out]; exact hlt))
        generalize l.getD j v0 = y at hd1 hd2 HS
        by_cases hs : y.2.size ≤ 70
        · have hs' : (y.2.size : Int) ≤ 70 := by omega
          go_wp2_with (refine append_os el_vals rfl (.tmp 29) (.tmp 31) rfl w.heap.size _ j _ rfl ((ho.alloc _).alloc _) _ 1 1 [.int .i64 y.1, .string y.2] rfl (SV.lit' (k := 2) _ [.int .i64 y.1, .string y.2] 1 35 rfl (two_one _ _) _ (by simp)) (by omega) (by omega) (by simp; omega) ?_; intro v2 w2 ho2 hb2)
          obtain ⟨a3, c3, rfl⟩ := ho2.shape
          have hw2 : Below w.heap.size w w2 := ((hbel.alloc (by omega) _).alloc (by simp; omega) _).trans (hb2.mono (by omega))
          have ho3 : OS 2 w2 w.heap.size (.slice a3 (j + 1) c3) (j + 1) (vcells (fewP l (j + 1))) := by
            rw [HS.out, vcells_app]
            simpa only [vcells, cutV, cut_all hs] using ho2
          go_wp2_with fail
          go_roundw
          case rel => exact ⟨j + 1, a3, c3, by omega, by omega, by go_num, rfl, ho3, hw2⟩
          case measure => simp [intOf]; omega
        · have hs' : ¬ (y.2.size : Int) ≤ 70 := by omega
          go_wp2_with (refine append_os el_vals rfl (.tmp 29) (.tmp 31) rfl w.heap.size _ j _ rfl ((ho.alloc _).alloc _) _ 1 1 [.int .i64 y.1, .string (y.2.extract 0 70)] rfl (SV.lit' (k := 2) _ [.int .i64 y.1, .string (y.2.extract 0 70)] 1 35 rfl (two_one _ _) _ (by simp)) (by omega) (by omega) (by simp; omega) ?_; intro v2 w2 ho2 hb2)
          obtain ⟨a3, c3, rfl⟩ := ho2.shape
          have hw2 : Below w.heap.size w w2 := ((hbel.alloc (by omega) _).alloc (by simp; omega) _).trans (hb2.mono (by omega))
          have ho3 : OS 2 w2 w.heap.size (.slice a3 (j + 1) c3) (j + 1) (vcells (fewP l (j + 1))) := by
            rw [HS.out, vcells_app]
            simpa only [vcells, cutV, cut_part hs] using ho2
          go_wp2_with fail
          go_roundw
          case rel => exact ⟨j + 1, a3, c3, by omega, by omega, by go_num, rfl, ho3, hw2⟩
          case measure => simp [intOf]; omega
      · have HE := Lib.hid (show fewP l j = fewP l 60 by rw [show j = 60 by omega])
        obtain ⟨A3, C3, hA3, hC, -, tv, -, -⟩ := ho.sv
        cases hA3
        go_wp2_with fail
        go_ret
        exact ⟨_, _, _, _, rfl, hC, by omega, tv, fewP_rg hg _, HE, ho, hbel⟩
    · obtain rfl : j = n := by omega
      have HE := Lib.hid (show fewP l j = fewP l 60 by rw [fewP, fewP, List.take_of_length_le (by rw [hl2.out]; omega), List.take_of_length_le (by rw [hl2.out]; omega)])
      obtain ⟨A3, C3, hA3, hC, -, tv, -, -⟩ := ho.sv
      cases hA3
      go_wp2_with fail
      go_ret
      exact ⟨_, _, _, _, rfl, hC, by omega, tv, fewP_rg hg _, HE, ho, hbel⟩
/-- those of some values that fit -/
def fitA (t : Int) (l : List (Int × ByteArray)) : List (Int × ByteArray) := l.filter (fun v => fitsB t v.1 v.2)
def fitL (t : Int) (l : List (Int × ByteArray)) (j : Nat) : List (Int × ByteArray) := fitA t (l.take j)
theorem fitL_snoc {t : Int} {l : List (Int × ByteArray)} {j : Nat} (h : j < l.length) : fitL t l (j + 1) = fitL t l j ++ (if fitsB t (l.getD j v0).1 (l.getD j v0).2 = true then [l.getD j v0] else []) := by
  rw [fitL, fitA, List.take_succ_eq_append_getElem h, List.filter_append]
  simp [fitL, fitA, List.getD, h, List.filter_cons]
theorem fitA_col {t : Int} {l : List (Int × ByteArray)} (ht : 1 ≤ t ∧ t ≤ 3) (hl : l.length ≤ 2000) : colB t (fitA t l) = true := by
  refine colB_iff.2 ⟨ht, Nat.le_trans (List.length_filter_le _ _) hl, fun v hv => ?_⟩
  exact (List.mem_filter.1 hv).2
theorem fitA_rg {t : Int} {l : List (Int × ByteArray)} (h : RgV l) : RgV (fitA t l) := fun v hv => h v (List.mem_filter.1 hv).1
theorem eqv_ne (y z : Int × ByteArray) (w : World) : (if y.1 = z.1 then if y.2.toList = z.2.toList then Result.ok (Next.value (.bool false)) w else Result.ok (Next.value (.bool true)) w else Result.ok (Next.value (.bool true)) w) = Result.ok (Next.value (.bool (!decide (y = z)))) w := by
  obtain ⟨a, s⟩ := y
  obtain ⟨b, t⟩ := z
  by_cases h1 : a = b
  · by_cases h2 : s = t
    · simp [h1, h2]
    · have : ¬ s.toList = t.toList := fun h => h2 (toList_inj h)
      simp [h1, h2, this]
  · simp [h1]
theorem listV_getD {ts us : List (Int × ByteArray)} (hl : ts.length = us.length) (h : ∀ i, i < ts.length → ts.getD i v0 = us.getD i v0) : ts = us := by
  refine List.ext_getElem hl (fun i h1 h2 => ?_)
  have := h i h1
  simpa [List.getD, h1, h2] using this
set_option maxHeartbeats 2000000 in
theorem same7_any (A : Option Addr) (N C : Nat) (l : List (Int × ByteArray)) (A' : Option Addr) (N' C' : Nat) (k : List (Int × ByteArray)) (w : World) (hv : WV w A N l) (hv' : WV w A' N' k) (hN : N ≤ 1000000) (hN' : N' ≤ 1000000) :
    Calls Try.prog 15 #[.slice A N C, .slice A' N' C'] w fun e w' => e = .returned (.bool (decide (l = k))) ∧ Below w.heap.size w w' := by
  have hl := Lib.hid (WV.len hv)
  have hl' := Lib.hid (WV.len hv')
  by_cases h1 : N = N'
  · subst h1
    go_enter Try.func15, Try.ntmps15
    go_wp2_with fail
    go_loopw [5] (fun i wr => ∃ j : Nat, j ≤ N ∧ i = .int .i64 (j : Int) ∧ Hid (∀ i, i < j → l.getD i v0 = k.getD i v0) ∧ Below w.heap.size w wr) (fun i _ => N - (intOf i).toNat)
    case atStart => exact ⟨0, by omega, rfl, Lib.hid (fun i hi => by omega), Below.refl _ _⟩
    case round =>
      obtain ⟨j, hj, rfl, HT, hbel⟩ := hrel
      by_cases hlt : j < N
      · obtain ⟨b, off, rfl, hd1, hd2⟩ := WV.at hv j hlt
        obtain ⟨b', off', rfl, he1, he2⟩ := WV.at hv' j hlt
        replace hd1 := keepc hd1 hbel
        replace hd2 := keepc hd2 hbel
        replace he1 := keepc he1 hbel
        replace he2 := keepc he2 hbel
        have hji : (j : Int) < (N : Int) := by omega
        generalize hx1 : l.getD j v0 = y at hd1 hd2
        generalize hy1 : k.getD j v0 = z at he1 he2
        have HX := Lib.hid hx1
        have HY := Lib.hid hy1
        clear hx1 hy1 hv hv'
        go_wp2_with fail
        refine wp_region_noPanic ?_
        refine region_g 9 (Ext (World.drew _)) (by kernel_rfl) (Ext.refl _) (fun hS => ?_)
        refine take_w (i := 0) (v := ?_) (some 17) rfl (by kernel_rfl) rfl (fun _ _ _ h => h) (Or.inl ⟨by rfl, ?_⟩) hS ?_
        rotate_left
        · (intro wq hq; go_simp); first | done | with_reducible rfl
        try simp only [Act.put, List.setIfInBounds_toArray, List.set_cons_zero, List.set_cons_succ]
        replace hS := Till.list 0 hS
        refine take_w (i := 1) (v := ?_) (some 18) rfl (by kernel_rfl) rfl (fun _ _ _ h => h) (Or.inl ⟨by rfl, ?_⟩) hS ?_
        rotate_left
        · (intro wq hq; go_simp); first | done | with_reducible rfl
        try simp only [Act.put, List.setIfInBounds_toArray, List.set_cons_zero, List.set_cons_succ]
        replace hS := Till.list 1 hS
        refine take_w (i := 4) (v := ?_) (some 21) rfl (by kernel_rfl) rfl (fun _ _ _ h => h) (Or.inl ⟨by rfl, ?_⟩) hS ?_
        rotate_left
        · (intro wq hq; go_simp); first | done | with_reducible rfl
        try simp only [Act.put, List.setIfInBounds_toArray, List.set_cons_zero, List.set_cons_succ]
        replace hS := Till.list 4 hS
        refine take_w (i := 5) (v := ?_) (some 22) rfl (by kernel_rfl) rfl (fun _ _ _ h => h) (Or.inl ⟨by rfl, ?_⟩) hS ?_
        rotate_left
        · (intro wq hq; go_simp); first | done | with_reducible rfl
        try simp only [Act.put, List.setIfInBounds_toArray, List.set_cons_zero, List.set_cons_succ]
        replace hS := Till.list 5 hS
        refine take_w (i := 2) (v := ?_) (some 19) rfl (by kernel_rfl) rfl (fun _ _ _ h => h) (Or.inl ⟨by rfl, ?_⟩) hS ?_
        rotate_left
        · (intro wq hq; go_simp); first | done | with_reducible rfl
        try simp only [Act.put, List.setIfInBounds_toArray, List.set_cons_zero, List.set_cons_succ]
        replace hS := Till.list 2 hS
        refine take_w (i := 6) (v := ?_) (some 23) rfl (by kernel_rfl) rfl (fun _ _ _ h => h) (Or.inl ⟨by rfl, ?_⟩) hS ?_
        rotate_left
        · (intro wq hq; go_simp); first | done | with_reducible rfl
        try simp only [Act.put, List.setIfInBounds_toArray, List.set_cons_zero, List.set_cons_succ]
        replace hS := Till.list 6 hS
        refine take_n (i := 3) (v := ?_) (some 20) rfl (by kernel_rfl) rfl (fun _ _ _ h => h) (Or.inl ⟨by rfl, ?_⟩) hS ?_
        rotate_left
        · (intro wq hq; have q0 := hq _ _ _ hd1; have q1 := hq _ _ _ hd2; have q2 := hq _ _ _ he1; have q3 := hq _ _ _ he2; go_simp); first | done | with_reducible rfl
        try simp only [Act.put, List.setIfInBounds_toArray, List.set_cons_zero, List.set_cons_succ]
        replace hS := Till.list 3 hS
        refine take_n (i := 7) (v := ?_) (some 24) rfl (by kernel_rfl) rfl (fun _ _ _ h => h) (Or.inl ⟨by rfl, ?_⟩) hS ?_
        rotate_left
        · (intro wq hq; have q0 := hq _ _ _ hd1; have q1 := hq _ _ _ hd2; have q2 := hq _ _ _ he1; have q3 := hq _ _ _ he2; go_simp); first | done | with_reducible rfl
        try simp only [Act.put, List.setIfInBounds_toArray, List.set_cons_zero, List.set_cons_succ]
        replace hS := Till.list 7 hS
        refine take_n (i := 8) (v := .bool (!decide (y = z))) (some 25) rfl (by kernel_rfl) rfl (fun _ _ _ h => h) (Or.inl ⟨by rfl, ?_⟩) hS ?_
        · (intro wq hq; (go_simp; exact eqv_ne y z wq))
        try simp only [Act.put, List.setIfInBounds_toArray, List.set_cons_zero, List.set_cons_succ]
        replace hS := Till.list 8 hS
        refine done_g (by kernel_rfl) (NoPanic.normal ?_) _
        clear hS
        clear hd1 hd2 he1 he2
        by_cases hxy : y = z
        · have HT' : Hid (∀ i, i < j + 1 → l.getD i v0 = k.getD i v0) := Lib.hid (fun i hi => by
            by_cases hij : i < j
            · exact HT.out i hij
            · obtain rfl : i = j := by omega
              rw [HX.out, HY.out, hxy])
          rw [decide_eq_true hxy]
          clear hxy
          go_wp2_with fail
          go_roundw
          case rel => exact ⟨j + 1, by omega, by go_num, HT', hbel.drew⟩
          case measure => simp [intOf]; omega
        · have HF : Hid (decide (l = k) = false) := Lib.hid (decide_eq_false (fun h => hxy (by rw [← HX.out, ← HY.out, h])))
          rw [decide_eq_false hxy]
          clear hxy
          go_wp2_with fail
          go_ret
          exact ⟨by rw [HF.out]; rfl, hbel.drew⟩
      · obtain rfl : j = N := by omega
        have HF : Hid (decide (l = k) = true) := Lib.hid (decide_eq_true (listV_getD (by rw [hl.out, hl'.out]) (fun i hi => HT.out i (by rw [← hl.out]; exact hi))))
        go_wp2_with fail
        go_ret
        exact ⟨by rw [HF.out]; rfl, hbel⟩
  · have hne : ((N : Int) == (N' : Int)) = false := by rw [beq_eq_false_iff_ne]; omega
    have HF : Hid (decide (l = k) = false) := Lib.hid (decide_eq_false (fun h => h1 (by rw [← hl.out, ← hl'.out, h])))
    clear hv hv'
    go_enter Try.func15, Try.ntmps15
    go_wp2_with fail
    go_ret
    exact ⟨by rw [HF.out]; rfl, Below.refl _ _⟩
end Go.Proofs.Yticocaljgaegfaa
/- BlockNext: the walk. -/
namespace Go.Proofs.Yticocaljgaegfaa
open Go.ChangeShapes Go.WideShapes Go.ChangeAt Go.RowKit
set_option linter.unusedVariables false

theorem el_valss : El 39 22 1 24 (.slice none 0 0) := ⟨Try.underlying39, by kernel_rfl, rfl, by omega⟩
theorem block_len60 {t : Int} {l : List (Int × ByteArray)} (h : colB t l = true) (hl : l.length ≤ 60) : (blockL t l).length ≤ 13000 := by
  have hd : (dataL t l).length ≤ 12700 := by
    rw [dataL, List.length_cons]
    obtain ⟨ht, l2, l3⟩ := colB_iff.1 h
    rcases type_cases ht with ht | rfl
    · rw [bare_num ht, putI, List.length_append]
      have h1 := bodyI_len (numsV l)
      have h3 : ((numsV l).length) = l.length := List.length_map ..
      have h4 := pv_len10 (x := ((numsV l).length : Int)) (by omega)
      omega
    · rw [bare_txt, putT, List.length_append]
      have o := col_okT h
      have hs : Sm (txtsV l) := fun s hs => by have := o.2 s hs; omega
      have h1 := bodyT_len (txtsV l)
      have h2 := eachL_len210 hs
      have h3 : ((txtsV l).length) = l.length := List.length_map ..
      have h4 := pv_len10 (x := ((txtsV l).length : Int)) (by omega)
      omega
  have h4 := pv_len10 (x := ((dataL t l).length : Int)) (by omega)
  rw [blockL, frameL_len]; omega
/-- some blocks, of type t on -/
def restB (l : List (Int × ByteArray)) : Nat → Nat → List Int
  | t, 0 => []
  | t, n + 1 => blockL (t : Int) (fitA (t : Int) l) ++ restB l (t + 1) n
/-- what was put ahead of type t, and what was fit -/
def fitsTo (l : List (Int × ByteArray)) (j : Nat) : List (List (Int × ByteArray)) := (List.range j).map (fun i => fitA ((i + 1 : Nat) : Int) l)
theorem fitsTo_snoc (l : List (Int × ByteArray)) (j : Nat) : fitsTo l (j + 1) = fitsTo l j ++ [fitA ((j + 1 : Nat) : Int) l] := by rw [fitsTo, List.range_succ, List.map_append]; rfl
theorem fitsTo_len (l : List (Int × ByteArray)) (j : Nat) : (fitsTo l j).length = j := by simp [fitsTo]
theorem fitsTo_at {l : List (Int × ByteArray)} {j i : Nat} (h : i < j) : (fitsTo l j).getD i [] = fitA ((i + 1 : Nat) : Int) l := by simp [fitsTo, List.getD, h]
/-- what is known of the bytes, and of the columns, behind j blocks -/
def NX (base : Nat) (w : World) (va vo : Value) (j : Nat) (bs : List Int) (vss : List (List (Int × ByteArray))) : Prop :=
  OW w base va bs ∧ (∃ cs, OS 1 w base vo j cs ∧ vss.length = j ∧ ∀ i, i < j → RO w va.ownBlock (cs.getD i undef) (vss.getD i []) ∧ RO w vo.ownBlock (cs.getD i undef) (vss.getD i [])) ∧ (∀ g, va.ownBlock = some g → vo.ownBlock ≠ some g)
theorem NX.below {base : Nat} {w w' : World} {va vo : Value} {j : Nat} {bs : List Int} {vss : List (List (Int × ByteArray))} (h : NX base w va vo j bs vss) (hb : Below w.heap.size w w') : NX base w' va vo j bs vss := by
  obtain ⟨h1, ⟨cs, h2, h3, h4⟩, h5⟩ := h
  exact ⟨h1.below hb, ⟨cs, h2.below hb, h3, fun i hi => ⟨(h4 i hi).1.below hb, (h4 i hi).2.below hb⟩⟩, h5⟩
theorem NX.alloc {base : Nat} {w : World} {va vo : Value} {j : Nat} {bs : List Int} {vss : List (List (Int × ByteArray))} (h : NX base w va vo j bs vss) (o : Obj) : NX base (w.alloc o) va vo j bs vss := h.below (Joins.below_alloc1 _ _)
theorem NX.start (w : World) : NX w.heap.size ((w.alloc (.cells #[] 5)).alloc (.cells #[] 22)) (.slice (some ⟨w.heap.size, 0, none⟩) 0 0) (.slice (some ⟨w.heap.size + 1, 0, none⟩) 0 0) 0 [] [] := by
  refine ⟨(OW.empty w w.heap.size (Nat.le_refl _) _ rfl).alloc _, ⟨[], OS.lit (k := 1) (w.alloc (.cells #[] 5)) w.heap.size (by simp) [] 0 22 rfl (by simp) (by simp) _ (by simp), rfl, fun i hi => by omega⟩, ?_⟩
  intro g h1 h2
  have e1 : some w.heap.size = some g := h1
  have e2 : some (w.heap.size + 1) = some g := h2
  rw [← e1] at e2; simp at e2
/-- bytes were put behind -/
theorem NX.bytes {base : Nat} {w w' : World} {va va' vo : Value} {j : Nat} {bs bs' : List Int} {vss : List (List (Int × ByteArray))} (h : NX base w va vo j bs vss) (ho : OW w' base va' bs') (hk : va'.ownBlock = va.ownBlock ∨ va'.ownBlock = some w.heap.size) (hs : ∀ b, b < w.heap.size → va.ownBlock ≠ some b → w'.heap[b]? = w.heap[b]?) : NX base w' va' vo j bs' vss := by
  obtain ⟨h1, ⟨cs, h2, h3, h4⟩, h5⟩ := h
  refine ⟨ho, ⟨cs, h2.same (fun g hg hlt => hs g hlt (fun e => h5 g e hg)), h3, fun i hi => ⟨(h4 i hi).1.keep hs hk, (h4 i hi).2.still (row_keep (h4 i hi).1 hs)⟩⟩, ?_⟩
  intro g hg he
  rcases hk with e | e
  · exact h5 g (by rw [← e]; exact hg) he
  · rw [e] at hg; cases hg
    have := (h2.ownLow he).2
    omega
/-- a column was put behind -/
theorem NX.column {base : Nat} {w w' : World} {va vo vo' r : Value} {j : Nat} {bs : List Int} {vss : List (List (Int × ByteArray))} {vs : List (Int × ByteArray)} {cs : List Value} (h1 : OW w base va bs) (h2 : OS 1 w base vo j cs) (h3 : vss.length = j) (h4 : ∀ i, i < j → RO w va.ownBlock (cs.getD i undef) (vss.getD i []) ∧ RO w vo.ownBlock (cs.getD i undef) (vss.getD i [])) (h5 : ∀ g, va.ownBlock = some g → vo.ownBlock ≠ some g)
    (hr : RO w va.ownBlock r vs) (hr2 : RO w vo.ownBlock r vs) (ho : OS 1 w' base vo' (j + 1) (cs ++ [r])) (hk : vo'.ownBlock = vo.ownBlock ∨ vo'.ownBlock = some w.heap.size) (hs : ∀ b, b < w.heap.size → vo.ownBlock ≠ some b → w'.heap[b]? = w.heap[b]?) : NX base w' va vo' (j + 1) bs (vss ++ [vs]) := by
  have hcl : cs.length = j := by have := h2.1; omega
  refine ⟨h1.same (fun g hg hlt => hs g hlt (h5 g hg)), ⟨cs ++ [r], ho, by simp [h3], fun i hi => ?_⟩, ?_⟩
  · by_cases hij : i < j
    · have e1 : (cs ++ [r]).getD i undef = cs.getD i undef := by rw [List.getD_eq_getElem?_getD, List.getElem?_append_left (by omega), ← List.getD_eq_getElem?_getD]
      have e2 : (vss ++ [vs]).getD i [] = vss.getD i [] := by rw [List.getD_eq_getElem?_getD, List.getElem?_append_left (by omega), ← List.getD_eq_getElem?_getD]
      rw [e1, e2]
      exact ⟨(h4 i hij).1.still (row_keep (h4 i hij).2 hs), (h4 i hij).2.keep hs hk⟩
    · obtain rfl : i = j := by omega
      have e1 : (cs ++ [r]).getD i undef = r := by simp [List.getD, ← hcl]
      have e2 : (vss ++ [vs]).getD i [] = vs := by simp [List.getD, ← h3]
      rw [e1, e2]
      exact ⟨hr.still (row_keep hr2 hs), hr2.keep hs hk⟩
  · intro g hg he
    rcases hk with e | e
    · exact h5 g hg (by rw [← e]; exact he)
    · rw [e] at he; cases he
      have := (h1.ownLow hg).2
      omega
theorem NX.rvs {base : Nat} {w : World} {va vo : Value} {j : Nat} {bs : List Int} {vss : List (List (Int × ByteArray))} (h : NX base w va vo j bs vss) : ∃ a c, vo = .slice a j c ∧ RVs w a j vss := by
  obtain ⟨-, ⟨cs, h2, h3, h4⟩, -⟩ := h
  exact OwnRows.rvs ⟨cs, h2, h3, fun i hi => (h4 i hi).2⟩
set_option maxRecDepth 20000 in
set_option maxHeartbeats 4000000 in
theorem next7_is (A0 : Option Addr) (n0 C0 : Nat) (l0 : List (Int × ByteArray)) (w : World) (hv0 : WV w A0 n0 l0) (hn0 : n0 ≤ maxLen) (hr0 : RgV l0) :
    Calls Try.prog 6 #[.slice A0 n0 C0] w fun e w' => e = .returned (.bool true) ∧ Below w.heap.size w w' := by
  go_enter Try.func6, Try.ntmps6
  go_wp2_with fail
  refine (shown7_is _).mono ?_
  rintro e w1 ⟨rfl, hb1⟩
  have hv1 := hv0.below hb1
  have nx0 := NX.start w1
  have hw0 : Below w1.heap.size w1 ((w1.alloc (.cells #[] 5)).alloc (.cells #[] 22)) := Joins.below_alloc2 _ _ _
  clear hv0
  obtain ⟨q, hq⟩ : ∃ q, q = fewP l0 60 := ⟨_, rfl⟩
  have HQ := Lib.hid hq
  clear hq
  go_wp2_with fail
  go_loopw [4, 5, 6] (fun va vo i wr => ∃ (j L : Nat) (bs : List Int), j ≤ 3 ∧ i = .int .i64 ((j : Int) + 1) ∧ Hid (bs ++ restB q (j + 1) (3 - j) = restB q 1 3) ∧ Hid (bs.length = L) ∧ L ≤ 13000 * j ∧ NX w1.heap.size wr va vo j bs (fitsTo q j) ∧ Below w1.heap.size w1 wr) (fun _ _ i _ => 4 - (intOf i).toNat)
  case atStart => exact ⟨0, 0, [], by omega, rfl, Lib.hid rfl, Lib.hid rfl, by omega, nx0, hw0⟩
  case round =>
    clear nx0 hw0
    obtain ⟨j, L, bs, hj, rfl, HB, HL, hLj, nx, hbel⟩ := hrel
    obtain ⟨wo, hwo⟩ : ∃ wo, wo = wr := ⟨_, rfl⟩
    subst hwo
    have HVA : Hid (∀ g, u4.ownBlock = some g → g < wo.heap.size) := Lib.hid (fun g hg => (nx.1.ownLow hg).2)
    have HVO : Hid (∀ g, u5.ownBlock = some g → g < wo.heap.size) := Lib.hid (fun g hg => by obtain ⟨cs, h, -⟩ := nx.2.1; exact (h.ownLow hg).2)
    by_cases hlt : j < 3
    · have hji : (j : Int) + 1 ≤ 3 := by omega
      have hv2 := (hv1.below hbel).alloc (.cells #[] 35)
      have ho0 : OS 2 (wo.alloc (.cells #[] 35)) wo.heap.size (.slice (some ⟨wo.heap.size, 0, none⟩) 0 0) 0 (vcells []) := OS.lit (k := 2) wo wo.heap.size (by simp) [] 0 35 rfl (by simp) (by simp) _ (by simp)
      have hw0 : Below wo.heap.size wo (wo.alloc (.cells #[] 35)) := Joins.below_alloc1 _ _
      have hs1 : wo.heap.size < (wo.alloc (.cells #[] 35)).heap.size := by simp
      go_wp2_with fail
      refine (few7_any A0 n0 C0 l0 _ hv2 hn0 hr0).mono ?_
      rintro e w2 ⟨A, N, C, l, rfl, hCN, hN, hv, hr, hle, hos, hbf⟩
      obtain rfl : l = q := by rw [hle.out, HQ.out]
      replace ho0 := ho0.below hbf
      replace hw0 := Below.then hw0 hbf
      have HA : Hid (∀ y, A = some y → y.block < w2.heap.size ∧ y.block ≠ wo.heap.size) := Lib.hid (fun y hy => by
        rcases hos.where with ⟨h, -, -⟩ | ⟨g, h, h1, h2⟩
        · rw [h] at hy; cases hy
        · rw [h] at hy; cases hy
          exact ⟨h2, by show g ≠ _; omega⟩)
      have hsz2 := hw0.size
      clear hv2 hbf hos hs1 hle
      have hl := Lib.hid (WV.len hv)
      obtain ⟨k, hk⟩ : ∃ k : Int, (j : Int) + 1 = k := ⟨_, rfl⟩
      have HK0 := Lib.hid hk
      have hk1 : 1 ≤ k ∧ k ≤ 3 := by omega
      rw [hk]
      clear hk
      go_wp2_with fail
      go_loopw [7, 9] (fun v i wr => ∃ (p m : Nat), p ≤ N ∧ m ≤ p ∧ i = .int .i64 (p : Int) ∧ OS 2 wr wo.heap.size v m (vcells (fitL k l p)) ∧ Hid (∀ g, v.ownBlock = some g → g = wo.heap.size ∨ w2.heap.size ≤ g) ∧ WV wr A N l ∧ w2.heap.size ≤ wr.heap.size ∧ Below wo.heap.size wo wr) (fun _ i _ => N - (intOf i).toNat)
      case atStart => exact ⟨0, 0, by omega, by omega, rfl, ho0, Lib.hid (fun g hg => .inl (by have : some wo.heap.size = some g := hg; cases this; rfl)), hv, Nat.le_refl _, hw0⟩
      case round =>
        clear ho0 hw0 hv
        obtain ⟨p, m, hp, hmp, rfl, ho, HO, hv, hsz, hin⟩ := hrel
        by_cases hpl : p < N
        · have hpi : (p : Int) < (N : Int) := by omega
          obtain ⟨b, off, rfl, hd1, hd2⟩ := WV.at hv p hpl
          obtain ⟨hlt3, hne3⟩ : b < w2.heap.size ∧ b ≠ wo.heap.size := HA.out _ rfl
          have HS := Lib.hid (fitL_snoc (t := k) (l := l) (j := p) (by rw [hl.out]; exact hpl))
          generalize l.getD p v0 = y at hd1 hd2 HS
          go_wp2_with fail
          refine (rfits_any k y.1 y.2 _).mono ?_
          rintro e w3 ⟨rfl, hb3⟩
          replace hd1 := keepc hd1 hb3
          replace hd2 := keepc hd2 hb3
          replace ho := ho.below hb3
          replace hv := hv.below hb3
          have hz3 := hb3.size
          replace hin := Below.then hin hb3
          clear hb3
          cases hft : fitsB k y.1 y.2
          · rw [hft] at HS
            go_wp2_with fail
            go_roundw
            case rel => exact ⟨p + 1, m, by omega, by omega, by go_num, by rw [HS.out, if_neg (by decide), List.append_nil]; exact ho, HO, hv, by omega, hin⟩
            case measure => simp [intOf]; omega
          · rw [hft] at HS
            have hl4 := hv.alloc (.cells #[.int .i64 y.1, .string y.2] 35)
            have hb4 := hin.alloc hin.size (.cells #[.int .i64 y.1, .string y.2] 35)
            have hs4 : w3.heap.size < (w3.alloc (.cells #[.int .i64 y.1, .string y.2] 35)).heap.size := by simp
            have hs5 := hb4.size
            go_wp2_with (at_builtin; refine append_os2 el_vals rfl (.tmp 41) (.tmp 46) rfl wo.heap.size _ m _ rfl (ho.alloc _) _ 1 1 [.int .i64 y.1, .string y.2] rfl (SV.lit' (k := 2) _ [.int .i64 y.1, .string y.2] 1 35 rfl (two_one _ _) _ rfl) (by omega) (by omega) hs5 ?_; intro v4 w4 ho4 hb5 ob4 hk4; have HK : Hid (∀ b, b < (w3.alloc (.cells #[.int .i64 y.1, .string y.2] 35)).heap.size → u7.ownBlock ≠ some b → w4.heap[b]? = (w3.alloc (.cells #[.int .i64 y.1, .string y.2] 35)).heap[b]?) := Lib.hid hk4; have HO3 : Hid (v4.ownBlock = u7.ownBlock ∨ v4.ownBlock = some (w3.alloc (.cells #[.int .i64 y.1, .string y.2] 35)).heap.size) := Lib.hid ob4; clear hk4 ob4)
            go_roundw
            case rel =>
              refine ⟨p + 1, m + 1, by omega, by omega, by go_num, by rw [HS.out, vcells_app]; exact ho4, Lib.hid (fun g hg => ?_), hl4.other (fun x hx hlt => ?_), ?_, hb4.trans hb5⟩
              · rcases HO3.out with h | h
                · exact HO.out g (by rw [← h]; exact hg)
                · rw [h] at hg; cases hg; right; omega
              · cases hx
                exact HK.out b hlt (fun e => by have := HO.out b e; omega)
              · have := hb5.size; omega
            case measure => simp [intOf]; omega
        · obtain rfl : p = N := by omega
          obtain ⟨A5, C5, rfl, hC5, -, wv, -, -⟩ := id ho.sv
          have HF := Lib.hid (show fitL k l p = fitA k l by rw [fitL, ← hl.out, List.take_length])
          rw [HF.out] at wv ho
          replace nx := nx.below hin
          replace hbel := Below.then hbel hin
          have hcol : colB k (fitA k l) = true := fitA_col hk1 (by rw [hl.out]; omega)
          have HRG := Lib.hid (fitA_rg (t := k) hr)
          clear HF HO hv
          go_wp2_with fail
          refine (bput_any k A5 m C5 (fitA k l) _ wv HRG.out (by omega)).mono ?_
          rintro e w5 he
          rcases he with ⟨-, ⟨v5, rfl, o5⟩, hb5⟩ | ⟨h, -, -⟩
          rotate_left
          · rw [hcol] at h; cases h
          replace nx := nx.below hb5
          replace ho := ho.below hb5
          replace wv := wv.below hb5
          replace hbel := Below.then hbel hb5
          have hz5 := hb5.size
          have hin5 := hin.size
          obtain ⟨LB, hLB⟩ : ∃ LB, (blockL k (fitA k l)).length = LB := ⟨_, rfl⟩
          have hLb : 8 ≤ LB ∧ LB ≤ 13000 := by rw [← hLB]; exact ⟨(block_len hcol).1, block_len60 hcol (Nat.le_trans (List.length_filter_le _ _) (by rw [hl.out]; omega))⟩
          obtain ⟨a6, c6, rfl, hc6, -, b6, -⟩ := o5.bvn (block_bytes hcol) LB hLB
          have HLB := Lib.hid hLB
          clear hLB o5 hb5
          go_wp2_with (at_builtin; first | (refine append_ow2 rfl (.tmp 56) (.tmp 57) rfl w1.heap.size _ bs rfl nx.1 a6 LB c6 _ rfl b6 (by rw [HL.out]; omega) hbel.size ?_; intro v6 w6 o6 hb6 ob6 hk6; have HK6 : Hid (∀ b, b < w5.heap.size → u4.ownBlock ≠ some b → w6.heap[b]? = w5.heap[b]?) := Lib.hid hk6; have HO6 : Hid (v6.ownBlock = u4.ownBlock ∨ v6.ownBlock = some w5.heap.size) := Lib.hid ob6; clear hk6 ob6; have nx6 := nx.bytes o6 HO6.out HK6.out; have ho6 := ho.same (fun g hg hlt => HK6.out g hlt (fun e => by have := HVA.out g e; have := (ho.ownLow hg).1; omega)); have hbel6 := hbel.trans hb6; have nx7 := nx6.alloc (.cells #[.slice A5 m C5] 22); obtain ⟨o7, ⟨cs7, q2, q3, q4⟩, q5⟩ := id nx7; have HQ4 := Lib.hid q4; have HQ5 := Lib.hid q5; clear q4 q5; have hb7 := hbel6.alloc hbel6.size (.cells #[.slice A5 m C5] 22); have hs7 := hb7.size) | (refine append_os2 el_valss rfl (.tmp 59) (.tmp 61) rfl w1.heap.size _ j cs7 rfl q2 _ 1 1 [.slice A5 m C5] rfl (SV.lit' (k := 1) w6 [.slice A5 m C5] 1 22 rfl (by intro u hu; rw [List.mem_singleton.1 hu]; rfl) _ rfl) (by omega) (by omega) hs7 ?_; intro v8 w8 o8 hb8 ob8 hk8))
          go_roundw
          case rel =>
            have hra2 : RowAt w6 (.slice A5 m C5) (fitA k l) := (RO.own (k := none) ho6 (fun b hb => by cases hb)).1
            have hr1 : RO w6 v6.ownBlock (.slice A5 m C5) (fitA k l) := by
              rcases HO6.out with h | h
              · exact RO.own ho6 (fun b hb => HVA.out b (by rw [← h]; exact hb))
              · rw [h]; exact RO.young ho (Nat.le_refl _) hra2
            have hr2 : RO w6 u5.ownBlock (.slice A5 m C5) (fitA k l) := RO.own ho6 (fun b hb => HVO.out b hb)
            have hk : Below w6.heap.size w6 (w6.alloc (.cells #[.slice A5 m C5] 22)) := Joins.below_alloc1 _ _
            have hjk : ((j + 1 : Nat) : Int) = k := by rw [← HK0.out]; omega
            have hnx := NX.column o7 q2 q3 HQ4.out HQ5.out (hr1.below hk) (hr2.below hk) o8 ob8 hk8
            refine ⟨j + 1, L + LB, bs ++ blockL k (fitA k l), by omega, by rw [← HK0.out]; go_num, Lib.hid ?_, Lib.hid (by rw [List.length_append, HL.out, HLB.out]), by omega, ?_, hb7.trans hb8⟩
            · rw [← HB.out]
              obtain ⟨r, hr3⟩ : ∃ r, 3 - j = r + 1 := ⟨2 - j, by omega⟩
              rw [hr3, restB, hjk, show 3 - (j + 1) = r by omega, List.append_assoc]
            · rw [fitsTo_snoc, hjk]; exact hnx
          case measure => have hk0 := HK0.out; simp [intOf]; omega
    · obtain ⟨i4, hi4⟩ : ∃ i4 : Int, (j : Int) + 1 = i4 := ⟨_, rfl⟩
      have hi3 : ¬ i4 ≤ 3 := by omega
      rw [hi4]
      clear hi4
      obtain rfl : j = 3 := by omega
      obtain ⟨aO, cO, rfl, rv⟩ := nx.rvs
      have hbs := HB.out
      rw [Nat.sub_self, restB, List.append_nil] at hbs
      have hby : ∀ z ∈ bs, 0 ≤ z ∧ z ≤ 255 := by
        rw [hbs]
        intro z hz
        simp only [restB, List.append_nil, List.mem_append] at hz
        have hql : q.length ≤ 2000 := by rw [HQ.out, fewP, List.length_map, List.length_take]; omega
        rcases hz with hz | hz | hz
        · exact block_bytes (fitA_col (by omega) hql) z hz
        · exact block_bytes (fitA_col (by omega) hql) z hz
        · exact block_bytes (fitA_col (by omega) hql) z hz
      obtain ⟨aA, cA, rfl, hcA, -, bA, -⟩ := nx.1.bvn hby L HL.out
      rw [hbs] at bA
      replace hb1 := Below.then hb1 hbel
      have hq6 : q.length ≤ 60 := by rw [HQ.out, fewP, List.length_map, List.length_take]; omega
      have hqr : RgV q := by rw [HQ.out]; exact fewP_rg hr0 60
      clear nx hbel hby hbs HB
      go_wp2_with fail
      go_loopw [4, 13] (fun v i wr => ∃ (j n c : Nat) (a : Option Addr), j ≤ 3 ∧ i = .int .i64 ((j : Int) + 1) ∧ v = .slice a n c ∧ n ≤ c ∧ n ≤ 39000 ∧ BV wr a n (restB q (j + 1) (3 - j)) ∧ Below wo.heap.size wo wr) (fun _ i _ => 4 - (intOf i).toNat)
      case atStart => exact ⟨0, _, _, _, by omega, rfl, rfl, hcA, by omega, bA, Below.refl _ _⟩
      case round =>
        clear bA hcA hLj HVA HVO
        obtain ⟨j, n, c, a, hj3, rfl, rfl, hc, hn, bv, hbel⟩ := hrel
        by_cases hlt3 : j < 3
        · have hji : (j : Int) + 1 ≤ 3 := by omega
          obtain ⟨r, hr3⟩ : ∃ r, 3 - j = r + 1 := ⟨2 - j, by omega⟩
          obtain ⟨k, hk⟩ : ∃ k : Int, (j : Int) + 1 = k := ⟨_, rfl⟩
          have hjk : ((j + 1 : Nat) : Int) = k := by rw [← hk]; omega
          have hk1 : 1 ≤ k ∧ k ≤ 3 := by omega
          rw [hr3, restB, hjk] at bv
          have hcol : colB k (fitA k q) = true := fitA_col hk1 (by omega)
          have hrg := fitA_rg (t := k) hqr
          have HS := Lib.hid (says_back hcol hrg (restB q (j + 1 + 1) r))
          have hfl : (fitA k q).length ≤ 60 := Nat.le_trans (List.length_filter_le _ _) hq6
          obtain ⟨LB, hLB⟩ : ∃ LB, (blockL k (fitA k q)).length = LB := ⟨_, rfl⟩
          have hLn : LB ≤ n := by rw [← hLB, ← bv.1, List.length_append]; omega
          have hdr : (blockL k (fitA k q) ++ restB q (j + 1 + 1) r).drop LB = restB q (j + 1 + 1) r := by rw [← hLB, List.drop_left]
          rw [hLB] at HS
          have rv2 := rv.below hbel
          obtain ⟨v3, hc3, A3, L3, C3, rfl, hr1, hr2, hl3, wv3, -⟩ : ∃ v, (∃ b off, aO = some ⟨b, off, none⟩ ∧ wr.cell? ⟨b, off + j, none⟩ = some v) ∧ RowAt wr v (fitA k q) := by
            rcases rv2.2 with h | ⟨b, off, rfl, h⟩
            · omega
            · obtain ⟨v, h1, h2⟩ := h j hlt3
              rw [fitsTo_at hlt3, hjk] at h2
              exact ⟨v, ⟨b, off, rfl, h1⟩, h2⟩
          obtain ⟨b3, off3, hO3, hc3⟩ := hc3
          subst hO3
          have hL60 : L3 ≤ 60 := by omega
          have HK := Lib.hid hk
          have HJK := Lib.hid hjk
          have hkj : k - 1 = (j : Int) := by omega
          have hk3 : k ≤ 3 := hk1.2
          have HDR := Lib.hid hdr
          rw [hk]
          clear hk hjk hdr hji hcol hfl hLB rv2 rv hlt hj
          go_wp2_with fail
          refine (btake_any k a n c _ _ bv hc (by omega)).mono ?_
          rintro e w4 ⟨A4, N4, C4, l4, s4, e4, rfl, hN4, v4, S4, hb4⟩
          obtain ⟨h1, rfl, rfl⟩ := S4.out.one HS.out
          replace hc3 := keepc hc3 hb4
          replace bv := bv.below hb4
          replace wv3 := wv3.below hb4
          replace hbel := Below.then hbel hb4
          clear hb4 S4 HS
          go_wp2_with fail
          refine (same7_any A4 N4 C4 l4 A3 L3 C3 _ _ v4 wv3 (by omega) (by omega)).mono ?_
          rw [decide_eq_true h1]
          rintro e w5 ⟨rfl, hb5⟩
          replace bv := bv.below hb5
          replace hbel := Below.then hbel hb5
          clear hb5 v4 wv3 hc3 h1
          obtain ⟨a6, hsl6, bv6⟩ := bv.slice_lo LB c hLn hc
          rw [HDR.out] at bv6
          have hLni : ¬ (n : Int) < (LB : Int) := by omega
          clear bv HDR
          go_wp2_with fail
          go_roundw
          case rel => exact ⟨j + 1, n - LB, c - LB, a6, by omega, by rw [← HK.out]; go_num, rfl, by omega, by omega, by rw [show 3 - (j + 1) = r by omega]; exact bv6, hbel⟩
          case measure => have hk0 := HK.out; simp [intOf]; omega
        · obtain rfl : j = 3 := by omega
          rw [Nat.sub_self, restB] at bv
          obtain rfl : n = 0 := bv.1.symm
          replace hb1 := Below.then hb1 hbel
          clear bv
          go_wp2_with fail
          go_ret
          exact ⟨rfl, hb1⟩
end Go.Proofs.Yticocaljgaegfaa
/-
  BlockNext: for every list of values the statement's function returns true, and its argument reads as it did. No condition.
-/
namespace Go.Proofs.Yticocaljgaegfaa.blockNext
open Go.ChangeShapes Go.WideShapes Go.ChangeAt Go.RowKit
set_option linter.unusedVariables false

set_option maxRecDepth 100000 in
theorem lifted (os : Os) (started : os.Started) (H : Type) (enc : TypeId × Value → H) :
    ReturnsInHanded {} Try.checked os 6 .any (Rows.blockNextSpec.pre6 enc Try.prog Try.f6 Rows.blockNextRow.domain false) (Rows.blockNextSpec.post enc Try.prog Try.f6 false true false false) := by
  refine returnsInHanded_of_change (C := Try.checked) own started (by kernel_rfl) Try.func6
    (ChangeSpec.witness6 (enc := enc) (C := Try.checked) false ⟨#[], #[.slice none 0 0], []⟩ 8 (by kernel_rfl) (by kernel_rfl) (by kernel_rfl) (by kernel_rfl)) ?_
  intro W base args ds gs before hval0 hW hcnd _
  have hval : ∀ (j : Nat) t v, Try.f6.params[j]? = some t → args[j]? = some v → Value.okWide Try.prog W .any base t v := hval0
  have hW' := hW
  obtain ⟨p, q, hA0, hV, rfl, hfz, hnd⟩ := hW
  have hA : DataW.TrodAll enc Try.prog W 0 (fun _ => true) true Try.f6.params.toList args.toList ds p := hA0
  rw [Try.params6] at hA hval
  obtain ⟨v0, vs0, d0, ds0, p0, q0, hargs0, rfl, rfl, h0, r0⟩ := trodAll_cons hA
  obtain ⟨hn1, hn2, hn3⟩ := trodAll_nil r0
  subst hn2 hn3
  obtain rfl : args = #[v0] := by cases args; simp_all
  obtain ⟨rfl, rfl⟩ := trodVars_none hV
  have rd0 := h0
  have lt0 : ∀ x ∈ p0, x.block < W.heap.size := by obtain ⟨m, hm⟩ := rd0; exact DataW.trod_lt m _ _ _ hm
  obtain ⟨A0, n0, c0, v0, rfl, W0, L0, R0⟩ := open_values (hval 0 22 v0 rfl rfl) h0
  clear hA0 hval0
  refine (next7_is A0 n0 c0 v0 W W0 L0 R0).mono fun e W' ⟨he, bel⟩ => ?_
  subst he
  exact ⟨_, rfl, _, _, _, [], _, [], hW', trodAll_mk1 (shut_bool Try.underlying4 _), (trodAll_cons_mk (Below.trod laidOut (by kernel_rfl) (of_decide_eq_true (by kernel_rfl)) rd0 bel lt0) trodAll_mk0), rfl, bel.frame _, fun h => by cases h⟩

theorem over : Rows.blockNextRow.holds Try.pinned (OpenSpec.ofChange Rows.blockNextSpec) :=
  OpenClaim.holds_of_wide 6 Try.f6 rfl rfl rfl rfl rfl rfl rfl ⟨rfl, rfl, rfl, rfl, rfl⟩ rfl rfl rfl rfl rfl (by kernel_rfl) Try.func6 (by kernel_rfl)
    (of_decide_eq_true (by kernel_rfl)) (by unfold Func.isWrapper; first | (rw [if_pos (by decide +kernel)]; kernel_rfl) | (rw [if_neg (by decide +kernel)]; exact ⟨rfl, rfl⟩))
    (fun os started H enc _ => lifted os started H enc)
end Go.Proofs.Yticocaljgaegfaa.blockNext
namespace Go.Proofs.Yticocaljgaegfaa
theorem blockNext_holds : Rows.BlockNextSaid := blockNext.over
end Go.Proofs.Yticocaljgaegfaa
