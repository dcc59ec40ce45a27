/-
  BlockAll: for every number (as a type), every list of values and every slice of bytes the statement's function returns true, and its arguments read as they did. No condition.
-/
import Derived.Test.YticocaljgaegfaaBlock
import Derived.Test.YticocaljgaegfaaBase
import Derived.Test.YticocaljgaegfaaBlockOwn
import Derived.Test.YticocaljgaegfaaRows
import Derived.WalkKit
import Derived.ProofKit
import Derived.OpenShut
import Derived.ShutString
import Derived.ChangeOld
import Derived.Below
import Derived.Test.YticocaljgaegfaaVals
/- The statements' own helpers of stage 7: shown, few; Same. -/
namespace Go.Proofs.Yticocaljgaegfaa
open Go.ChangeShapes Go.WideShapes Go.ChangeAt Go.RowKit
set_option linter.unusedVariables false

theorem shown7_put : putI [] = [0, 0] := by
  have h : shortB [] = false := rfl
  rw [putI, bodyI, h]
  show pv 0 ++ _ = _
  rw [pv_small (by omega)]; rfl
theorem shown7_block : ∃ a b c d, blockL 1 [] = [3, a, b, c, d, 1, 0, 0] := by
  have hd : dataL 1 [] = [1, 0, 0] := by rw [dataL, bare_num (.inl rfl)]; show 1 :: putI [] = _; rw [shown7_put]
  have hq := sealL_len [1, 0, 0]
  rw [blockL, hd, frameL]
  generalize sealL [1, 0, 0] = q at hq
  match q, hq with
  | [a, b, c, d], _ => exact ⟨a, b, c, d, by rw [show (([1, 0, 0] : List Int).length : Int) = 3 from rfl, pv_small (by omega)]; rfl⟩
set_option maxHeartbeats 1000000 in
theorem shown7_is (w : World) : Calls Try.prog 9 #[] w fun e w' => e = .returned (.bool true) ∧ Below w.heap.size w w' := by
  go_enter Try.func9, Try.ntmps9
  go_wp2_with fail
  refine (bput_any 1 none 0 0 [] _ (SV.zero _ _) (fun v hv => by cases hv) (by omega)).mono ?_
  rintro e w1 he
  rcases he with ⟨hc, ⟨v, rfl, ho⟩, hb⟩ | ⟨hc, -, -⟩
  · obtain ⟨a, b, c, d, hB⟩ := shown7_block
    have hbb := block_bytes hc
    rw [hB] at ho hbb
    obtain ⟨ad, cp, rfl, -, -, bv, -⟩ := ho.bvn hbb 8 rfl
    obtain ⟨g, off, rfl, hcell⟩ := bv.opened (by omega)
    have c0 : w1.cell? ⟨g, off, none⟩ = some (.int .u8 3) := hcell 0 (by omega)
    have c5 : w1.cell? ⟨g, off + 5, none⟩ = some (.int .u8 1) := hcell 5 (by omega)
    have c6 : w1.cell? ⟨g, off + 6, none⟩ = some (.int .u8 0) := hcell 6 (by omega)
    have c7 : w1.cell? ⟨g, off + 7, none⟩ = some (.int .u8 0) := hcell 7 (by omega)
    clear hcell bv ho hbb hB hc
    go_wp2_with fail
    go_ret
    exact ⟨rfl, hb⟩
  · cases hc
/-- where a slice of the call's own lies -/
theorem OS.where {k : Nat} {w : World} {base : Nat} {A : Option Addr} {N C : Nat} {n : Nat} {cs : List Value} (h : OS k w base (.slice A N C) n cs) : (A = none ∧ N = 0 ∧ C = 0) ∨ ∃ g, A = some ⟨g, 0, none⟩ ∧ base ≤ g ∧ g < w.heap.size := by
  rcases h.2.2 with ⟨hv, _⟩ | ⟨g, cap, cur, T, hv, hg, hh, _⟩
  · cases hv; exact .inl ⟨rfl, rfl, rfl⟩
  · cases hv; exact .inr ⟨g, rfl, hg, heap_lt hh⟩
def cutV (v : Int × ByteArray) : Int × ByteArray := (v.1, cut 70 v.2)
/-- the first values of some that are few -/
def fewP (l : List (Int × ByteArray)) (j : Nat) : List (Int × ByteArray) := (l.take j).map cutV
theorem fewP_snoc {l : List (Int × ByteArray)} {j : Nat} (h : j < l.length) : fewP l (j + 1) = fewP l j ++ [cutV (l.getD j v0)] := by
  rw [fewP, List.take_succ_eq_append_getElem h, List.map_append]; simp [fewP, List.getD, h]
theorem fewP_rg {l : List (Int × ByteArray)} (h : RgV l) (j : Nat) : RgV (fewP l j) := by
  intro v hv
  obtain ⟨x, hx, rfl⟩ := List.mem_map.1 hv
  exact h x (List.mem_of_mem_take hx)
/-- what few tells -/
def FewV (w w' : World) (l0 : List (Int × ByteArray)) (e : Ending) : Prop :=
  ∃ (A : Option Addr) (N C : Nat) (l : List (Int × ByteArray)), e = .returned (.slice A N C) ∧ N ≤ C ∧ N ≤ 60 ∧ WV w' A N l ∧ RgV l ∧ Hid (l = fewP l0 60) ∧ OS 2 w' w.heap.size (.slice A N C) N (vcells l) ∧ Below w.heap.size w w'
set_option maxHeartbeats 4000000 in
theorem few7_any (R : Option Addr) (n c : Nat) (l : List (Int × ByteArray)) (w : World) (hr : WV w R n l) (hn : n ≤ maxLen) (hg : RgV l) :
    Calls Try.prog 10 #[.slice R n c] w fun e w' => FewV w w' l e := by
  unfold maxLen at hn
  have hl2 := Lib.hid (WV.len hr)
  have ho0 : OS 2 (w.alloc (.cells #[] 35)) w.heap.size (.slice (some ⟨w.heap.size, 0, none⟩) 0 0) 0 (vcells (fewP l 0)) := OS.lit (k := 2) w w.heap.size (by simp) [] 0 35 rfl (by simp) (by simp) _ (by simp)
  go_enter Try.func10, Try.ntmps10
  go_wp2_with fail
  go_loopw [3, 4] (fun o i wr => ∃ (j : Nat) (a : Option Addr) (c : Nat), j ≤ n ∧ j ≤ 60 ∧ i = .int .i64 (j : Int) ∧ o = .slice a j c ∧ OS 2 wr w.heap.size (.slice a j c) j (vcells (fewP l j)) ∧ Below w.heap.size w wr) (fun _ i _ => 60 - (intOf i).toNat)
  case atStart => exact ⟨0, _, _, by omega, by omega, rfl, rfl, ho0, Joins.below_alloc1 _ _⟩
  case round =>
    clear ho0
    obtain ⟨j, a, c', hj, hj7, rfl, rfl, ho, hbel⟩ := hrel
    have hsz := hbel.size
    by_cases hlt : j < n
    · by_cases h7 : j < 60
      · obtain ⟨b2, off2, rfl, hd1, hd2⟩ := WV.at hr j hlt
        have hd1 := keepc hd1 hbel
        have hd2 := keepc hd2 hbel
        have lb2 := cell_lt hd1
        have HS := Lib.hid (fewP_snoc (l := l) (j := j) (by rw [hl2.out]; exact hlt))
        generalize l.getD j v0 = y at hd1 hd2 HS
        by_cases hs : y.2.size ≤ 70
        · have hs' : (y.2.size : Int) ≤ 70 := by omega
          go_wp2_with (refine append_os el_vals rfl (.tmp 29) (.tmp 31) rfl w.heap.size _ j _ rfl ((ho.alloc _).alloc _) _ 1 1 [.int .i64 y.1, .string y.2] rfl (SV.lit' (k := 2) _ [.int .i64 y.1, .string y.2] 1 35 rfl (two_one _ _) _ (by simp)) (by omega) (by omega) (by simp; omega) ?_; intro v2 w2 ho2 hb2)
          obtain ⟨a3, c3, rfl⟩ := ho2.shape
          have hw2 : Below w.heap.size w w2 := ((hbel.alloc (by omega) _).alloc (by simp; omega) _).trans (hb2.mono (by omega))
          have ho3 : OS 2 w2 w.heap.size (.slice a3 (j + 1) c3) (j + 1) (vcells (fewP l (j + 1))) := by
            rw [HS.out, vcells_app]
            simpa only [vcells, cutV, cut_all hs] using ho2
          go_wp2_with fail
          go_roundw
          case rel => exact ⟨j + 1, a3, c3, by omega, by omega, by go_num, rfl, ho3, hw2⟩
          case measure => simp [intOf]; omega
        · have hs' : ¬ (y.2.size : Int) ≤ 70 := by omega
          go_wp2_with (refine append_os el_vals rfl (.tmp 29) (.tmp 31) rfl w.heap.size _ j _ rfl ((ho.alloc _).alloc _) _ 1 1 [.int .i64 y.1, .string (y.2.extract 0 70)] rfl (SV.lit' (k := 2) _ [.int .i64 y.1, .string (y.2.extract 0 70)] 1 35 rfl (two_one _ _) _ (by simp)) (by omega) (by omega) (by simp; omega) ?_; intro v2 w2 ho2 hb2)
          obtain ⟨a3, c3, rfl⟩ := ho2.shape
          have hw2 : Below w.heap.size w w2 := ((hbel.alloc (by omega) _).alloc (by simp; omega) _).trans (hb2.mono (by omega))
          have ho3 : OS 2 w2 w.heap.size (.slice a3 (j + 1) c3) (j + 1) (vcells (fewP l (j + 1))) := by
            rw [HS.out, vcells_app]
            simpa only [vcells, cutV, cut_part hs] using ho2
          go_wp2_with fail
          go_roundw
          case rel => exact ⟨j + 1, a3, c3, by omega, by omega, by go_num, rfl, ho3, hw2⟩
          case measure => simp [intOf]; omega
      · have HE := Lib.hid (show fewP l j = fewP l 60 by rw [show j = 60 by omega])
        obtain ⟨A3, C3, hA3, hC, -, tv, -, -⟩ := ho.sv
        cases hA3
        go_wp2_with fail
        go_ret
        exact ⟨_, _, _, _, rfl, hC, by omega, tv, fewP_rg hg _, HE, ho, hbel⟩
    · obtain rfl : j = n := by omega
      have HE := Lib.hid (show fewP l j = fewP l 60 by rw [fewP, fewP, List.take_of_length_le (by rw [hl2.out]; omega), List.take_of_length_le (by rw [hl2.out]; omega)])
      obtain ⟨A3, C3, hA3, hC, -, tv, -, -⟩ := ho.sv
      cases hA3
      go_wp2_with fail
      go_ret
      exact ⟨_, _, _, _, rfl, hC, by omega, tv, fewP_rg hg _, HE, ho, hbel⟩
/-- those of some values that fit -/
def fitA (t : Int) (l : List (Int × ByteArray)) : List (Int × ByteArray) := l.filter (fun v => fitsB t v.1 v.2)
def fitL (t : Int) (l : List (Int × ByteArray)) (j : Nat) : List (Int × ByteArray) := fitA t (l.take j)
theorem fitL_snoc {t : Int} {l : List (Int × ByteArray)} {j : Nat} (h : j < l.length) : fitL t l (j + 1) = fitL t l j ++ (if fitsB t (l.getD j v0).1 (l.getD j v0).2 = true then [l.getD j v0] else []) := by
  rw [fitL, fitA, List.take_succ_eq_append_getElem h, List.filter_append]
  simp [fitL, fitA, List.getD, h, List.filter_cons]
theorem fitA_col {t : Int} {l : List (Int × ByteArray)} (ht : 1 ≤ t ∧ t ≤ 3) (hl : l.length ≤ 2000) : colB t (fitA t l) = true := by
  refine colB_iff.2 ⟨ht, Nat.le_trans (List.length_filter_le _ _) hl, fun v hv => ?_⟩
  exact (List.mem_filter.1 hv).2
theorem fitA_rg {t : Int} {l : List (Int × ByteArray)} (h : RgV l) : RgV (fitA t l) := fun v hv => h v (List.mem_filter.1 hv).1
theorem eqv_ne (y z : Int × ByteArray) (w : World) : (if y.1 = z.1 then if y.2.toList = z.2.toList then Result.ok (Next.value (.bool false)) w else Result.ok (Next.value (.bool true)) w else Result.ok (Next.value (.bool true)) w) = Result.ok (Next.value (.bool (!decide (y = z)))) w := by
  obtain ⟨a, s⟩ := y
  obtain ⟨b, t⟩ := z
  by_cases h1 : a = b
  · by_cases h2 : s = t
    · simp [h1, h2]
    · have : ¬ s.toList = t.toList := fun h => h2 (toList_inj h)
      simp [h1, h2, this]
  · simp [h1]
theorem listV_getD {ts us : List (Int × ByteArray)} (hl : ts.length = us.length) (h : ∀ i, i < ts.length → ts.getD i v0 = us.getD i v0) : ts = us := by
  refine List.ext_getElem hl (fun i h1 h2 => ?_)
  have := h i h1
  simpa [List.getD, h1, h2] using this
set_option maxHeartbeats 2000000 in
theorem same7_any (A : Option Addr) (N C : Nat) (l : List (Int × ByteArray)) (A' : Option Addr) (N' C' : Nat) (k : List (Int × ByteArray)) (w : World) (hv : WV w A N l) (hv' : WV w A' N' k) (hN : N ≤ 1000000) (hN' : N' ≤ 1000000) :
    Calls Try.prog 15 #[.slice A N C, .slice A' N' C'] w fun e w' => e = .returned (.bool (decide (l = k))) ∧ Below w.heap.size w w' := by
  have hl := Lib.hid (WV.len hv)
  have hl' := Lib.hid (WV.len hv')
  by_cases h1 : N = N'
  · subst h1
    go_enter Try.func15, Try.ntmps15
    go_wp2_with fail
    go_loopw [5] (fun i wr => ∃ j : Nat, j ≤ N ∧ i = .int .i64 (j : Int) ∧ Hid (∀ i, i < j → l.getD i v0 = k.getD i v0) ∧ Below w.heap.size w wr) (fun i _ => N - (intOf i).toNat)
    case atStart => exact ⟨0, by omega, rfl, Lib.hid (fun i hi => by omega), Below.refl _ _⟩
    case round =>
      obtain ⟨j, hj, rfl, HT, hbel⟩ := hrel
      by_cases hlt : j < N
      · obtain ⟨b, off, rfl, hd1, hd2⟩ := WV.at hv j hlt
        obtain ⟨b', off', rfl, he1, he2⟩ := WV.at hv' j hlt
        replace hd1 := keepc hd1 hbel
        replace hd2 := keepc hd2 hbel
        replace he1 := keepc he1 hbel
        replace he2 := keepc he2 hbel
        have hji : (j : Int) < (N : Int) := by omega
        generalize hx1 : l.getD j v0 = y at hd1 hd2
        generalize hy1 : k.getD j v0 = z at he1 he2
        have HX := Lib.hid hx1
        have HY := Lib.hid hy1
        clear hx1 hy1 hv hv'
        go_wp2_with fail
        refine wp_region_noPanic ?_
        refine region_g 9 (Ext (World.drew _)) (by kernel_rfl) (Ext.refl _) (fun hS => ?_)
        refine take_w (i := 0) (v := ?_) (some 17) rfl (by kernel_rfl) rfl (fun _ _ _ h => h) (Or.inl ⟨by rfl, ?_⟩) hS ?_
        rotate_left
        · (intro wq hq; go_simp); first | done | with_reducible rfl
        try simp only [Act.put, List.setIfInBounds_toArray, List.set_cons_zero, List.set_cons_succ]
        replace hS := Till.list 0 hS
        refine take_w (i := 1) (v := ?_) (some 18) rfl (by kernel_rfl) rfl (fun _ _ _ h => h) (Or.inl ⟨by rfl, ?_⟩) hS ?_
        rotate_left
        · (intro wq hq; go_simp); first | done | with_reducible rfl
        try simp only [Act.put, List.setIfInBounds_toArray, List.set_cons_zero, List.set_cons_succ]
        replace hS := Till.list 1 hS
        refine take_w (i := 4) (v := ?_) (some 21) rfl (by kernel_rfl) rfl (fun _ _ _ h => h) (Or.inl ⟨by rfl, ?_⟩) hS ?_
        rotate_left
        · (intro wq hq; go_simp); first | done | with_reducible rfl
        try simp only [Act.put, List.setIfInBounds_toArray, List.set_cons_zero, List.set_cons_succ]
        replace hS := Till.list 4 hS
        refine take_w (i := 5) (v := ?_) (some 22) rfl (by kernel_rfl) rfl (fun _ _ _ h => h) (Or.inl ⟨by rfl, ?_⟩) hS ?_
        rotate_left
        · (intro wq hq; go_simp); first | done | with_reducible rfl
        try simp only [Act.put, List.setIfInBounds_toArray, List.set_cons_zero, List.set_cons_succ]
        replace hS := Till.list 5 hS
        refine take_w (i := 2) (v := ?_) (some 19) rfl (by kernel_rfl) rfl (fun _ _ _ h => h) (Or.inl ⟨by rfl, ?_⟩) hS ?_
        rotate_left
        · (intro wq hq; go_simp); first | done | with_reducible rfl
        try simp only [Act.put, List.setIfInBounds_toArray, List.set_cons_zero, List.set_cons_succ]
        replace hS := Till.list 2 hS
        refine take_w (i := 6) (v := ?_) (some 23) rfl (by kernel_rfl) rfl (fun _ _ _ h => h) (Or.inl ⟨by rfl, ?_⟩) hS ?_
        rotate_left
        · (intro wq hq; go_simp); first | done | with_reducible rfl
        try simp only [Act.put, List.setIfInBounds_toArray, List.set_cons_zero, List.set_cons_succ]
        replace hS := Till.list 6 hS
        refine take_n (i := 3) (v := ?_) (some 20) rfl (by kernel_rfl) rfl (fun _ _ _ h => h) (Or.inl ⟨by rfl, ?_⟩) hS ?_
        rotate_left
        · (intro wq hq; have q0 := hq _ _ _ hd1; have q1 := hq _ _ _ hd2; have q2 := hq _ _ _ he1; have q3 := hq _ _ _ he2; go_simp); first | done | with_reducible rfl
        try simp only [Act.put, List.setIfInBounds_toArray, List.set_cons_zero, List.set_cons_succ]
        replace hS := Till.list 3 hS
        refine take_n (i := 7) (v := ?_) (some 24) rfl (by kernel_rfl) rfl (fun _ _ _ h => h) (Or.inl ⟨by rfl, ?_⟩) hS ?_
        rotate_left
        · (intro wq hq; have q0 := hq _ _ _ hd1; have q1 := hq _ _ _ hd2; have q2 := hq _ _ _ he1; have q3 := hq _ _ _ he2; go_simp); first | done | with_reducible rfl
        try simp only [Act.put, List.setIfInBounds_toArray, List.set_cons_zero, List.set_cons_succ]
        replace hS := Till.list 7 hS
        refine take_n (i := 8) (v := .bool (!decide (y = z))) (some 25) rfl (by kernel_rfl) rfl (fun _ _ _ h => h) (Or.inl ⟨by rfl, ?_⟩) hS ?_
        · (intro wq hq; (go_simp; exact eqv_ne y z wq))
        try simp only [Act.put, List.setIfInBounds_toArray, List.set_cons_zero, List.set_cons_succ]
        replace hS := Till.list 8 hS
        refine done_g (by kernel_rfl) (NoPanic.normal ?_) _
        clear hS
        clear hd1 hd2 he1 he2
        by_cases hxy : y = z
        · have HT' : Hid (∀ i, i < j + 1 → l.getD i v0 = k.getD i v0) := Lib.hid (fun i hi => by
            by_cases hij : i < j
            · exact HT.out i hij
            · obtain rfl : i = j := by omega
              rw [HX.out, HY.out, hxy])
          rw [decide_eq_true hxy]
          clear hxy
          go_wp2_with fail
          go_roundw
          case rel => exact ⟨j + 1, by omega, by go_num, HT', hbel.drew⟩
          case measure => simp [intOf]; omega
        · have HF : Hid (decide (l = k) = false) := Lib.hid (decide_eq_false (fun h => hxy (by rw [← HX.out, ← HY.out, h])))
          rw [decide_eq_false hxy]
          clear hxy
          go_wp2_with fail
          go_ret
          exact ⟨by rw [HF.out]; rfl, hbel.drew⟩
      · obtain rfl : j = N := by omega
        have HF : Hid (decide (l = k) = true) := Lib.hid (decide_eq_true (listV_getD (by rw [hl.out, hl'.out]) (fun i hi => HT.out i (by rw [← hl.out]; exact hi))))
        go_wp2_with fail
        go_ret
        exact ⟨by rw [HF.out]; rfl, hbel⟩
  · have hne : ((N : Int) == (N' : Int)) = false := by rw [beq_eq_false_iff_ne]; omega
    have HF : Hid (decide (l = k) = false) := Lib.hid (decide_eq_false (fun h => h1 (by rw [← hl.out, ← hl'.out, h])))
    clear hv hv'
    go_enter Try.func15, Try.ntmps15
    go_wp2_with fail
    go_ret
    exact ⟨by rw [HF.out]; rfl, Below.refl _ _⟩
end Go.Proofs.Yticocaljgaegfaa
/- BlockAll: the walk. -/
namespace Go.Proofs.Yticocaljgaegfaa
open Go.ChangeShapes Go.WideShapes Go.ChangeAt Go.RowKit
set_option linter.unusedVariables false

/-- what was put, or nothing -/
theorem PutB.bytes {w w' : World} {t : Int} {l : List (Int × ByteArray)} {e : Ending} (h : PutB w w' t l e) :
    ∃ (a : Option Addr) (n c : Nat) (zs : List Int), e = .returned (.tuple #[.slice a n c, .bool (colB t l)]) ∧ BV w' a n zs ∧ Hid (zs = if colB t l = true then blockL t l else []) ∧ Below w.heap.size w w' := by
  rcases h with ⟨hc, ⟨v, rfl, ho⟩, hb⟩ | ⟨hc, rfl, hb⟩
  · obtain ⟨a, c, rfl, -, -, bv, -⟩ := ho.bvn (block_bytes hc) _ rfl
    exact ⟨a, _, c, _, by rw [hc], bv, Lib.hid (by rw [if_pos hc]), hb⟩
  · exact ⟨none, 0, 0, [], by rw [hc], ⟨rfl, by simp, .inl rfl⟩, Lib.hid (by rw [hc]; rfl), hb⟩
set_option maxRecDepth 4000 in
set_option maxHeartbeats 4000000 in
theorem all7_is (t : Int) (A0 : Option Addr) (n0 C0 : Nat) (l0 : List (Int × ByteArray)) (a : Option Addr) (m c : Nat) (zs : List Int) (w : World) (hv0 : WV w A0 n0 l0) (hn0 : n0 ≤ maxLen) (hr0 : RgV l0) (bz : BV w a m zs) (hc : m ≤ c) :
    Calls Try.prog 3 #[.int .i64 t, .slice A0 n0 C0, .slice a m c] w fun e w' => e = .returned (.bool true) ∧ Below w.heap.size w w' := by
  go_enter Try.func3, Try.ntmps3
  go_wp2_with fail
  refine (shown7_is _).mono ?_
  rintro e w1 ⟨rfl, hb1⟩
  have hv1 := hv0.below hb1
  replace bz := bz.below hb1
  go_wp2_with fail
  refine (few7_any A0 n0 C0 l0 _ hv1 hn0 hr0).mono ?_
  rintro e w' ⟨A, N, C, l, rfl, hCN, hN, hv, hr, -, -, hbf⟩
  replace bz := bz.below hbf
  replace hb1 := Below.then hb1 hbf
  clear hv0 hv1 hbf hr0
  by_cases h5 : m ≤ 600
  · have h5i : ¬ (600 : Int) < (m : Int) := by omega
    go_wp2_with fail
    refine (bput_any t A N C l _ hv hr (by omega)).mono ?_
    rintro e w2 he
    obtain ⟨ax, nx, cx, X, rfl, bx, HX, hb2⟩ := he.bytes
    replace hv := hv.below hb2
    replace bz := bz.below hb2
    replace hb1 := Below.then hb1 hb2
    clear he hb2
    go_wp2_with fail
    refine (rput7_any t A N C l _ hv hr (by omega)).mono ?_
    rintro e w3 he
    obtain ⟨ay, ny, cy, Y, rfl, bY, HY, hb3⟩ := he.bytes
    obtain rfl : X = Y := by rw [HX.out, HY.out]
    replace bz := bz.below hb3
    replace bx := bx.below hb3
    replace hb1 := Below.then hb1 hb3
    clear he hb3 hv HX HY
    generalize colB t l = ok
    go_wp2_with fail
    refine (btake_any t a m c zs _ bz (by omega) (by omega)).mono ?_
    rintro e w4 ⟨A4, N4, C4, k4, s4, e4, rfl, hN4, v4, S4, hb4⟩
    replace bz := bz.below hb4
    replace bx := bx.below hb4
    replace bY := bY.below hb4
    replace hb1 := Below.then hb1 hb4
    clear hb4
    go_wp2_with fail
    refine (rtake7_any t a m c zs _ bz (by omega) (by omega)).mono ?_
    rintro e w5 ⟨A5, N5, C5, k5, s5, e5, rfl, hN5, v5, S5, hb5⟩
    obtain ⟨rfl, rfl, rfl⟩ := S4.out.one S5.out
    replace bx := bx.below hb5
    replace bY := bY.below hb5
    replace v4 := v4.below hb5
    replace hb1 := Below.then hb1 hb5
    clear hb5 bz S4 S5
    go_wp2_with fail
    refine (same7_any A4 N4 C4 k4 A5 N5 C5 k4 _ v4 v5 (by omega) (by omega)).mono ?_
    rw [decide_eq_true rfl]
    rintro e w6 ⟨rfl, hb6⟩
    replace bx := bx.below hb6
    replace bY := bY.below hb6
    replace hb1 := Below.then hb1 hb6
    have h1 := conv_any bx cx
    have h2 := conv_any bY cy
    clear hb6 v4 v5 bx bY
    go_wp2_with fail
    go_ret
    exact ⟨rfl, hb1⟩
  · have h5i : (600 : Int) < (m : Int) := by omega
    have h5c : 600 ≤ c := by omega
    replace bz := bz.take 600 (by omega)
    generalize zs.take 600 = ys at bz
    go_wp2_with fail
    refine (bput_any t A N C l _ hv hr (by omega)).mono ?_
    rintro e w2 he
    obtain ⟨ax, nx, cx, X, rfl, bx, HX, hb2⟩ := he.bytes
    replace hv := hv.below hb2
    replace bz := bz.below hb2
    replace hb1 := Below.then hb1 hb2
    clear he hb2
    go_wp2_with fail
    refine (rput7_any t A N C l _ hv hr (by omega)).mono ?_
    rintro e w3 he
    obtain ⟨ay, ny, cy, Y, rfl, bY, HY, hb3⟩ := he.bytes
    obtain rfl : X = Y := by rw [HX.out, HY.out]
    replace bz := bz.below hb3
    replace bx := bx.below hb3
    replace hb1 := Below.then hb1 hb3
    clear he hb3 hv HX HY
    generalize colB t l = ok
    go_wp2_with fail
    refine (btake_any t a 600 c ys _ bz (by omega) (by omega)).mono ?_
    rintro e w4 ⟨A4, N4, C4, k4, s4, e4, rfl, hN4, v4, S4, hb4⟩
    replace bz := bz.below hb4
    replace bx := bx.below hb4
    replace bY := bY.below hb4
    replace hb1 := Below.then hb1 hb4
    clear hb4
    go_wp2_with fail
    refine (rtake7_any t a 600 c ys _ bz (by omega) (by omega)).mono ?_
    rintro e w5 ⟨A5, N5, C5, k5, s5, e5, rfl, hN5, v5, S5, hb5⟩
    obtain ⟨rfl, rfl, rfl⟩ := S4.out.one S5.out
    replace bx := bx.below hb5
    replace bY := bY.below hb5
    replace v4 := v4.below hb5
    replace hb1 := Below.then hb1 hb5
    clear hb5 bz S4 S5
    go_wp2_with fail
    refine (same7_any A4 N4 C4 k4 A5 N5 C5 k4 _ v4 v5 (by omega) (by omega)).mono ?_
    rw [decide_eq_true rfl]
    rintro e w6 ⟨rfl, hb6⟩
    replace bx := bx.below hb6
    replace bY := bY.below hb6
    replace hb1 := Below.then hb1 hb6
    have h1 := conv_any bx cx
    have h2 := conv_any bY cy
    clear hb6 v4 v5 bx bY
    go_wp2_with fail
    go_ret
    exact ⟨rfl, hb1⟩
end Go.Proofs.Yticocaljgaegfaa
/-
  BlockAll: for every number (as a type), every list of values and every slice of bytes the statement's function returns true, and its arguments read as they did. No condition.
-/
namespace Go.Proofs.Yticocaljgaegfaa.blockAll
open Go.ChangeShapes Go.WideShapes Go.ChangeAt Go.RowKit
set_option linter.unusedVariables false

set_option maxRecDepth 100000 in
theorem lifted (os : Os) (started : os.Started) (H : Type) (enc : TypeId × Value → H) :
    ReturnsInHanded {} Try.checked os 3 .any (Rows.blockAllSpec.pre6 enc Try.prog Try.f3 Rows.blockAllRow.domain false) (Rows.blockAllSpec.post enc Try.prog Try.f3 false true false false) := by
  refine returnsInHanded_of_change (C := Try.checked) own started (by kernel_rfl) Try.func3
    (ChangeSpec.witness6 (enc := enc) (C := Try.checked) false ⟨#[], #[.int .i64 0, .slice none 0 0, .slice none 0 0], []⟩ 8 (by kernel_rfl) (by kernel_rfl) (by kernel_rfl) (by kernel_rfl)) ?_
  intro W base args ds gs before hval0 hW hcnd _
  have hval : ∀ (j : Nat) t v, Try.f3.params[j]? = some t → args[j]? = some v → Value.okWide Try.prog W .any base t v := hval0
  have hW' := hW
  obtain ⟨p, q, hA0, hV, rfl, hfz, hnd⟩ := hW
  have hA : DataW.TrodAll enc Try.prog W 0 (fun _ => true) true Try.f3.params.toList args.toList ds p := hA0
  rw [Try.params3] at hA hval
  obtain ⟨v0, vs0, d0, ds0, p0, q0, hargs0, rfl, rfl, h0, r0⟩ := trodAll_cons hA
  obtain ⟨v1, vs1, d1, ds1, p1, q1, hargs1, hds1, hq1, h1, r1⟩ := trodAll_cons r0
  obtain ⟨v2, vs2, d2, ds2, p2, q2, hargs2, hds2, hq2, h2, r2⟩ := trodAll_cons r1
  obtain ⟨hn1, hn2, hn3⟩ := trodAll_nil r2
  subst hn2 hn3
  subst hds2 hq2
  subst hds1 hq1
  obtain rfl : args = #[v0, v1, v2] := by cases args; simp_all
  obtain ⟨rfl, rfl⟩ := trodVars_none hV
  have rd0 := h0
  have lt0 : ∀ x ∈ p0, x.block < W.heap.size := by obtain ⟨m, hm⟩ := rd0; exact DataW.trod_lt m _ _ _ hm
  obtain ⟨a0, rfl, B0⟩ := open_gint (hval 0 3 v0 rfl rfl) h0
  have rd1 := h1
  have lt1 : ∀ x ∈ p1, x.block < W.heap.size := by obtain ⟨m, hm⟩ := rd1; exact DataW.trod_lt m _ _ _ hm
  obtain ⟨A1, n1, c1, v1, rfl, W1, L1, R1⟩ := open_values (hval 1 22 v1 rfl rfl) h1
  have rd2 := h2
  have lt2 : ∀ x ∈ p2, x.block < W.heap.size := by obtain ⟨m, hm⟩ := rd2; exact DataW.trod_lt m _ _ _ hm
  obtain ⟨A2, n2, c2, z2, rfl, W2, L2⟩ := open_bytes (hval 2 23 v2 rfl rfl) h2
  clear hA0 hval0
  refine (all7_is a0 A1 n1 c1 v1 A2 n2 c2 z2 W W1 L1 R1 W2 L2).mono fun e W' ⟨he, bel⟩ => ?_
  subst he
  exact ⟨_, rfl, _, _, _, [], _, [], hW', trodAll_mk1 (shut_bool Try.underlying4 _), (trodAll_cons_mk (Below.trod laidOut (by kernel_rfl) (of_decide_eq_true (by kernel_rfl)) rd0 bel lt0) (trodAll_cons_mk (Below.trod laidOut (by kernel_rfl) (of_decide_eq_true (by kernel_rfl)) rd1 bel lt1) (trodAll_cons_mk (Below.trod laidOut (by kernel_rfl) (of_decide_eq_true (by kernel_rfl)) rd2 bel lt2) trodAll_mk0))), rfl, bel.frame _, fun h => by cases h⟩

theorem over : Rows.blockAllRow.holds Try.pinned (OpenSpec.ofChange Rows.blockAllSpec) :=
  OpenClaim.holds_of_wide 3 Try.f3 rfl rfl rfl rfl rfl rfl rfl ⟨rfl, rfl, rfl, rfl, rfl⟩ rfl rfl rfl rfl rfl (by kernel_rfl) Try.func3 (by kernel_rfl)
    (of_decide_eq_true (by kernel_rfl)) (by unfold Func.isWrapper; first | (rw [if_pos (by decide +kernel)]; kernel_rfl) | (rw [if_neg (by decide +kernel)]; exact ⟨rfl, rfl⟩))
    (fun os started H enc _ => lifted os started H enc)
end Go.Proofs.Yticocaljgaegfaa.blockAll
namespace Go.Proofs.Yticocaljgaegfaa
theorem blockAll_holds : Rows.BlockAllSaid := blockAll.over
end Go.Proofs.Yticocaljgaegfaa
