/-
  BlockOne: for every byte and every slice of bytes the statement's function returns true, and its arguments read as they did. No condition.
-/
import Derived.Test.YticocaljgaegfaaBlock
import Derived.Test.YticocaljgaegfaaBase
import Derived.Test.YticocaljgaegfaaRows
import Derived.WalkKit
import Derived.ProofKit
import Derived.OpenShut
import Derived.ShutString
import Derived.ChangeOld
import Derived.Below
import Derived.Test.YticocaljgaegfaaVals
/- The statements' own helpers of stage 7: shown, few; Same. -/
namespace Go.Proofs.Yticocaljgaegfaa
open Go.ChangeShapes Go.WideShapes Go.ChangeAt Go.RowKit
set_option linter.unusedVariables false

theorem shown7_put : putI [] = [0, 0] := by
  have h : shortB [] = false := rfl
  rw [putI, bodyI, h]
  show pv 0 ++ _ = _
  rw [pv_small (by omega)]; rfl
theorem shown7_block : ∃ a b c d, blockL 1 [] = [3, a, b, c, d, 1, 0, 0] := by
  have hd : dataL 1 [] = [1, 0, 0] := by rw [dataL, bare_num (.inl rfl)]; show 1 :: putI [] = _; rw [shown7_put]
  have hq := sealL_len [1, 0, 0]
  rw [blockL, hd, frameL]
  generalize sealL [1, 0, 0] = q at hq
  match q, hq with
  | [a, b, c, d], _ => exact ⟨a, b, c, d, by rw [show (([1, 0, 0] : List Int).length : Int) = 3 from rfl, pv_small (by omega)]; rfl⟩
set_option maxHeartbeats 1000000 in
theorem shown7_is (w : World) : Calls Try.prog 9 #[] w fun e w' => e = .returned (.bool true) ∧ Below w.heap.size w w' := by
  go_enter Try.func9, Try.ntmps9
  go_wp2_with fail
  refine (bput_any 1 none 0 0 [] _ (SV.zero _ _) (fun v hv => by cases hv) (by omega)).mono ?_
  rintro e w1 he
  rcases he with ⟨hc, ⟨v, rfl, ho⟩, hb⟩ | ⟨hc, -, -⟩
  · obtain ⟨a, b, c, d, hB⟩ := shown7_block
    have hbb := block_bytes hc
    rw [hB] at ho hbb
    obtain ⟨ad, cp, rfl, -, -, bv, -⟩ := ho.bvn hbb 8 rfl
    obtain ⟨g, off, rfl, hcell⟩ := bv.opened (by omega)
    have c0 : w1.cell? ⟨g, off, none⟩ = some (.int .u8 3) := hcell 0 (by omega)
    have c5 : w1.cell? ⟨g, off + 5, none⟩ = some (.int .u8 1) := hcell 5 (by omega)
    have c6 : w1.cell? ⟨g, off + 6, none⟩ = some (.int .u8 0) := hcell 6 (by omega)
    have c7 : w1.cell? ⟨g, off + 7, none⟩ = some (.int .u8 0) := hcell 7 (by omega)
    clear hcell bv ho hbb hB hc
    go_wp2_with fail
    go_ret
    exact ⟨rfl, hb⟩
  · cases hc
/-- where a slice of the call's own lies -/
theorem OS.where {k : Nat} {w : World} {base : Nat} {A : Option Addr} {N C : Nat} {n : Nat} {cs : List Value} (h : OS k w base (.slice A N C) n cs) : (A = none ∧ N = 0 ∧ C = 0) ∨ ∃ g, A = some ⟨g, 0, none⟩ ∧ base ≤ g ∧ g < w.heap.size := by
  rcases h.2.2 with ⟨hv, _⟩ | ⟨g, cap, cur, T, hv, hg, hh, _⟩
  · cases hv; exact .inl ⟨rfl, rfl, rfl⟩
  · cases hv; exact .inr ⟨g, rfl, hg, heap_lt hh⟩
def cutV (v : Int × ByteArray) : Int × ByteArray := (v.1, cut 70 v.2)
/-- the first values of some that are few -/
def fewP (l : List (Int × ByteArray)) (j : Nat) : List (Int × ByteArray) := (l.take j).map cutV
theorem fewP_snoc {l : List (Int × ByteArray)} {j : Nat} (h : j < l.length) : fewP l (j + 1) = fewP l j ++ [cutV (l.getD j v0)] := by
  rw [fewP, List.take_succ_eq_append_getElem h, List.map_append]; simp [fewP, List.getD, h]
theorem fewP_rg {l : List (Int × ByteArray)} (h : RgV l) (j : Nat) : RgV (fewP l j) := by
  intro v hv
  obtain ⟨x, hx, rfl⟩ := List.mem_map.1 hv
  exact h x (List.mem_of_mem_take hx)
/-- what few tells -/
def FewV (w w' : World) (l0 : List (Int × ByteArray)) (e : Ending) : Prop :=
  ∃ (A : Option Addr) (N C : Nat) (l : List (Int × ByteArray)), e = .returned (.slice A N C) ∧ N ≤ C ∧ N ≤ 60 ∧ WV w' A N l ∧ RgV l ∧ Hid (l = fewP l0 60) ∧ OS 2 w' w.heap.size (.slice A N C) N (vcells l) ∧ Below w.heap.size w w'
set_option maxHeartbeats 4000000 in
theorem few7_any (R : Option Addr) (n c : Nat) (l : List (Int × ByteArray)) (w : World) (hr : WV w R n l) (hn : n ≤ maxLen) (hg : RgV l) :
    Calls Try.prog 10 #[.slice R n c] w fun e w' => FewV w w' l e := by
  unfold maxLen at hn
  have hl2 := Lib.hid (WV.len hr)
  have ho0 : OS 2 (w.alloc (.cells #[] 35)) w.heap.size (.slice (some ⟨w.heap.size, 0, none⟩) 0 0) 0 (vcells (fewP l 0)) := OS.lit (k := 2) w w.heap.size (by simp) [] 0 35 rfl (by simp) (by simp) _ (by simp)
  go_enter Try.func10, Try.ntmps10
  go_wp2_with fail
  go_loopw [3, 4] (fun o i wr => ∃ (j : Nat) (a : Option Addr) (c : Nat), j ≤ n ∧ j ≤ 60 ∧ i = .int .i64 (j : Int) ∧ o = .slice a j c ∧ OS 2 wr w.heap.size (.slice a j c) j (vcells (fewP l j)) ∧ Below w.heap.size w wr) (fun _ i _ => 60 - (intOf i).toNat)
  case atStart => exact ⟨0, _, _, by omega, by omega, rfl, rfl, ho0, Joins.below_alloc1 _ _⟩
  case round =>
    clear ho0
    obtain ⟨j, a, c', hj, hj7, rfl, rfl, ho, hbel⟩ := hrel
    have hsz := hbel.size
    by_cases hlt : j < n
    · by_cases h7 : j < 60
      · obtain ⟨b2, off2, rfl, hd1, hd2⟩ := WV.at hr j hlt
        have hd1 := keepc hd1 hbel
        have hd2 := keepc hd2 hbel
        have lb2 := cell_lt hd1
        have HS := Lib.hid (fewP_snoc (l := l) (j := j) (by rw [hl2.out]; exact hlt))
        generalize l.getD j v0 = y at hd1 hd2 HS
        by_cases hs : y.2.size ≤ 70
        · have hs' : (y.2.size : Int) ≤ 70 := by omega
          go_wp2_with (refine append_os el_vals rfl (.tmp 29) (.tmp 31) rfl w.heap.size _ j _ rfl ((ho.alloc _).alloc _) _ 1 1 [.int .i64 y.1, .string y.2] rfl (SV.lit' (k := 2) _ [.int .i64 y.1, .string y.2] 1 35 rfl (two_one _ _) _ (by simp)) (by omega) (by omega) (by simp; omega) ?_; intro v2 w2 ho2 hb2)
          obtain ⟨a3, c3, rfl⟩ := ho2.shape
          have hw2 : Below w.heap.size w w2 := ((hbel.alloc (by omega) _).alloc (by simp; omega) _).trans (hb2.mono (by omega))
          have ho3 : OS 2 w2 w.heap.size (.slice a3 (j + 1) c3) (j + 1) (vcells (fewP l (j + 1))) := by
            rw [HS.out, vcells_app]
            simpa only [vcells, cutV, cut_all hs] using ho2
          go_wp2_with fail
          go_roundw
          case rel => exact ⟨j + 1, a3, c3, by omega, by omega, by go_num, rfl, ho3, hw2⟩
          case measure => simp [intOf]; omega
        · have hs' : ¬ (y.2.size : Int) ≤ 70 := by omega
          go_wp2_with (refine append_os el_vals rfl (.tmp 29) (.tmp 31) rfl w.heap.size _ j _ rfl ((ho.alloc _).alloc _) _ 1 1 [.int .i64 y.1, .string (y.2.extract 0 70)] rfl (SV.lit' (k := 2) _ [.int .i64 y.1, .string (y.2.extract 0 70)] 1 35 rfl (two_one _ _) _ (by simp)) (by omega) (by omega) (by simp; omega) ?_; intro v2 w2 ho2 hb2)
          obtain ⟨a3, c3, rfl⟩ := ho2.shape
          have hw2 : Below w.heap.size w w2 := ((hbel.alloc (by omega) _).alloc (by simp; omega) _).trans (hb2.mono (by omega))
          have ho3 : OS 2 w2 w.heap.size (.slice a3 (j + 1) c3) (j + 1) (vcells (fewP l (j + 1))) := by
            rw [HS.out, vcells_app]
            simpa only [vcells, cutV, cut_part hs] using ho2
          go_wp2_with fail
          go_roundw
          case rel => exact ⟨j + 1, a3, c3, by omega, by omega, by go_num, rfl, ho3, hw2⟩
          case measure => simp [intOf]; omega
      · have HE := Lib.hid (show fewP l j = fewP l 60 by rw [show j = 60 by omega])
        obtain ⟨A3, C3, hA3, hC, -, tv, -, -⟩ := ho.sv
        cases hA3
        go_wp2_with fail
        go_ret
        exact ⟨_, _, _, _, rfl, hC, by omega, tv, fewP_rg hg _, HE, ho, hbel⟩
    · obtain rfl : j = n := by omega
      have HE := Lib.hid (show fewP l j = fewP l 60 by rw [fewP, fewP, List.take_of_length_le (by rw [hl2.out]; omega), List.take_of_length_le (by rw [hl2.out]; omega)])
      obtain ⟨A3, C3, hA3, hC, -, tv, -, -⟩ := ho.sv
      cases hA3
      go_wp2_with fail
      go_ret
      exact ⟨_, _, _, _, rfl, hC, by omega, tv, fewP_rg hg _, HE, ho, hbel⟩
/-- those of some values that fit -/
def fitA (t : Int) (l : List (Int × ByteArray)) : List (Int × ByteArray) := l.filter (fun v => fitsB t v.1 v.2)
def fitL (t : Int) (l : List (Int × ByteArray)) (j : Nat) : List (Int × ByteArray) := fitA t (l.take j)
theorem fitL_snoc {t : Int} {l : List (Int × ByteArray)} {j : Nat} (h : j < l.length) : fitL t l (j + 1) = fitL t l j ++ (if fitsB t (l.getD j v0).1 (l.getD j v0).2 = true then [l.getD j v0] else []) := by
  rw [fitL, fitA, List.take_succ_eq_append_getElem h, List.filter_append]
  simp [fitL, fitA, List.getD, h, List.filter_cons]
theorem fitA_col {t : Int} {l : List (Int × ByteArray)} (ht : 1 ≤ t ∧ t ≤ 3) (hl : l.length ≤ 2000) : colB t (fitA t l) = true := by
  refine colB_iff.2 ⟨ht, Nat.le_trans (List.length_filter_le _ _) hl, fun v hv => ?_⟩
  exact (List.mem_filter.1 hv).2
theorem fitA_rg {t : Int} {l : List (Int × ByteArray)} (h : RgV l) : RgV (fitA t l) := fun v hv => h v (List.mem_filter.1 hv).1
theorem eqv_ne (y z : Int × ByteArray) (w : World) : (if y.1 = z.1 then if y.2.toList = z.2.toList then Result.ok (Next.value (.bool false)) w else Result.ok (Next.value (.bool true)) w else Result.ok (Next.value (.bool true)) w) = Result.ok (Next.value (.bool (!decide (y = z)))) w := by
  obtain ⟨a, s⟩ := y
  obtain ⟨b, t⟩ := z
  by_cases h1 : a = b
  · by_cases h2 : s = t
    · simp [h1, h2]
    · have : ¬ s.toList = t.toList := fun h => h2 (toList_inj h)
      simp [h1, h2, this]
  · simp [h1]
theorem listV_getD {ts us : List (Int × ByteArray)} (hl : ts.length = us.length) (h : ∀ i, i < ts.length → ts.getD i v0 = us.getD i v0) : ts = us := by
  refine List.ext_getElem hl (fun i h1 h2 => ?_)
  have := h i h1
  simpa [List.getD, h1, h2] using this
set_option maxHeartbeats 2000000 in
theorem same7_any (A : Option Addr) (N C : Nat) (l : List (Int × ByteArray)) (A' : Option Addr) (N' C' : Nat) (k : List (Int × ByteArray)) (w : World) (hv : WV w A N l) (hv' : WV w A' N' k) (hN : N ≤ 1000000) (hN' : N' ≤ 1000000) :
    Calls Try.prog 15 #[.slice A N C, .slice A' N' C'] w fun e w' => e = .returned (.bool (decide (l = k))) ∧ Below w.heap.size w w' := by
  have hl := Lib.hid (WV.len hv)
  have hl' := Lib.hid (WV.len hv')
  by_cases h1 : N = N'
  · subst h1
    go_enter Try.func15, Try.ntmps15
    go_wp2_with fail
    go_loopw [5] (fun i wr => ∃ j : Nat, j ≤ N ∧ i = .int .i64 (j : Int) ∧ Hid (∀ i, i < j → l.getD i v0 = k.getD i v0) ∧ Below w.heap.size w wr) (fun i _ => N - (intOf i).toNat)
    case atStart => exact ⟨0, by omega, rfl, Lib.hid (fun i hi => by omega), Below.refl _ _⟩
    case round =>
      obtain ⟨j, hj, rfl, HT, hbel⟩ := hrel
      by_cases hlt : j < N
      · obtain ⟨b, off, rfl, hd1, hd2⟩ := WV.at hv j hlt
        obtain ⟨b', off', rfl, he1, he2⟩ := WV.at hv' j hlt
        replace hd1 := keepc hd1 hbel
        replace hd2 := keepc hd2 hbel
        replace he1 := keepc he1 hbel
        replace he2 := keepc he2 hbel
        have hji : (j : Int) < (N : Int) := by omega
        generalize hx1 : l.getD j v0 = y at hd1 hd2
        generalize hy1 : k.getD j v0 = z at he1 he2
        have HX := Lib.hid hx1
        have HY := Lib.hid hy1
        clear hx1 hy1 hv hv'
        go_wp2_with fail
        refine wp_region_noPanic ?_
        refine region_g 9 (Ext (World.drew _)) (by kernel_rfl) (Ext.refl _) (fun hS => ?_)
        refine take_w (i := 0) (v := ?_) (some 17) rfl (by kernel_rfl) rfl (fun _ _ _ h => h) (Or.inl ⟨by rfl, ?_⟩) hS ?_
        rotate_left
        · (intro wq hq; go_simp); first | done | with_reducible rfl
        try simp only [Act.put, List.setIfInBounds_toArray, List.set_cons_zero, List.set_cons_succ]
        replace hS := Till.list 0 hS
        refine take_w (i := 1) (v := ?_) (some 18) rfl (by kernel_rfl) rfl (fun _ _ _ h => h) (Or.inl ⟨by rfl, ?_⟩) hS ?_
        rotate_left
        · (intro wq hq; go_simp); first | done | with_reducible rfl
        try simp only [Act.put, List.setIfInBounds_toArray, List.set_cons_zero, List.set_cons_succ]
        replace hS := Till.list 1 hS
        refine take_w (i := 4) (v := ?_) (some 21) rfl (by kernel_rfl) rfl (fun _ _ _ h => h) (Or.inl ⟨by rfl, ?_⟩) hS ?_
        rotate_left
        · (intro wq hq; go_simp); first | done | with_reducible rfl
        try simp only [Act.put, List.setIfInBounds_toArray, List.set_cons_zero, List.set_cons_succ]
        replace hS := Till.list 4 hS
        refine take_w (i := 5) (v := ?_) (some 22) rfl (by kernel_rfl) rfl (fun _ _ _ h => h) (Or.inl ⟨by rfl, ?_⟩) hS ?_
        rotate_left
        · (intro wq hq; go_simp); first | done | with_reducible rfl
        try simp only [Act.put, List.setIfInBounds_toArray, List.set_cons_zero, List.set_cons_succ]
        replace hS := Till.list 5 hS
        refine take_w (i := 2) (v := ?_) (some 19) rfl (by kernel_rfl) rfl (fun _ _ _ h => h) (Or.inl ⟨by rfl, ?_⟩) hS ?_
        rotate_left
        · (intro wq hq; go_simp); first | done | with_reducible rfl
        try simp only [Act.put, List.setIfInBounds_toArray, List.set_cons_zero, List.set_cons_succ]
        replace hS := Till.list 2 hS
        refine take_w (i := 6) (v := ?_) (some 23) rfl (by kernel_rfl) rfl (fun _ _ _ h => h) (Or.inl ⟨by rfl, ?_⟩) hS ?_
        rotate_left
        · (intro wq hq; go_simp); first | done | with_reducible rfl
        try simp only [Act.put, List.setIfInBounds_toArray, List.set_cons_zero, List.set_cons_succ]
        replace hS := Till.list 6 hS
        refine take_n (i := 3) (v := ?_) (some 20) rfl (by kernel_rfl) rfl (fun _ _ _ h => h) (Or.inl ⟨by rfl, ?_⟩) hS ?_
        rotate_left
        · (intro wq hq; have q0 := hq _ _ _ hd1; have q1 := hq _ _ _ hd2; have q2 := hq _ _ _ he1; have q3 := hq _ _ _ he2; go_simp); first | done | with_reducible rfl
        try simp only [Act.put, List.setIfInBounds_toArray, List.set_cons_zero, List.set_cons_succ]
        replace hS := Till.list 3 hS
        refine take_n (i := 7) (v := ?_) (some 24) rfl (by kernel_rfl) rfl (fun _ _ _ h => h) (Or.inl ⟨by rfl, ?_⟩) hS ?_
        rotate_left
        · (intro wq hq; have q0 := hq _ _ _ hd1; have q1 := hq _ _ _ hd2; have q2 := hq _ _ _ he1; have q3 := hq _ _ _ he2; go_simp); first | done | with_reducible rfl
        try simp only [Act.put, List.setIfInBounds_toArray, List.set_cons_zero, List.set_cons_succ]
        replace hS := Till.list 7 hS
        refine take_n (i := 8) (v := .bool (!decide (y = z))) (some 25) rfl (by kernel_rfl) rfl (fun _ _ _ h => h) (Or.inl ⟨by rfl, ?_⟩) hS ?_
        · (intro wq hq; (go_simp; exact eqv_ne y z wq))
        try simp only [Act.put, List.setIfInBounds_toArray, List.set_cons_zero, List.set_cons_succ]
        replace hS := Till.list 8 hS
        refine done_g (by kernel_rfl) (NoPanic.normal ?_) _
        clear hS
        clear hd1 hd2 he1 he2
        by_cases hxy : y = z
        · have HT' : Hid (∀ i, i < j + 1 → l.getD i v0 = k.getD i v0) := Lib.hid (fun i hi => by
            by_cases hij : i < j
            · exact HT.out i hij
            · obtain rfl : i = j := by omega
              rw [HX.out, HY.out, hxy])
          rw [decide_eq_true hxy]
          clear hxy
          go_wp2_with fail
          go_roundw
          case rel => exact ⟨j + 1, by omega, by go_num, HT', hbel.drew⟩
          case measure => simp [intOf]; omega
        · have HF : Hid (decide (l = k) = false) := Lib.hid (decide_eq_false (fun h => hxy (by rw [← HX.out, ← HY.out, h])))
          rw [decide_eq_false hxy]
          clear hxy
          go_wp2_with fail
          go_ret
          exact ⟨by rw [HF.out]; rfl, hbel.drew⟩
      · obtain rfl : j = N := by omega
        have HF : Hid (decide (l = k) = true) := Lib.hid (decide_eq_true (listV_getD (by rw [hl.out, hl'.out]) (fun i hi => HT.out i (by rw [← hl.out]; exact hi))))
        go_wp2_with fail
        go_ret
        exact ⟨by rw [HF.out]; rfl, hbel⟩
  · have hne : ((N : Int) == (N' : Int)) = false := by rw [beq_eq_false_iff_ne]; omega
    have HF : Hid (decide (l = k) = false) := Lib.hid (decide_eq_false (fun h => h1 (by rw [← hl.out, ← hl'.out, h])))
    clear hv hv'
    go_enter Try.func15, Try.ntmps15
    go_wp2_with fail
    go_ret
    exact ⟨by rw [HF.out]; rfl, Below.refl _ _⟩
end Go.Proofs.Yticocaljgaegfaa
/- BlockOne: the walk. -/
namespace Go.Proofs.Yticocaljgaegfaa
open Go.ChangeShapes Go.WideShapes Go.ChangeAt Go.RowKit
set_option linter.unusedVariables false

/- $1 $2 $3: where the bytes lie that are looked at, $4: which they are, $5: the round's number, $6: what holds of memory -/
set_option maxRecDepth 20000 in
set_option maxHeartbeats 4000000 in
theorem one7_is (x : Int) (hx : 0 ≤ x ∧ x ≤ 255) (a : Option Addr) (m c : Nat) (zs : List Int) (w : World) (bz : BV w a m zs) (hc : m ≤ c) :
    Calls Try.prog 8 #[.int .u8 x, .slice a m c] w fun e w' => e = .returned (.bool true) ∧ Below w.heap.size w w' := by
  go_enter Try.func8, Try.ntmps8
  go_wp2_with fail
  refine (shown7_is _).mono ?_
  rintro e w1 ⟨rfl, hb1⟩
  replace bz := bz.below hb1
  obtain ⟨k, hk⟩ : ∃ k, 1 + x % 3 = k := ⟨_, rfl⟩
  have hk1 : 1 ≤ k ∧ k ≤ 3 := by omega
  have hku := type_u8 hk1
  by_cases h5 : m ≤ 600
  · have h5i : ¬ (600 : Int) < (m : Int) := by omega
    go_wp2_with fail
    go_loopw [7] (fun i wr => ∃ j : Nat, j ≤ 2 ∧ i = .int .i64 (j : Int) ∧ Below w1.heap.size w1 wr) (fun i _ => 2 - (intOf i).toNat)
    case atStart => exact ⟨0, by omega, rfl, Below.refl _ _⟩
    case round =>
      obtain ⟨j, hj, rfl, hbel⟩ := hrel
      replace bz := bz.below hbel
      replace hb1 := Below.then hb1 hbel
      match j, hj with
      | 0, _ =>
        have bf := bz
        clear bz
        go_wp2_with fail
        refine (btake_any k a m c zs _ bf (by omega) (by omega)).mono ?_
        rintro e w3 ⟨A3, N3, C3, l3, s3, e3, rfl, hN3, v3, S3, hb3⟩
        replace bf := bf.below hb3
        replace hbel := Below.then hbel hb3
        clear hb3
        by_cases he0 : e3 = 0
        · subst he0
          obtain ⟨hcol, hrg, hU⟩ : colB k l3 = true ∧ RgV l3 ∧ unf zs = (dataL k l3, s3, 0) := by
            rcases S3.out with ⟨-, h1, h2, h3⟩ | ⟨-, -, h, -⟩ | ⟨-, -, -, h⟩
            · exact ⟨h1, h2, h3⟩
            · cases h
            · exact absurd rfl h
          obtain ⟨n3, rfl, hn3, htk⟩ := unf_told bf.2.1 hU
          rw [bf.1] at hn3
          have HTK : Hid ((zs).take n3 = blockL k l3) := Lib.hid htk
          clear S3 hU htk
          go_wp2_with fail
          refine (bput_any k A3 N3 C3 l3 _ v3 hrg (by omega)).mono ?_
          rintro e w4 he
          rcases he with ⟨-, ⟨v4, rfl, o4⟩, hb4⟩ | ⟨h, -, -⟩
          rotate_left
          · rw [hcol] at h; cases h
          obtain ⟨a4, c4, rfl, -, -, b4, -⟩ := o4.bvn (block_bytes hcol) _ rfl
          replace bf := bf.below hb4
          replace hbel := Below.then hbel hb4
          obtain ⟨a5, hs5, b5⟩ := bf.slice_hi n3 c hn3 (by omega)
          rw [HTK.out] at b5
          have hn3i : decide ((m : Int) < (n3 : Int)) = false := decide_eq_false (by omega)
          have hn3n : decide ((m : Nat) < n3) = false := decide_eq_false (by omega)
          generalize (blockL k l3).length = L4 at b4
          generalize blockL k l3 = Z at b4 b5
          clear hcol hrg o4 hb4 HTK v3
          go_wp2_with fail
          refine wp_region_noPanic ?_
          refine region_g 17 (Ext (World.drew _)) (by kernel_rfl) (Ext.refl _) (fun hS => ?_)
          refine take_w (i := 0) (v := ?_) (some 59) rfl (by kernel_rfl) rfl (fun _ _ _ h => h) (Or.inl ⟨by rfl, ?_⟩) hS ?_
          rotate_left
          · (intro wq hq; go_simp); first | done | with_reducible rfl
          try simp only [Act.put, List.setIfInBounds_toArray, List.set_cons_zero, List.set_cons_succ]
          replace hS := Till.list 0 hS
          refine take_w (i := 1) (v := ?_) (some 60) rfl (by kernel_rfl) rfl (fun _ _ _ h => h) (Or.inl ⟨by rfl, ?_⟩) hS ?_
          rotate_left
          · (intro wq hq; go_simp); first | done | with_reducible rfl
          try simp only [Act.put, List.setIfInBounds_toArray, List.set_cons_zero, List.set_cons_succ]
          replace hS := Till.list 1 hS
          refine take_w (i := 2) (v := ?_) (some 61) rfl (by kernel_rfl) rfl (fun _ _ _ h => h) (Or.inl ⟨by rfl, ?_⟩) hS ?_
          rotate_left
          · (intro wq hq; go_simp); first | done | with_reducible rfl
          try simp only [Act.put, List.setIfInBounds_toArray, List.set_cons_zero, List.set_cons_succ]
          replace hS := Till.list 2 hS
          refine take_w (i := 3) (v := ?_) (some 62) rfl (by kernel_rfl) rfl (fun _ _ _ h => h) (Or.inl ⟨by rfl, ?_⟩) hS ?_
          rotate_left
          · (intro wq hq; go_simp); first | done | with_reducible rfl
          try simp only [Act.put, List.setIfInBounds_toArray, List.set_cons_zero, List.set_cons_succ]
          replace hS := Till.list 3 hS
          refine take_w (i := 4) (v := ?_) (some 63) rfl (by kernel_rfl) rfl (fun _ _ _ h => h) (Or.inl ⟨by rfl, ?_⟩) hS ?_
          rotate_left
          · (intro wq hq; go_simp); first | done | with_reducible rfl
          try simp only [Act.put, List.setIfInBounds_toArray, List.set_cons_zero, List.set_cons_succ]
          replace hS := Till.list 4 hS
          refine take_w (i := 5) (v := ?_) (some 64) rfl (by kernel_rfl) rfl (fun _ _ _ h => h) (Or.inl ⟨by rfl, ?_⟩) hS ?_
          rotate_left
          · (intro wq hq; go_simp); first | done | with_reducible rfl
          try simp only [Act.put, List.setIfInBounds_toArray, List.set_cons_zero, List.set_cons_succ]
          replace hS := Till.list 5 hS
          refine take_w (i := 6) (v := ?_) (some 65) rfl (by kernel_rfl) rfl (fun _ _ _ h => h) (Or.inl ⟨by rfl, ?_⟩) hS ?_
          rotate_left
          · (intro wq hq; go_simp); first | done | with_reducible rfl
          try simp only [Act.put, List.setIfInBounds_toArray, List.set_cons_zero, List.set_cons_succ]
          replace hS := Till.list 6 hS
          refine take_w (i := 7) (v := ?_) (some 66) rfl (by kernel_rfl) rfl (fun _ _ _ h => h) (Or.inl ⟨by rfl, ?_⟩) hS ?_
          rotate_left
          · (intro wq hq; go_simp); first | done | with_reducible rfl
          try simp only [Act.put, List.setIfInBounds_toArray, List.set_cons_zero, List.set_cons_succ]
          replace hS := Till.list 7 hS
          refine take_w (i := 8) (v := ?_) (some 67) rfl (by kernel_rfl) rfl (fun _ _ _ h => h) (Or.inl ⟨by rfl, ?_⟩) hS ?_
          rotate_left
          · (intro wq hq; go_simp); first | done | with_reducible rfl
          try simp only [Act.put, List.setIfInBounds_toArray, List.set_cons_zero, List.set_cons_succ]
          replace hS := Till.list 8 hS
          refine take_w (i := 9) (v := ?_) (some 68) rfl (by kernel_rfl) rfl (fun _ _ _ h => h) (Or.inl ⟨by rfl, ?_⟩) hS ?_
          rotate_left
          · (intro wq hq; go_simp); first | done | with_reducible rfl
          try simp only [Act.put, List.setIfInBounds_toArray, List.set_cons_zero, List.set_cons_succ]
          replace hS := Till.list 9 hS
          refine take_n (i := 10) (v := .string (strOfNums Z)) (some 69) rfl (by kernel_rfl) rfl (fun _ _ _ h => h) (Or.inl ⟨by rfl, ?_⟩) hS ?_
          · (intro wq hq; (have hcv := conv_any (b4.ext hq) c4; go_simp))
          try simp only [Act.put, List.setIfInBounds_toArray, List.set_cons_zero, List.set_cons_succ]
          replace hS := Till.list 10 hS
          refine take_w (i := 11) (v := ?_) (some 70) rfl (by kernel_rfl) rfl (fun _ _ _ h => h) (Or.inl ⟨by rfl, ?_⟩) hS ?_
          rotate_left
          · (intro wq hq; go_simp); first | done | with_reducible rfl
          try simp only [Act.put, List.setIfInBounds_toArray, List.set_cons_zero, List.set_cons_succ]
          replace hS := Till.list 11 hS
          refine take_w (i := 12) (v := ?_) (some 71) rfl (by kernel_rfl) rfl (fun _ _ _ h => h) (Or.inl ⟨by rfl, ?_⟩) hS ?_
          rotate_left
          · (intro wq hq; go_simp); first | done | with_reducible rfl
          try simp only [Act.put, List.setIfInBounds_toArray, List.set_cons_zero, List.set_cons_succ]
          replace hS := Till.list 12 hS
          refine take_w (i := 13) (v := ?_) (some 72) rfl (by kernel_rfl) rfl (fun _ _ _ h => h) (Or.inl ⟨by rfl, ?_⟩) hS ?_
          rotate_left
          · (intro wq hq; go_simp); first | done | with_reducible rfl
          try simp only [Act.put, List.setIfInBounds_toArray, List.set_cons_zero, List.set_cons_succ]
          replace hS := Till.list 13 hS
          refine take_n (i := 14) (v := .string (strOfNums Z)) (some 73) rfl (by kernel_rfl) rfl (fun _ _ _ h => h) (Or.inl ⟨by rfl, ?_⟩) hS ?_
          · (intro wq hq; (have hcv := conv_any (b5.ext hq) c; go_simp))
          try simp only [Act.put, List.setIfInBounds_toArray, List.set_cons_zero, List.set_cons_succ]
          replace hS := Till.list 14 hS
          refine take_w (i := 15) (v := ?_) (some 74) rfl (by kernel_rfl) rfl (fun _ _ _ h => h) (Or.inl ⟨by rfl, ?_⟩) hS ?_
          rotate_left
          · (intro wq hq; go_simp); first | done | with_reducible rfl
          try simp only [Act.put, List.setIfInBounds_toArray, List.set_cons_zero, List.set_cons_succ]
          replace hS := Till.list 15 hS
          refine take_w (i := 16) (v := ?_) (some 75) rfl (by kernel_rfl) rfl (fun _ _ _ h => h) (Or.inl ⟨by rfl, ?_⟩) hS ?_
          rotate_left
          · (intro wq hq; go_simp); first | done | with_reducible rfl
          try simp only [Act.put, List.setIfInBounds_toArray, List.set_cons_zero, List.set_cons_succ]
          replace hS := Till.list 16 hS
          refine done_g (by kernel_rfl) (NoPanic.normal ?_) _
          clear hS
          clear b4 b5 hs5
          replace hbel := hbel.drew
          go_wp2_with fail
          go_roundw
          case rel => exact ⟨1, by omega, by go_num, hbel⟩
          case measure => simp [intOf]
        · obtain ⟨rfl, rfl⟩ : l3 = [] ∧ s3 = 0 := by
            rcases S3.out with ⟨h, -, -, -⟩ | ⟨h1, h2, -, -⟩ | ⟨h1, h2, -, -⟩
            · exact absurd h he0
            · exact ⟨h1, h2⟩
            · exact ⟨h1, h2⟩
          obtain rfl : N3 = 0 := (WV.len v3).symm
          have hne : (e3 != 0) = true := bne_iff_ne.2 he0
          clear S3 v3 he0
          go_wp2_with fail
          go_roundw
          case rel => exact ⟨1, by omega, by go_num, hbel⟩
          case measure => simp [intOf]
      | 1, _ =>
        have hby : ∀ z ∈ [k] ++ zs, 0 ≤ z ∧ z ≤ 255 := fun z hz => (List.mem_append.1 hz).elim (fun h => by rw [List.mem_singleton.1 h]; omega) (bz.2.1 z)
        have hlen := bz.1
        go_wp2_with (at_builtin; refine append_ow rfl (.tmp 33) (.tmp 34) rfl wr.heap.size _ [k] rfl (OW.one wr k wr.heap.size (Nat.le_refl _) _ rfl) a m c _ rfl (bz.alloc _) (by rw [List.length_singleton]; omega) (by simp) ?_; intro v4 w4 ho4 hb4)
        replace hb4 := (Joins.below_alloc1 wr (.cells #[.int .u8 k] 5)).trans hb4
        obtain ⟨a5, c5, rfl, hc5, -, b5, -⟩ := ho4.bvn hby (m + 1) (by have h7 := hlen; simp only [List.length_append, List.length_singleton]; omega)
        replace hbel := Below.then hbel hb4
        clear hb4 ho4 hb1 bz hlen
        refine (frame_any a5 (m + 1) c5 _ _ b5 (by omega)).mono ?_
        rintro e w5 ⟨v5, rfl, o5, hb5⟩
        have hlf : (frameL ([k] ++ zs)).length ≤ 620 := by
          have h4 := pv_len10 (x := (([k] ++ zs).length : Int)) (by rw [b5.1]; omega)
          rw [frameL_len, b5.1] ; rw [b5.1] at h4; omega
        obtain ⟨a6, c6, rfl, hc6, -, bf, -⟩ := o5.bvn (frameL_bytes hby) _ rfl
        replace hbel := Below.then hbel hb5
        clear hb5 o5 b5 hby
        generalize hFF : frameL ([k] ++ zs) = FF at bf hlf hc6
        generalize FF.length = MF at bf hlf hc6
        clear hFF
        go_wp2_with fail
        refine (btake_any k a6 MF c6 FF _ bf (by omega) (by omega)).mono ?_
        rintro e w3 ⟨A3, N3, C3, l3, s3, e3, rfl, hN3, v3, S3, hb3⟩
        replace bf := bf.below hb3
        replace hbel := Below.then hbel hb3
        clear hb3
        by_cases he0 : e3 = 0
        · subst he0
          obtain ⟨hcol, hrg, hU⟩ : colB k l3 = true ∧ RgV l3 ∧ unf FF = (dataL k l3, s3, 0) := by
            rcases S3.out with ⟨-, h1, h2, h3⟩ | ⟨-, -, h, -⟩ | ⟨-, -, -, h⟩
            · exact ⟨h1, h2, h3⟩
            · cases h
            · exact absurd rfl h
          obtain ⟨n3, rfl, hn3, htk⟩ := unf_told bf.2.1 hU
          rw [bf.1] at hn3
          have HTK : Hid ((FF).take n3 = blockL k l3) := Lib.hid htk
          clear S3 hU htk
          go_wp2_with fail
          refine (bput_any k A3 N3 C3 l3 _ v3 hrg (by omega)).mono ?_
          rintro e w4 he
          rcases he with ⟨-, ⟨v4, rfl, o4⟩, hb4⟩ | ⟨h, -, -⟩
          rotate_left
          · rw [hcol] at h; cases h
          obtain ⟨a4, c4, rfl, -, -, b4, -⟩ := o4.bvn (block_bytes hcol) _ rfl
          replace bf := bf.below hb4
          replace hbel := Below.then hbel hb4
          obtain ⟨a5, hs5, b5⟩ := bf.slice_hi n3 c6 hn3 (by omega)
          rw [HTK.out] at b5
          have hn3i : decide ((MF : Int) < (n3 : Int)) = false := decide_eq_false (by omega)
          have hn3n : decide ((MF : Nat) < n3) = false := decide_eq_false (by omega)
          generalize (blockL k l3).length = L4 at b4
          generalize blockL k l3 = Z at b4 b5
          clear hcol hrg o4 hb4 HTK v3
          go_wp2_with fail
          refine wp_region_noPanic ?_
          refine region_g 17 (Ext (World.drew _)) (by kernel_rfl) (Ext.refl _) (fun hS => ?_)
          refine take_w (i := 0) (v := ?_) (some 59) rfl (by kernel_rfl) rfl (fun _ _ _ h => h) (Or.inl ⟨by rfl, ?_⟩) hS ?_
          rotate_left
          · (intro wq hq; go_simp); first | done | with_reducible rfl
          try simp only [Act.put, List.setIfInBounds_toArray, List.set_cons_zero, List.set_cons_succ]
          replace hS := Till.list 0 hS
          refine take_w (i := 1) (v := ?_) (some 60) rfl (by kernel_rfl) rfl (fun _ _ _ h => h) (Or.inl ⟨by rfl, ?_⟩) hS ?_
          rotate_left
          · (intro wq hq; go_simp); first | done | with_reducible rfl
          try simp only [Act.put, List.setIfInBounds_toArray, List.set_cons_zero, List.set_cons_succ]
          replace hS := Till.list 1 hS
          refine take_w (i := 2) (v := ?_) (some 61) rfl (by kernel_rfl) rfl (fun _ _ _ h => h) (Or.inl ⟨by rfl, ?_⟩) hS ?_
          rotate_left
          · (intro wq hq; go_simp); first | done | with_reducible rfl
          try simp only [Act.put, List.setIfInBounds_toArray, List.set_cons_zero, List.set_cons_succ]
          replace hS := Till.list 2 hS
          refine take_w (i := 3) (v := ?_) (some 62) rfl (by kernel_rfl) rfl (fun _ _ _ h => h) (Or.inl ⟨by rfl, ?_⟩) hS ?_
          rotate_left
          · (intro wq hq; go_simp); first | done | with_reducible rfl
          try simp only [Act.put, List.setIfInBounds_toArray, List.set_cons_zero, List.set_cons_succ]
          replace hS := Till.list 3 hS
          refine take_w (i := 4) (v := ?_) (some 63) rfl (by kernel_rfl) rfl (fun _ _ _ h => h) (Or.inl ⟨by rfl, ?_⟩) hS ?_
          rotate_left
          · (intro wq hq; go_simp); first | done | with_reducible rfl
          try simp only [Act.put, List.setIfInBounds_toArray, List.set_cons_zero, List.set_cons_succ]
          replace hS := Till.list 4 hS
          refine take_w (i := 5) (v := ?_) (some 64) rfl (by kernel_rfl) rfl (fun _ _ _ h => h) (Or.inl ⟨by rfl, ?_⟩) hS ?_
          rotate_left
          · (intro wq hq; go_simp); first | done | with_reducible rfl
          try simp only [Act.put, List.setIfInBounds_toArray, List.set_cons_zero, List.set_cons_succ]
          replace hS := Till.list 5 hS
          refine take_w (i := 6) (v := ?_) (some 65) rfl (by kernel_rfl) rfl (fun _ _ _ h => h) (Or.inl ⟨by rfl, ?_⟩) hS ?_
          rotate_left
          · (intro wq hq; go_simp); first | done | with_reducible rfl
          try simp only [Act.put, List.setIfInBounds_toArray, List.set_cons_zero, List.set_cons_succ]
          replace hS := Till.list 6 hS
          refine take_w (i := 7) (v := ?_) (some 66) rfl (by kernel_rfl) rfl (fun _ _ _ h => h) (Or.inl ⟨by rfl, ?_⟩) hS ?_
          rotate_left
          · (intro wq hq; go_simp); first | done | with_reducible rfl
          try simp only [Act.put, List.setIfInBounds_toArray, List.set_cons_zero, List.set_cons_succ]
          replace hS := Till.list 7 hS
          refine take_w (i := 8) (v := ?_) (some 67) rfl (by kernel_rfl) rfl (fun _ _ _ h => h) (Or.inl ⟨by rfl, ?_⟩) hS ?_
          rotate_left
          · (intro wq hq; go_simp); first | done | with_reducible rfl
          try simp only [Act.put, List.setIfInBounds_toArray, List.set_cons_zero, List.set_cons_succ]
          replace hS := Till.list 8 hS
          refine take_w (i := 9) (v := ?_) (some 68) rfl (by kernel_rfl) rfl (fun _ _ _ h => h) (Or.inl ⟨by rfl, ?_⟩) hS ?_
          rotate_left
          · (intro wq hq; go_simp); first | done | with_reducible rfl
          try simp only [Act.put, List.setIfInBounds_toArray, List.set_cons_zero, List.set_cons_succ]
          replace hS := Till.list 9 hS
          refine take_n (i := 10) (v := .string (strOfNums Z)) (some 69) rfl (by kernel_rfl) rfl (fun _ _ _ h => h) (Or.inl ⟨by rfl, ?_⟩) hS ?_
          · (intro wq hq; (have hcv := conv_any (b4.ext hq) c4; go_simp))
          try simp only [Act.put, List.setIfInBounds_toArray, List.set_cons_zero, List.set_cons_succ]
          replace hS := Till.list 10 hS
          refine take_w (i := 11) (v := ?_) (some 70) rfl (by kernel_rfl) rfl (fun _ _ _ h => h) (Or.inl ⟨by rfl, ?_⟩) hS ?_
          rotate_left
          · (intro wq hq; go_simp); first | done | with_reducible rfl
          try simp only [Act.put, List.setIfInBounds_toArray, List.set_cons_zero, List.set_cons_succ]
          replace hS := Till.list 11 hS
          refine take_w (i := 12) (v := ?_) (some 71) rfl (by kernel_rfl) rfl (fun _ _ _ h => h) (Or.inl ⟨by rfl, ?_⟩) hS ?_
          rotate_left
          · (intro wq hq; go_simp); first | done | with_reducible rfl
          try simp only [Act.put, List.setIfInBounds_toArray, List.set_cons_zero, List.set_cons_succ]
          replace hS := Till.list 12 hS
          refine take_w (i := 13) (v := ?_) (some 72) rfl (by kernel_rfl) rfl (fun _ _ _ h => h) (Or.inl ⟨by rfl, ?_⟩) hS ?_
          rotate_left
          · (intro wq hq; go_simp); first | done | with_reducible rfl
          try simp only [Act.put, List.setIfInBounds_toArray, List.set_cons_zero, List.set_cons_succ]
          replace hS := Till.list 13 hS
          refine take_n (i := 14) (v := .string (strOfNums Z)) (some 73) rfl (by kernel_rfl) rfl (fun _ _ _ h => h) (Or.inl ⟨by rfl, ?_⟩) hS ?_
          · (intro wq hq; (have hcv := conv_any (b5.ext hq) c6; go_simp))
          try simp only [Act.put, List.setIfInBounds_toArray, List.set_cons_zero, List.set_cons_succ]
          replace hS := Till.list 14 hS
          refine take_w (i := 15) (v := ?_) (some 74) rfl (by kernel_rfl) rfl (fun _ _ _ h => h) (Or.inl ⟨by rfl, ?_⟩) hS ?_
          rotate_left
          · (intro wq hq; go_simp); first | done | with_reducible rfl
          try simp only [Act.put, List.setIfInBounds_toArray, List.set_cons_zero, List.set_cons_succ]
          replace hS := Till.list 15 hS
          refine take_w (i := 16) (v := ?_) (some 75) rfl (by kernel_rfl) rfl (fun _ _ _ h => h) (Or.inl ⟨by rfl, ?_⟩) hS ?_
          rotate_left
          · (intro wq hq; go_simp); first | done | with_reducible rfl
          try simp only [Act.put, List.setIfInBounds_toArray, List.set_cons_zero, List.set_cons_succ]
          replace hS := Till.list 16 hS
          refine done_g (by kernel_rfl) (NoPanic.normal ?_) _
          clear hS
          clear b4 b5 hs5
          replace hbel := hbel.drew
          go_wp2_with fail
          go_roundw
          case rel => exact ⟨2, by omega, by go_num, hbel⟩
          case measure => simp [intOf]
        · obtain ⟨rfl, rfl⟩ : l3 = [] ∧ s3 = 0 := by
            rcases S3.out with ⟨h, -, -, -⟩ | ⟨h1, h2, -, -⟩ | ⟨h1, h2, -, -⟩
            · exact absurd h he0
            · exact ⟨h1, h2⟩
            · exact ⟨h1, h2⟩
          obtain rfl : N3 = 0 := (WV.len v3).symm
          have hne : (e3 != 0) = true := bne_iff_ne.2 he0
          clear S3 v3 he0
          go_wp2_with fail
          go_roundw
          case rel => exact ⟨2, by omega, by go_num, hbel⟩
          case measure => simp [intOf]
      | 2, _ =>
        go_wp2_with fail
        go_ret
        exact ⟨rfl, hb1⟩
  · have h5i : (600 : Int) < (m : Int) := by omega
    have h5c : 600 ≤ c := by omega
    replace bz := bz.take 600 (by omega)
    generalize zs.take 600 = ys at bz
    go_wp2_with fail
    go_loopw [7] (fun i wr => ∃ j : Nat, j ≤ 2 ∧ i = .int .i64 (j : Int) ∧ Below w1.heap.size w1 wr) (fun i _ => 2 - (intOf i).toNat)
    case atStart => exact ⟨0, by omega, rfl, Below.refl _ _⟩
    case round =>
      obtain ⟨j, hj, rfl, hbel⟩ := hrel
      replace bz := bz.below hbel
      replace hb1 := Below.then hb1 hbel
      match j, hj with
      | 0, _ =>
        have bf := bz
        clear bz
        go_wp2_with fail
        refine (btake_any k a 600 c ys _ bf (by omega) (by omega)).mono ?_
        rintro e w3 ⟨A3, N3, C3, l3, s3, e3, rfl, hN3, v3, S3, hb3⟩
        replace bf := bf.below hb3
        replace hbel := Below.then hbel hb3
        clear hb3
        by_cases he0 : e3 = 0
        · subst he0
          obtain ⟨hcol, hrg, hU⟩ : colB k l3 = true ∧ RgV l3 ∧ unf ys = (dataL k l3, s3, 0) := by
            rcases S3.out with ⟨-, h1, h2, h3⟩ | ⟨-, -, h, -⟩ | ⟨-, -, -, h⟩
            · exact ⟨h1, h2, h3⟩
            · cases h
            · exact absurd rfl h
          obtain ⟨n3, rfl, hn3, htk⟩ := unf_told bf.2.1 hU
          rw [bf.1] at hn3
          have HTK : Hid ((ys).take n3 = blockL k l3) := Lib.hid htk
          clear S3 hU htk
          go_wp2_with fail
          refine (bput_any k A3 N3 C3 l3 _ v3 hrg (by omega)).mono ?_
          rintro e w4 he
          rcases he with ⟨-, ⟨v4, rfl, o4⟩, hb4⟩ | ⟨h, -, -⟩
          rotate_left
          · rw [hcol] at h; cases h
          obtain ⟨a4, c4, rfl, -, -, b4, -⟩ := o4.bvn (block_bytes hcol) _ rfl
          replace bf := bf.below hb4
          replace hbel := Below.then hbel hb4
          obtain ⟨a5, hs5, b5⟩ := bf.slice_hi n3 c hn3 (by omega)
          rw [HTK.out] at b5
          have hn3i : decide ((600 : Int) < (n3 : Int)) = false := decide_eq_false (by omega)
          have hn3n : decide ((600 : Nat) < n3) = false := decide_eq_false (by omega)
          generalize (blockL k l3).length = L4 at b4
          generalize blockL k l3 = Z at b4 b5
          clear hcol hrg o4 hb4 HTK v3
          go_wp2_with fail
          refine wp_region_noPanic ?_
          refine region_g 17 (Ext (World.drew _)) (by kernel_rfl) (Ext.refl _) (fun hS => ?_)
          refine take_w (i := 0) (v := ?_) (some 59) rfl (by kernel_rfl) rfl (fun _ _ _ h => h) (Or.inl ⟨by rfl, ?_⟩) hS ?_
          rotate_left
          · (intro wq hq; go_simp); first | done | with_reducible rfl
          try simp only [Act.put, List.setIfInBounds_toArray, List.set_cons_zero, List.set_cons_succ]
          replace hS := Till.list 0 hS
          refine take_w (i := 1) (v := ?_) (some 60) rfl (by kernel_rfl) rfl (fun _ _ _ h => h) (Or.inl ⟨by rfl, ?_⟩) hS ?_
          rotate_left
          · (intro wq hq; go_simp); first | done | with_reducible rfl
          try simp only [Act.put, List.setIfInBounds_toArray, List.set_cons_zero, List.set_cons_succ]
          replace hS := Till.list 1 hS
          refine take_w (i := 2) (v := ?_) (some 61) rfl (by kernel_rfl) rfl (fun _ _ _ h => h) (Or.inl ⟨by rfl, ?_⟩) hS ?_
          rotate_left
          · (intro wq hq; go_simp); first | done | with_reducible rfl
          try simp only [Act.put, List.setIfInBounds_toArray, List.set_cons_zero, List.set_cons_succ]
          replace hS := Till.list 2 hS
          refine take_w (i := 3) (v := ?_) (some 62) rfl (by kernel_rfl) rfl (fun _ _ _ h => h) (Or.inl ⟨by rfl, ?_⟩) hS ?_
          rotate_left
          · (intro wq hq; go_simp); first | done | with_reducible rfl
          try simp only [Act.put, List.setIfInBounds_toArray, List.set_cons_zero, List.set_cons_succ]
          replace hS := Till.list 3 hS
          refine take_w (i := 4) (v := ?_) (some 63) rfl (by kernel_rfl) rfl (fun _ _ _ h => h) (Or.inl ⟨by rfl, ?_⟩) hS ?_
          rotate_left
          · (intro wq hq; go_simp); first | done | with_reducible rfl
          try simp only [Act.put, List.setIfInBounds_toArray, List.set_cons_zero, List.set_cons_succ]
          replace hS := Till.list 4 hS
          refine take_w (i := 5) (v := ?_) (some 64) rfl (by kernel_rfl) rfl (fun _ _ _ h => h) (Or.inl ⟨by rfl, ?_⟩) hS ?_
          rotate_left
          · (intro wq hq; go_simp); first | done | with_reducible rfl
          try simp only [Act.put, List.setIfInBounds_toArray, List.set_cons_zero, List.set_cons_succ]
          replace hS := Till.list 5 hS
          refine take_w (i := 6) (v := ?_) (some 65) rfl (by kernel_rfl) rfl (fun _ _ _ h => h) (Or.inl ⟨by rfl, ?_⟩) hS ?_
          rotate_left
          · (intro wq hq; go_simp); first | done | with_reducible rfl
          try simp only [Act.put, List.setIfInBounds_toArray, List.set_cons_zero, List.set_cons_succ]
          replace hS := Till.list 6 hS
          refine take_w (i := 7) (v := ?_) (some 66) rfl (by kernel_rfl) rfl (fun _ _ _ h => h) (Or.inl ⟨by rfl, ?_⟩) hS ?_
          rotate_left
          · (intro wq hq; go_simp); first | done | with_reducible rfl
          try simp only [Act.put, List.setIfInBounds_toArray, List.set_cons_zero, List.set_cons_succ]
          replace hS := Till.list 7 hS
          refine take_w (i := 8) (v := ?_) (some 67) rfl (by kernel_rfl) rfl (fun _ _ _ h => h) (Or.inl ⟨by rfl, ?_⟩) hS ?_
          rotate_left
          · (intro wq hq; go_simp); first | done | with_reducible rfl
          try simp only [Act.put, List.setIfInBounds_toArray, List.set_cons_zero, List.set_cons_succ]
          replace hS := Till.list 8 hS
          refine take_w (i := 9) (v := ?_) (some 68) rfl (by kernel_rfl) rfl (fun _ _ _ h => h) (Or.inl ⟨by rfl, ?_⟩) hS ?_
          rotate_left
          · (intro wq hq; go_simp); first | done | with_reducible rfl
          try simp only [Act.put, List.setIfInBounds_toArray, List.set_cons_zero, List.set_cons_succ]
          replace hS := Till.list 9 hS
          refine take_n (i := 10) (v := .string (strOfNums Z)) (some 69) rfl (by kernel_rfl) rfl (fun _ _ _ h => h) (Or.inl ⟨by rfl, ?_⟩) hS ?_
          · (intro wq hq; (have hcv := conv_any (b4.ext hq) c4; go_simp))
          try simp only [Act.put, List.setIfInBounds_toArray, List.set_cons_zero, List.set_cons_succ]
          replace hS := Till.list 10 hS
          refine take_w (i := 11) (v := ?_) (some 70) rfl (by kernel_rfl) rfl (fun _ _ _ h => h) (Or.inl ⟨by rfl, ?_⟩) hS ?_
          rotate_left
          · (intro wq hq; go_simp); first | done | with_reducible rfl
          try simp only [Act.put, List.setIfInBounds_toArray, List.set_cons_zero, List.set_cons_succ]
          replace hS := Till.list 11 hS
          refine take_w (i := 12) (v := ?_) (some 71) rfl (by kernel_rfl) rfl (fun _ _ _ h => h) (Or.inl ⟨by rfl, ?_⟩) hS ?_
          rotate_left
          · (intro wq hq; go_simp); first | done | with_reducible rfl
          try simp only [Act.put, List.setIfInBounds_toArray, List.set_cons_zero, List.set_cons_succ]
          replace hS := Till.list 12 hS
          refine take_w (i := 13) (v := ?_) (some 72) rfl (by kernel_rfl) rfl (fun _ _ _ h => h) (Or.inl ⟨by rfl, ?_⟩) hS ?_
          rotate_left
          · (intro wq hq; go_simp); first | done | with_reducible rfl
          try simp only [Act.put, List.setIfInBounds_toArray, List.set_cons_zero, List.set_cons_succ]
          replace hS := Till.list 13 hS
          refine take_n (i := 14) (v := .string (strOfNums Z)) (some 73) rfl (by kernel_rfl) rfl (fun _ _ _ h => h) (Or.inl ⟨by rfl, ?_⟩) hS ?_
          · (intro wq hq; (have hcv := conv_any (b5.ext hq) c; go_simp))
          try simp only [Act.put, List.setIfInBounds_toArray, List.set_cons_zero, List.set_cons_succ]
          replace hS := Till.list 14 hS
          refine take_w (i := 15) (v := ?_) (some 74) rfl (by kernel_rfl) rfl (fun _ _ _ h => h) (Or.inl ⟨by rfl, ?_⟩) hS ?_
          rotate_left
          · (intro wq hq; go_simp); first | done | with_reducible rfl
          try simp only [Act.put, List.setIfInBounds_toArray, List.set_cons_zero, List.set_cons_succ]
          replace hS := Till.list 15 hS
          refine take_w (i := 16) (v := ?_) (some 75) rfl (by kernel_rfl) rfl (fun _ _ _ h => h) (Or.inl ⟨by rfl, ?_⟩) hS ?_
          rotate_left
          · (intro wq hq; go_simp); first | done | with_reducible rfl
          try simp only [Act.put, List.setIfInBounds_toArray, List.set_cons_zero, List.set_cons_succ]
          replace hS := Till.list 16 hS
          refine done_g (by kernel_rfl) (NoPanic.normal ?_) _
          clear hS
          clear b4 b5 hs5
          replace hbel := hbel.drew
          go_wp2_with fail
          go_roundw
          case rel => exact ⟨1, by omega, by go_num, hbel⟩
          case measure => simp [intOf]
        · obtain ⟨rfl, rfl⟩ : l3 = [] ∧ s3 = 0 := by
            rcases S3.out with ⟨h, -, -, -⟩ | ⟨h1, h2, -, -⟩ | ⟨h1, h2, -, -⟩
            · exact absurd h he0
            · exact ⟨h1, h2⟩
            · exact ⟨h1, h2⟩
          obtain rfl : N3 = 0 := (WV.len v3).symm
          have hne : (e3 != 0) = true := bne_iff_ne.2 he0
          clear S3 v3 he0
          go_wp2_with fail
          go_roundw
          case rel => exact ⟨1, by omega, by go_num, hbel⟩
          case measure => simp [intOf]
      | 1, _ =>
        have hby : ∀ z ∈ [k] ++ ys, 0 ≤ z ∧ z ≤ 255 := fun z hz => (List.mem_append.1 hz).elim (fun h => by rw [List.mem_singleton.1 h]; omega) (bz.2.1 z)
        have hlen := bz.1
        go_wp2_with (at_builtin; refine append_ow rfl (.tmp 33) (.tmp 34) rfl wr.heap.size _ [k] rfl (OW.one wr k wr.heap.size (Nat.le_refl _) _ rfl) a 600 c _ rfl (bz.alloc _) (by rw [List.length_singleton]; omega) (by simp) ?_; intro v4 w4 ho4 hb4)
        replace hb4 := (Joins.below_alloc1 wr (.cells #[.int .u8 k] 5)).trans hb4
        obtain ⟨a5, c5, rfl, hc5, -, b5, -⟩ := ho4.bvn hby (600 + 1) (by have h7 := hlen; simp only [List.length_append, List.length_singleton]; omega)
        replace hbel := Below.then hbel hb4
        clear hb4 ho4 hb1 bz hlen
        refine (frame_any a5 (600 + 1) c5 _ _ b5 (by omega)).mono ?_
        rintro e w5 ⟨v5, rfl, o5, hb5⟩
        have hlf : (frameL ([k] ++ ys)).length ≤ 620 := by
          have h4 := pv_len10 (x := (([k] ++ ys).length : Int)) (by rw [b5.1]; omega)
          rw [frameL_len, b5.1] ; rw [b5.1] at h4; omega
        obtain ⟨a6, c6, rfl, hc6, -, bf, -⟩ := o5.bvn (frameL_bytes hby) _ rfl
        replace hbel := Below.then hbel hb5
        clear hb5 o5 b5 hby
        generalize hFF : frameL ([k] ++ ys) = FF at bf hlf hc6
        generalize FF.length = MF at bf hlf hc6
        clear hFF
        go_wp2_with fail
        refine (btake_any k a6 MF c6 FF _ bf (by omega) (by omega)).mono ?_
        rintro e w3 ⟨A3, N3, C3, l3, s3, e3, rfl, hN3, v3, S3, hb3⟩
        replace bf := bf.below hb3
        replace hbel := Below.then hbel hb3
        clear hb3
        by_cases he0 : e3 = 0
        · subst he0
          obtain ⟨hcol, hrg, hU⟩ : colB k l3 = true ∧ RgV l3 ∧ unf FF = (dataL k l3, s3, 0) := by
            rcases S3.out with ⟨-, h1, h2, h3⟩ | ⟨-, -, h, -⟩ | ⟨-, -, -, h⟩
            · exact ⟨h1, h2, h3⟩
            · cases h
            · exact absurd rfl h
          obtain ⟨n3, rfl, hn3, htk⟩ := unf_told bf.2.1 hU
          rw [bf.1] at hn3
          have HTK : Hid ((FF).take n3 = blockL k l3) := Lib.hid htk
          clear S3 hU htk
          go_wp2_with fail
          refine (bput_any k A3 N3 C3 l3 _ v3 hrg (by omega)).mono ?_
          rintro e w4 he
          rcases he with ⟨-, ⟨v4, rfl, o4⟩, hb4⟩ | ⟨h, -, -⟩
          rotate_left
          · rw [hcol] at h; cases h
          obtain ⟨a4, c4, rfl, -, -, b4, -⟩ := o4.bvn (block_bytes hcol) _ rfl
          replace bf := bf.below hb4
          replace hbel := Below.then hbel hb4
          obtain ⟨a5, hs5, b5⟩ := bf.slice_hi n3 c6 hn3 (by omega)
          rw [HTK.out] at b5
          have hn3i : decide ((MF : Int) < (n3 : Int)) = false := decide_eq_false (by omega)
          have hn3n : decide ((MF : Nat) < n3) = false := decide_eq_false (by omega)
          generalize (blockL k l3).length = L4 at b4
          generalize blockL k l3 = Z at b4 b5
          clear hcol hrg o4 hb4 HTK v3
          go_wp2_with fail
          refine wp_region_noPanic ?_
          refine region_g 17 (Ext (World.drew _)) (by kernel_rfl) (Ext.refl _) (fun hS => ?_)
          refine take_w (i := 0) (v := ?_) (some 59) rfl (by kernel_rfl) rfl (fun _ _ _ h => h) (Or.inl ⟨by rfl, ?_⟩) hS ?_
          rotate_left
          · (intro wq hq; go_simp); first | done | with_reducible rfl
          try simp only [Act.put, List.setIfInBounds_toArray, List.set_cons_zero, List.set_cons_succ]
          replace hS := Till.list 0 hS
          refine take_w (i := 1) (v := ?_) (some 60) rfl (by kernel_rfl) rfl (fun _ _ _ h => h) (Or.inl ⟨by rfl, ?_⟩) hS ?_
          rotate_left
          · (intro wq hq; go_simp); first | done | with_reducible rfl
          try simp only [Act.put, List.setIfInBounds_toArray, List.set_cons_zero, List.set_cons_succ]
          replace hS := Till.list 1 hS
          refine take_w (i := 2) (v := ?_) (some 61) rfl (by kernel_rfl) rfl (fun _ _ _ h => h) (Or.inl ⟨by rfl, ?_⟩) hS ?_
          rotate_left
          · (intro wq hq; go_simp); first | done | with_reducible rfl
          try simp only [Act.put, List.setIfInBounds_toArray, List.set_cons_zero, List.set_cons_succ]
          replace hS := Till.list 2 hS
          refine take_w (i := 3) (v := ?_) (some 62) rfl (by kernel_rfl) rfl (fun _ _ _ h => h) (Or.inl ⟨by rfl, ?_⟩) hS ?_
          rotate_left
          · (intro wq hq; go_simp); first | done | with_reducible rfl
          try simp only [Act.put, List.setIfInBounds_toArray, List.set_cons_zero, List.set_cons_succ]
          replace hS := Till.list 3 hS
          refine take_w (i := 4) (v := ?_) (some 63) rfl (by kernel_rfl) rfl (fun _ _ _ h => h) (Or.inl ⟨by rfl, ?_⟩) hS ?_
          rotate_left
          · (intro wq hq; go_simp); first | done | with_reducible rfl
          try simp only [Act.put, List.setIfInBounds_toArray, List.set_cons_zero, List.set_cons_succ]
          replace hS := Till.list 4 hS
          refine take_w (i := 5) (v := ?_) (some 64) rfl (by kernel_rfl) rfl (fun _ _ _ h => h) (Or.inl ⟨by rfl, ?_⟩) hS ?_
          rotate_left
          · (intro wq hq; go_simp); first | done | with_reducible rfl
          try simp only [Act.put, List.setIfInBounds_toArray, List.set_cons_zero, List.set_cons_succ]
          replace hS := Till.list 5 hS
          refine take_w (i := 6) (v := ?_) (some 65) rfl (by kernel_rfl) rfl (fun _ _ _ h => h) (Or.inl ⟨by rfl, ?_⟩) hS ?_
          rotate_left
          · (intro wq hq; go_simp); first | done | with_reducible rfl
          try simp only [Act.put, List.setIfInBounds_toArray, List.set_cons_zero, List.set_cons_succ]
          replace hS := Till.list 6 hS
          refine take_w (i := 7) (v := ?_) (some 66) rfl (by kernel_rfl) rfl (fun _ _ _ h => h) (Or.inl ⟨by rfl, ?_⟩) hS ?_
          rotate_left
          · (intro wq hq; go_simp); first | done | with_reducible rfl
          try simp only [Act.put, List.setIfInBounds_toArray, List.set_cons_zero, List.set_cons_succ]
          replace hS := Till.list 7 hS
          refine take_w (i := 8) (v := ?_) (some 67) rfl (by kernel_rfl) rfl (fun _ _ _ h => h) (Or.inl ⟨by rfl, ?_⟩) hS ?_
          rotate_left
          · (intro wq hq; go_simp); first | done | with_reducible rfl
          try simp only [Act.put, List.setIfInBounds_toArray, List.set_cons_zero, List.set_cons_succ]
          replace hS := Till.list 8 hS
          refine take_w (i := 9) (v := ?_) (some 68) rfl (by kernel_rfl) rfl (fun _ _ _ h => h) (Or.inl ⟨by rfl, ?_⟩) hS ?_
          rotate_left
          · (intro wq hq; go_simp); first | done | with_reducible rfl
          try simp only [Act.put, List.setIfInBounds_toArray, List.set_cons_zero, List.set_cons_succ]
          replace hS := Till.list 9 hS
          refine take_n (i := 10) (v := .string (strOfNums Z)) (some 69) rfl (by kernel_rfl) rfl (fun _ _ _ h => h) (Or.inl ⟨by rfl, ?_⟩) hS ?_
          · (intro wq hq; (have hcv := conv_any (b4.ext hq) c4; go_simp))
          try simp only [Act.put, List.setIfInBounds_toArray, List.set_cons_zero, List.set_cons_succ]
          replace hS := Till.list 10 hS
          refine take_w (i := 11) (v := ?_) (some 70) rfl (by kernel_rfl) rfl (fun _ _ _ h => h) (Or.inl ⟨by rfl, ?_⟩) hS ?_
          rotate_left
          · (intro wq hq; go_simp); first | done | with_reducible rfl
          try simp only [Act.put, List.setIfInBounds_toArray, List.set_cons_zero, List.set_cons_succ]
          replace hS := Till.list 11 hS
          refine take_w (i := 12) (v := ?_) (some 71) rfl (by kernel_rfl) rfl (fun _ _ _ h => h) (Or.inl ⟨by rfl, ?_⟩) hS ?_
          rotate_left
          · (intro wq hq; go_simp); first | done | with_reducible rfl
          try simp only [Act.put, List.setIfInBounds_toArray, List.set_cons_zero, List.set_cons_succ]
          replace hS := Till.list 12 hS
          refine take_w (i := 13) (v := ?_) (some 72) rfl (by kernel_rfl) rfl (fun _ _ _ h => h) (Or.inl ⟨by rfl, ?_⟩) hS ?_
          rotate_left
          · (intro wq hq; go_simp); first | done | with_reducible rfl
          try simp only [Act.put, List.setIfInBounds_toArray, List.set_cons_zero, List.set_cons_succ]
          replace hS := Till.list 13 hS
          refine take_n (i := 14) (v := .string (strOfNums Z)) (some 73) rfl (by kernel_rfl) rfl (fun _ _ _ h => h) (Or.inl ⟨by rfl, ?_⟩) hS ?_
          · (intro wq hq; (have hcv := conv_any (b5.ext hq) c6; go_simp))
          try simp only [Act.put, List.setIfInBounds_toArray, List.set_cons_zero, List.set_cons_succ]
          replace hS := Till.list 14 hS
          refine take_w (i := 15) (v := ?_) (some 74) rfl (by kernel_rfl) rfl (fun _ _ _ h => h) (Or.inl ⟨by rfl, ?_⟩) hS ?_
          rotate_left
          · (intro wq hq; go_simp); first | done | with_reducible rfl
          try simp only [Act.put, List.setIfInBounds_toArray, List.set_cons_zero, List.set_cons_succ]
          replace hS := Till.list 15 hS
          refine take_w (i := 16) (v := ?_) (some 75) rfl (by kernel_rfl) rfl (fun _ _ _ h => h) (Or.inl ⟨by rfl, ?_⟩) hS ?_
          rotate_left
          · (intro wq hq; go_simp); first | done | with_reducible rfl
          try simp only [Act.put, List.setIfInBounds_toArray, List.set_cons_zero, List.set_cons_succ]
          replace hS := Till.list 16 hS
          refine done_g (by kernel_rfl) (NoPanic.normal ?_) _
          clear hS
          clear b4 b5 hs5
          replace hbel := hbel.drew
          go_wp2_with fail
          go_roundw
          case rel => exact ⟨2, by omega, by go_num, hbel⟩
          case measure => simp [intOf]
        · obtain ⟨rfl, rfl⟩ : l3 = [] ∧ s3 = 0 := by
            rcases S3.out with ⟨h, -, -, -⟩ | ⟨h1, h2, -, -⟩ | ⟨h1, h2, -, -⟩
            · exact absurd h he0
            · exact ⟨h1, h2⟩
            · exact ⟨h1, h2⟩
          obtain rfl : N3 = 0 := (WV.len v3).symm
          have hne : (e3 != 0) = true := bne_iff_ne.2 he0
          clear S3 v3 he0
          go_wp2_with fail
          go_roundw
          case rel => exact ⟨2, by omega, by go_num, hbel⟩
          case measure => simp [intOf]
      | 2, _ =>
        go_wp2_with fail
        go_ret
        exact ⟨rfl, hb1⟩
end Go.Proofs.Yticocaljgaegfaa
/-
  BlockOne: for every byte and every slice of bytes the statement's function returns true, and its arguments read as they did. No condition.
-/
namespace Go.Proofs.Yticocaljgaegfaa.blockOne
open Go.ChangeShapes Go.WideShapes Go.ChangeAt Go.RowKit
set_option linter.unusedVariables false

set_option maxRecDepth 100000 in
theorem lifted (os : Os) (started : os.Started) (H : Type) (enc : TypeId × Value → H) :
    ReturnsInHanded {} Try.checked os 8 .any (Rows.blockOneSpec.pre6 enc Try.prog Try.f8 Rows.blockOneRow.domain false) (Rows.blockOneSpec.post enc Try.prog Try.f8 false true false false) := by
  refine returnsInHanded_of_change (C := Try.checked) own started (by kernel_rfl) Try.func8
    (ChangeSpec.witness6 (enc := enc) (C := Try.checked) false ⟨#[], #[.int .u8 0, .slice none 0 0], []⟩ 8 (by kernel_rfl) (by kernel_rfl) (by kernel_rfl) (by kernel_rfl)) ?_
  intro W base args ds gs before hval0 hW hcnd _
  have hval : ∀ (j : Nat) t v, Try.f8.params[j]? = some t → args[j]? = some v → Value.okWide Try.prog W .any base t v := hval0
  have hW' := hW
  obtain ⟨p, q, hA0, hV, rfl, hfz, hnd⟩ := hW
  have hA : DataW.TrodAll enc Try.prog W 0 (fun _ => true) true Try.f8.params.toList args.toList ds p := hA0
  rw [Try.params8] at hA hval
  obtain ⟨v0, vs0, d0, ds0, p0, q0, hargs0, rfl, rfl, h0, r0⟩ := trodAll_cons hA
  obtain ⟨v1, vs1, d1, ds1, p1, q1, hargs1, hds1, hq1, h1, r1⟩ := trodAll_cons r0
  obtain ⟨hn1, hn2, hn3⟩ := trodAll_nil r1
  subst hn2 hn3
  subst hds1 hq1
  obtain rfl : args = #[v0, v1] := by cases args; simp_all
  obtain ⟨rfl, rfl⟩ := trodVars_none hV
  have rd0 := h0
  have lt0 : ∀ x ∈ p0, x.block < W.heap.size := by obtain ⟨m, hm⟩ := rd0; exact DataW.trod_lt m _ _ _ hm
  obtain ⟨a0, rfl, B0⟩ := open_u8 (hval 0 5 v0 rfl rfl) h0
  have rd1 := h1
  have lt1 : ∀ x ∈ p1, x.block < W.heap.size := by obtain ⟨m, hm⟩ := rd1; exact DataW.trod_lt m _ _ _ hm
  obtain ⟨A1, n1, c1, z1, rfl, W1, L1⟩ := open_bytes (hval 1 23 v1 rfl rfl) h1
  clear hA0 hval0
  refine (one7_is a0 B0 A1 n1 c1 z1 W W1 L1).mono fun e W' ⟨he, bel⟩ => ?_
  subst he
  exact ⟨_, rfl, _, _, _, [], _, [], hW', trodAll_mk1 (shut_bool Try.underlying4 _), (trodAll_cons_mk (Below.trod laidOut (by kernel_rfl) (of_decide_eq_true (by kernel_rfl)) rd0 bel lt0) (trodAll_cons_mk (Below.trod laidOut (by kernel_rfl) (of_decide_eq_true (by kernel_rfl)) rd1 bel lt1) trodAll_mk0)), rfl, bel.frame _, fun h => by cases h⟩

theorem over : Rows.blockOneRow.holds Try.pinned (OpenSpec.ofChange Rows.blockOneSpec) :=
  OpenClaim.holds_of_wide 8 Try.f8 rfl rfl rfl rfl rfl rfl rfl ⟨rfl, rfl, rfl, rfl, rfl⟩ rfl rfl rfl rfl rfl (by kernel_rfl) Try.func8 (by kernel_rfl)
    (of_decide_eq_true (by kernel_rfl)) (by unfold Func.isWrapper; first | (rw [if_pos (by decide +kernel)]; kernel_rfl) | (rw [if_neg (by decide +kernel)]; exact ⟨rfl, rfl⟩))
    (fun os started H enc _ => lifted os started H enc)
end Go.Proofs.Yticocaljgaegfaa.blockOne
namespace Go.Proofs.Yticocaljgaegfaa
theorem blockOne_holds : Rows.BlockOneSaid := blockOne.over
end Go.Proofs.Yticocaljgaegfaa
