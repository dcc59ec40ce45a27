/- Texts that belong together, one behind the other: S4z. -/
import Derived.Test.YtbfihajgjbpmaaaGreatSchE
import Derived.Test.YtbfihajgjbpmaaaGreatOwn
/- Contract of the document's own Take. -/
namespace Go.Proofs.YtbfihajgjbpmaaaGreat
open Go.ChangeShapes Go.WideShapes Go.ChangeAt Go.RowKit
set_option linter.unusedVariables false
set_option maxRecDepth 4000

theorem joinN_cutE : ∀ (a b : List Int), U64s a → U64s b → ∀ r, joinN a ++ r = joinN b → ∃ c, b = a ++ c ∧ r = joinN c
  | [], b, _, _, r, h => ⟨b, rfl, h⟩
  | x :: a, [], _, _, r, h => by
    have := pv_pos x
    have hl := congrArg List.length h
    rw [joinN, joinN, List.length_append, List.length_append] at hl
    simp only [List.length_nil] at hl; omega
  | x :: a, y :: b, ha, hb, r, h => by
    rw [joinN, joinN, List.append_assoc] at h
    obtain ⟨e1, e2⟩ := pv_cut (ha x (List.mem_cons_self ..)) (hb y (List.mem_cons_self ..)) h
    obtain ⟨c, e3, e4⟩ := joinN_cutE a b (fun z hz => ha z (List.mem_cons_of_mem _ hz)) (fun z hz => hb z (List.mem_cons_of_mem _ hz)) r e2
    exact ⟨c, by rw [e1, e3]; rfl, e4⟩
abbrev Small (l : List Int) : Prop := ∀ x ∈ l, 0 ≤ x ∧ x ≤ 1000
theorem Small.u64 {l : List Int} (h : Small l) : U64s l := fun x hx => by have := h x hx; omega
theorem schemaN_small {ts : List Int} {k m g : Int} (h : checkB ts k m g = true) : Small (schemaN ts k m g) := by
  obtain ⟨h1, h2, h3, h4, h5, h6, h7, h8, h9⟩ := check_is h
  intro x hx
  simp only [schemaN, List.mem_cons, List.mem_append, List.not_mem_nil, or_false] at hx
  rcases hx with rfl | hx | rfl | rfl | rfl
  · omega
  · have := h9 x hx; omega
  · omega
  · omega
  · omega
/-- where no number is, or one that is too great, no schema was put -/
theorem stop_no {zs l r : List Int} (hz : zs = joinN l ++ r) (hl : Small l) (hr : r ≠ []) (h : (varR r).2 = 0 ∨ 1000 < (varR r).1) : NoS zs := by
  intro ts k m g hc hp
  obtain ⟨c, e1, e2⟩ := joinN_cutE l (schemaN ts k m g) hl.u64 (schemaN_u64 hc) r (by rw [← hz, ← hp]; rfl)
  cases c with
  | nil => exact hr e2
  | cons x c =>
    have hx : 0 ≤ x ∧ x ≤ 1000 := schemaN_small hc x (by rw [e1]; exact List.mem_append_right _ (List.mem_cons_self ..))
    rw [joinN] at e2
    rw [e2, varR_put x _ hx.1 (by omega)] at h
    have := pv_pos x
    simp only [] at h
    omega
/-- numbers that are no schema -/
theorem list_no {zs l : List Int} (hz : zs = joinN l) (hl : Small l) (h : ∀ ts k m g, checkB ts k m g = true → l ≠ schemaN ts k m g) : NoS zs := by
  intro ts k m g hc hp
  refine h ts k m g hc (joinN_inj _ _ hl.u64 (schemaN_u64 hc) ?_)
  rw [← hz, ← hp]; rfl
theorem list_schema {l : List Int} {kk : Nat} (h1 : l.length = kk + 4) (h2 : l.getD 0 0 = (kk : Int)) : l = schemaN ((l.drop 1).take kk) (l.getD (1 + kk) 0) (l.getD (2 + kk) 0) (l.getD (3 + kk) 0) := by
  match l, h1 with
  | a :: t, h1 =>
    have ht : t.length = kk + 3 := by simpa using h1
    have ha : a = (kk : Int) := by simpa using h2
    have hd : (t.drop kk).length = 3 := by rw [List.length_drop]; omega
    obtain ⟨x, y, z, hxyz⟩ : ∃ x y z, t.drop kk = [x, y, z] := by
      match t.drop kk, hd with
      | [x, y, z], _ => exact ⟨x, y, z, rfl⟩
    have e : t = t.take kk ++ [x, y, z] := by rw [← hxyz, List.take_append_drop]
    have hk : (t.take kk).length = kk := by rw [List.length_take]; omega
    have g1 : (a :: t).getD (1 + kk) 0 = x := by rw [Nat.add_comm 1 kk, e]; simp [List.getD, hk]
    have g2 : (a :: t).getD (2 + kk) 0 = y := by rw [Nat.add_comm 2 kk, e]; simp [List.getD, hk]
    have g3 : (a :: t).getD (3 + kk) 0 = z := by rw [Nat.add_comm 3 kk, e]; simp [List.getD, hk]
    rw [g1, g2, g3, schemaN]
    simp only [List.drop_succ_cons, List.drop_zero, hk, List.cons.injEq]
    exact ⟨ha, e⟩
theorem IV.cut {w : World} {g N : Nat} {l : List Int} (h : IV w (some ⟨g, 0, none⟩) N l) (i k : Nat) (hi : i + k ≤ N) : IV w (some ⟨g, i, none⟩) k ((l.drop i).take k) := by
  have h1 := SV.drop h i (by omega)
  have h2 := h1.take k (by omega)
  have e1 : ((icells l).drop (i * 1)).take (k * 1) = icells ((l.drop i).take k) := by simp [icells, List.map_take, List.map_drop]
  rw [e1] at h2
  simpa using h2
set_option maxHeartbeats 4000000 in
theorem rtakeS_any (a : Option Addr) (n c : Nat) (zs : List Int) (w : World) (hv : BV w a n zs) (hc : n ≤ c) (hn : n ≤ 1000) :
    Calls Tryz.prog 74 #[.slice a n c] w fun e w' => TakeS w w' zs e := by
  have HZ := Lib.hid hv.2.1
  have HLZ := Lib.hid hv.1
  have t2 := (Bk.new w nil4 24).alloc (.cells #[] 3)
  have ho := OS.lit (k := 1) (w.alloc (.cells nil4 24)) (w.heap.size + 1) (by simp) (icells []) 0 3 rfl (icells_one _) (by simp) (w.heap.size + 1) (by simp)
  have hb0 : Below w.heap.size w ((w.alloc (.cells nil4 24)).alloc (.cells #[] 3)) := Joins.below_alloc2 _ _ _
  go_enter Tryz.func74, Tryz.ntmps74
  go_wp2_with fail
  go_loopw [4, 5] (fun o i wr => ∃ (l : List Int) (j M : Nat) (aL : Option Addr) (cL : Nat), j ≤ n ∧ M ≤ j ∧ i = .int .i64 (j : Int) ∧ o = .slice aL M cL ∧ OS 1 wr (w.heap.size + 1) (.slice aL M cL) M (icells l) ∧ Hid (zs = joinN l ++ zs.drop j) ∧ Hid (Small l) ∧ Bk wr w.heap.size nil4 24 ∧ Below w.heap.size w wr) (fun _ i _ => n - (intOf i).toNat)
  case atStart => exact ⟨[], 0, 0, _, _, by omega, by omega, rfl, rfl, ho, Lib.hid rfl, Lib.hid (fun x hx => by cases hx), t2, hb0⟩
  case round =>
    clear ho t2 hb0
    obtain ⟨l, j, M, aL, cL, hj, hMj, rfl, rfl, ho, HJ, HS, t2, hb⟩ := hrel
    have hvr := hv.below hb
    have hlM := Lib.hid (show l.length = M by have := ho.1; simpa [icells] using this)
    by_cases hlt : j < n
    · have hji : (j : Int) < (n : Int) := by omega
      have hcj : ¬ c = j := by omega
      have hcut := hvr.cutA j c hj hc
      rw [if_neg hcj] at hcut
      have hrn : zs.drop j ≠ [] := fun h => by
        have := congrArg List.length h
        rw [List.length_drop, HLZ.out] at this
        simp at this; omega
      have HR := Lib.hid hrn
      have hbd := varR_bd (zs.drop j) hcut.2.1
      have hbk := Lib.hid (varR_back (zs.drop j) hcut.2.1)
      have hjc : j ≤ c := by omega
      clear hrn
      rw [List.length_drop, HLZ.out] at hbd
      obtain ⟨x, hx⟩ : ∃ x, (varR (zs.drop j)).1 = x := ⟨_, rfl⟩
      obtain ⟨s, hs⟩ : ∃ s : Nat, (varR (zs.drop j)).2 = (s : Int) := ⟨(varR (zs.drop j)).2.toNat, by omega⟩
      have HX := Lib.hid hx
      have HSS := Lib.hid hs
      go_wp2_with fail
      refine (rvar_any _ (n - j) (c - j) _ _ hcut (by omega)).mono ?_
      rw [hx, hs] at hbd ⊢
      clear hx hs
      rintro e w1 ⟨rfl, hb1⟩
      replace t2 := t2.below hb1
      replace ho := ho.below hb1
      replace hb := Below.then hb hb1
      clear hb1 hcut hvr
      by_cases h0 : s = 0
      · have HN := Lib.hid (stop_no HJ.out HS.out HR.out (.inl (by rw [HSS.out, h0]; rfl)))
        subst h0
        obtain ⟨d0, d1, d2, d3⟩ := t2.sx
        have f0 := t2.free 0
        have f1 := t2.free 1
        have f2 := t2.free 2
        have f3 := t2.free 3
        go_wp2_with fail
        refine bodyPost_ret (res_ss2 rfl _ _ rfl (t2.put4 (.slice none 0 0) (.int .i64 0) (.int .i64 0) (.int .i64 0)).sx) rfl (.inr ⟨rfl, HN.out, ?_⟩)
        exact (((hb.setCell (by simp) _).setCell (by simp) _).setCell (by simp) _).setCell (by simp) _
      · obtain ⟨y, rest, hr1, hy0, hy1, hvv⟩ := hbk.out (by rw [HSS.out]; omega)
        have hyx : y = x := by rw [← HX.out, hvv]
        subst hyx
        have hsl : s = (pv y).length := by have := HSS.out; rw [hvv] at this; simp only [] at this; omega
        have HRR := Lib.hid hr1
        have HSL := Lib.hid hsl
        clear hr1 hvv hsl hbk
        have h0' : ((s : Int) == 0) = false := by rw [beq_eq_false_iff_ne]; omega
        by_cases h1000 : y ≤ 1000
        · have hwy : IntKind.i64.wrap y = y := by rw [IntKind.wrap_i64]; omega
          have hws : IntKind.i64.wrap ((j : Int) + (s : Int)) = (j : Int) + (s : Int) := by rw [IntKind.wrap_i64]; omega
          have hsz := t2.lt
          go_wp2_with (refine append_os el_ints rfl (.tmp 29) (.tmp 32) rfl (w.heap.size + 1) _ M _ rfl (ho.alloc _) _ 1 1 (icells [y]) rfl (SV.lit' (k := 1) _ (icells [y]) 1 3 rfl (icells_one _) _ rfl) (by omega) (by omega) (by simp; omega) ?_; intro v2 w2 ho2 hb2; obtain ⟨a3, c3, rfl⟩ := ho2.shape)
          have t3 := (t2.alloc (.cells #[.int .i64 y] 3)).low hb2 (by omega)
          have hw2 : Below w.heap.size w w2 := (hb.alloc (by omega) _).trans (hb2.mono (by omega))
          rw [← icells_app] at ho2
          go_roundw
          case rel =>
            refine ⟨l ++ [y], j + s, M + 1, a3, c3, by omega, by omega, by simp, rfl, ho2, Lib.hid ?_, Lib.hid ?_, t3, hw2⟩
            · rw [joinN_app, joinN_one, List.append_assoc]
              have e1 : zs.drop j = pv y ++ zs.drop (j + s) := by
                rw [← List.drop_drop, HRR.out, HSL.out]; simp
              rw [← e1]; exact HJ.out
            · intro z hz
              rcases List.mem_append.1 hz with hz | hz
              · exact HS.out z hz
              · simp at hz; omega
          case measure => simp [intOf]; omega
        · have HN := Lib.hid (stop_no HJ.out HS.out HR.out (.inr (by rw [HX.out]; omega)))
          obtain ⟨d0, d1, d2, d3⟩ := t2.sx
          have f0 := t2.free 0
          have f1 := t2.free 1
          have f2 := t2.free 2
          have f3 := t2.free 3
          go_wp2_with fail
          refine bodyPost_ret (res_ss2 rfl _ _ rfl (t2.put4 (.slice none 0 0) (.int .i64 0) (.int .i64 0) (.int .i64 0)).sx) rfl (.inr ⟨rfl, HN.out, ?_⟩)
          exact (((hb.setCell (by simp) _).setCell (by simp) _).setCell (by simp) _).setCell (by simp) _
    · obtain rfl : j = n := by omega
      have HE : Hid (zs = joinN l) := Lib.hid (by
        have := HJ.out
        rwa [List.drop_eq_nil_of_le (by rw [HLZ.out]; exact Nat.le_refl _), List.append_nil] at this)
      obtain ⟨_, _, hA, hcl, hml, hiv, -⟩ := ho.sv
      cases hA
      by_cases h4 : M < 4
      · have HN := Lib.hid (list_no HE.out HS.out (fun ts k m g hck h => by
          have := congrArg List.length h
          rw [hlM.out] at this
          simp [schemaN] at this; omega))
        have h4i : (M : Int) < 4 := by omega
        obtain ⟨d0, d1, d2, d3⟩ := t2.sx
        have f0 := t2.free 0
        have f1 := t2.free 1
        have f2 := t2.free 2
        have f3 := t2.free 3
        go_wp2_with fail
        refine bodyPost_ret (res_ss2 rfl _ _ rfl (t2.put4 (.slice none 0 0) (.int .i64 0) (.int .i64 0) (.int .i64 0)).sx) rfl (.inr ⟨rfl, HN.out, ?_⟩)
        exact (((hb.setCell (by simp) _).setCell (by simp) _).setCell (by simp) _).setCell (by simp) _
      · obtain ⟨gl, _, hA, hgl, -, -, cells, -, -⟩ := ho.own (by omega)
        cases hA
        have atl : ∀ i, i < M → wr.cell? ⟨gl, i, none⟩ = some (.int .i64 (l.getD i 0)) := fun i hi => by
          have h1 : i < l.length := by rw [hlM.out]; exact hi
          refine cells i _ ?_
          simp [icells, List.getD, h1]
        have sml : ∀ i, i < M → 0 ≤ l.getD i 0 ∧ l.getD i 0 ≤ 1000 := fun i hi => by
          have h1 : i < l.length := by rw [hlM.out]; exact hi
          have := HS.out _ (List.getElem_mem h1)
          simpa [List.getD, h1] using this
        have AT := Lib.hid atl
        have SM := Lib.hid sml
        clear atl sml cells
        have e0 := AT.out 0 (by omega)
        have k0b := SM.out 0 (by omega)
        obtain ⟨kk, hkk⟩ : ∃ kk : Nat, l.getD 0 0 = (kk : Int) := ⟨(l.getD 0 0).toNat, by omega⟩
        rw [hkk] at e0 k0b
        have HK0 := Lib.hid hkk
        clear hkk
        have hM4 : (4 : Int) ≤ (M : Int) := by omega
        have hM0 : (0 : Int) < (M : Int) := by omega
        by_cases hM : M = kk + 4
        · have HL := Lib.hid (list_schema (l := l) (kk := kk) (by rw [hlM.out, hM]) HK0.out)
          have e1 := AT.out (1 + kk) (by omega)
          have e2 := AT.out (2 + kk) (by omega)
          have e3 := AT.out (3 + kk) (by omega)
          have r1 := SM.out (1 + kk) (by omega)
          have r2 := SM.out (2 + kk) (by omega)
          have r3 := SM.out (3 + kk) (by omega)
          have hcutv := IV.cut hiv 1 kk (by omega)
          obtain ⟨x1, hx1⟩ : ∃ x, l.getD (1 + kk) 0 = x := ⟨_, rfl⟩
          obtain ⟨x2, hx2⟩ : ∃ x, l.getD (2 + kk) 0 = x := ⟨_, rfl⟩
          obtain ⟨x3, hx3⟩ : ∃ x, l.getD (3 + kk) 0 = x := ⟨_, rfl⟩
          obtain ⟨ts, hts⟩ : ∃ ts, (l.drop 1).take kk = ts := ⟨_, rfl⟩
          rw [hx1] at e1 HL
          rw [hx2] at e2 HL
          rw [hx3] at e3 HL
          rw [hts] at HL hcutv
          clear hx1 hx2 hx3 hts
          subst hM
          have hc1 : ¬ cL = 1 := by omega
          obtain ⟨k1, hk1⟩ : ∃ k1, 1 + kk = k1 := ⟨_, rfl⟩
          obtain ⟨k2, hk2⟩ : ∃ k2, 2 + kk = k2 := ⟨_, rfl⟩
          obtain ⟨k3, hk3⟩ : ∃ k3, 3 + kk = k3 := ⟨_, rfl⟩
          rw [hk1] at e1
          rw [hk2] at e2
          rw [hk3] at e3
          rw [show kk = k1 - 1 by omega] at hcutv
          have w1 : IntKind.i64.wrap (1 + (kk : Int)) = (k1 : Int) := by rw [IntKind.wrap_i64]; omega
          have w2 : IntKind.i64.wrap (2 + (kk : Int)) = (k2 : Int) := by rw [IntKind.wrap_i64]; omega
          have w3 : IntKind.i64.wrap (3 + (kk : Int)) = (k3 : Int) := by rw [IntKind.wrap_i64]; omega
          have b1 : (k1 : Int) < (kk : Int) + 4 := by omega
          have b2 : (k2 : Int) < (kk : Int) + 4 := by omega
          have b3 : (k3 : Int) < (kk : Int) + 4 := by omega
          have b4 : (k1 : Int) ≤ (cL : Int) := by omega
          have b5 : (1 : Int) ≤ (k1 : Int) := by omega
          have b6 : 1 ≤ k1 := by omega
          have b7 : k1 ≤ cL := by omega
          have HK1 := Lib.hid hk1
          clear hk1 hk2 hk3
          go_wp2_with fail
          refine wp_region_noPanic ?_
          refine region_g 21 (Ext (World.drew _)) (by kernel_rfl) (Ext.refl _) (fun hS => ?_)
          refine take_w (i := 0) (v := ?_) (some 53) rfl (by kernel_rfl) rfl (fun _ _ _ h => h) (Or.inl ⟨by rfl, ?_⟩) hS ?_
          rotate_left
          · (intro wq hq; go_simp); first | done | with_reducible rfl
          try simp only [Act.put, List.setIfInBounds_toArray, List.set_cons_zero, List.set_cons_succ]
          replace hS := Till.list 0 hS
          refine take_w (i := 1) (v := ?_) (some 54) rfl (by kernel_rfl) rfl (fun _ _ _ h => h) (Or.inl ⟨by rfl, ?_⟩) hS ?_
          rotate_left
          · (intro wq hq; go_simp); first | done | with_reducible rfl
          try simp only [Act.put, List.setIfInBounds_toArray, List.set_cons_zero, List.set_cons_succ]
          replace hS := Till.list 1 hS
          refine take_w (i := 4) (v := ?_) (some 57) rfl (by kernel_rfl) rfl (fun _ _ _ h => h) (Or.inl ⟨by rfl, ?_⟩) hS ?_
          rotate_left
          · (intro wq hq; go_simp); first | done | with_reducible rfl
          try simp only [Act.put, List.setIfInBounds_toArray, List.set_cons_zero, List.set_cons_succ]
          replace hS := Till.list 4 hS
          refine take_w (i := 5) (v := ?_) (some 58) rfl (by kernel_rfl) rfl (fun _ _ _ h => h) (Or.inl ⟨by rfl, ?_⟩) hS ?_
          rotate_left
          · (intro wq hq; go_simp); first | done | with_reducible rfl
          try simp only [Act.put, List.setIfInBounds_toArray, List.set_cons_zero, List.set_cons_succ]
          replace hS := Till.list 5 hS
          refine take_w (i := 9) (v := ?_) (some 62) rfl (by kernel_rfl) rfl (fun _ _ _ h => h) (Or.inl ⟨by rfl, ?_⟩) hS ?_
          rotate_left
          · (intro wq hq; go_simp); first | done | with_reducible rfl
          try simp only [Act.put, List.setIfInBounds_toArray, List.set_cons_zero, List.set_cons_succ]
          replace hS := Till.list 9 hS
          refine take_w (i := 10) (v := ?_) (some 63) rfl (by kernel_rfl) rfl (fun _ _ _ h => h) (Or.inl ⟨by rfl, ?_⟩) hS ?_
          rotate_left
          · (intro wq hq; go_simp); first | done | with_reducible rfl
          try simp only [Act.put, List.setIfInBounds_toArray, List.set_cons_zero, List.set_cons_succ]
          replace hS := Till.list 10 hS
          refine take_w (i := 14) (v := ?_) (some 67) rfl (by kernel_rfl) rfl (fun _ _ _ h => h) (Or.inl ⟨by rfl, ?_⟩) hS ?_
          rotate_left
          · (intro wq hq; go_simp); first | done | with_reducible rfl
          try simp only [Act.put, List.setIfInBounds_toArray, List.set_cons_zero, List.set_cons_succ]
          replace hS := Till.list 14 hS
          refine take_w (i := 15) (v := ?_) (some 68) rfl (by kernel_rfl) rfl (fun _ _ _ h => h) (Or.inl ⟨by rfl, ?_⟩) hS ?_
          rotate_left
          · (intro wq hq; go_simp); first | done | with_reducible rfl
          try simp only [Act.put, List.setIfInBounds_toArray, List.set_cons_zero, List.set_cons_succ]
          replace hS := Till.list 15 hS
          refine take_w (i := 2) (v := ?_) (some 55) rfl (by kernel_rfl) rfl (fun _ _ _ h => h) (Or.inl ⟨by rfl, ?_⟩) hS ?_
          rotate_left
          · (intro wq hq; go_simp); first | done | with_reducible rfl
          try simp only [Act.put, List.setIfInBounds_toArray, List.set_cons_zero, List.set_cons_succ]
          replace hS := Till.list 2 hS
          refine take_w (i := 6) (v := ?_) (some 59) rfl (by kernel_rfl) rfl (fun _ _ _ h => h) (Or.inl ⟨by rfl, ?_⟩) hS ?_
          rotate_left
          · (intro wq hq; go_simp); first | done | with_reducible rfl
          try simp only [Act.put, List.setIfInBounds_toArray, List.set_cons_zero, List.set_cons_succ]
          replace hS := Till.list 6 hS
          refine take_w (i := 11) (v := ?_) (some 64) rfl (by kernel_rfl) rfl (fun _ _ _ h => h) (Or.inl ⟨by rfl, ?_⟩) hS ?_
          rotate_left
          · (intro wq hq; go_simp); first | done | with_reducible rfl
          try simp only [Act.put, List.setIfInBounds_toArray, List.set_cons_zero, List.set_cons_succ]
          replace hS := Till.list 11 hS
          refine take_w (i := 16) (v := ?_) (some 69) rfl (by kernel_rfl) rfl (fun _ _ _ h => h) (Or.inl ⟨by rfl, ?_⟩) hS ?_
          rotate_left
          · (intro wq hq; go_simp); first | done | with_reducible rfl
          try simp only [Act.put, List.setIfInBounds_toArray, List.set_cons_zero, List.set_cons_succ]
          replace hS := Till.list 16 hS
          refine take_w (i := 3) (v := ?_) (some 56) rfl (by kernel_rfl) rfl (fun _ _ _ h => h) (Or.inl ⟨by rfl, ?_⟩) hS ?_
          rotate_left
          · (intro wq hq; go_simp); first | done | with_reducible rfl
          try simp only [Act.put, List.setIfInBounds_toArray, List.set_cons_zero, List.set_cons_succ]
          replace hS := Till.list 3 hS
          refine take_w (i := 7) (v := ?_) (some 60) rfl (by kernel_rfl) rfl (fun _ _ _ h => h) (Or.inl ⟨by rfl, ?_⟩) hS ?_
          rotate_left
          · (intro wq hq; go_simp); first | done | with_reducible rfl
          try simp only [Act.put, List.setIfInBounds_toArray, List.set_cons_zero, List.set_cons_succ]
          replace hS := Till.list 7 hS
          refine take_w (i := 12) (v := ?_) (some 65) rfl (by kernel_rfl) rfl (fun _ _ _ h => h) (Or.inl ⟨by rfl, ?_⟩) hS ?_
          rotate_left
          · (intro wq hq; go_simp); first | done | with_reducible rfl
          try simp only [Act.put, List.setIfInBounds_toArray, List.set_cons_zero, List.set_cons_succ]
          replace hS := Till.list 12 hS
          refine take_w (i := 17) (v := ?_) (some 70) rfl (by kernel_rfl) rfl (fun _ _ _ h => h) (Or.inl ⟨by rfl, ?_⟩) hS ?_
          rotate_left
          · (intro wq hq; go_simp); first | done | with_reducible rfl
          try simp only [Act.put, List.setIfInBounds_toArray, List.set_cons_zero, List.set_cons_succ]
          replace hS := Till.list 17 hS
          refine take_g (i := 8) (v := ?_) [8] (some 61) rfl (by kernel_rfl) rfl (fun _ _ _ h => h) (Or.inl ⟨by rfl, ?_⟩) hS ?_
          rotate_left
          · (intro wq hq; have q0 := hq _ _ _ e1; have q1 := hq _ _ _ e2; have q2 := hq _ _ _ e3; go_simp); first | done | with_reducible rfl
          try simp only [Act.put, List.setIfInBounds_toArray, List.set_cons_zero, List.set_cons_succ]
          replace hS := Till.list 8 hS
          refine take_g (i := 13) (v := ?_) [13] (some 66) rfl (by kernel_rfl) rfl (fun _ _ _ h => h) (Or.inl ⟨by rfl, ?_⟩) hS ?_
          rotate_left
          · (intro wq hq; have q0 := hq _ _ _ e1; have q1 := hq _ _ _ e2; have q2 := hq _ _ _ e3; go_simp); first | done | with_reducible rfl
          try simp only [Act.put, List.setIfInBounds_toArray, List.set_cons_zero, List.set_cons_succ]
          replace hS := Till.list 13 hS
          refine take_g (i := 18) (v := ?_) [18] (some 71) rfl (by kernel_rfl) rfl (fun _ _ _ h => h) (Or.inl ⟨by rfl, ?_⟩) hS ?_
          rotate_left
          · (intro wq hq; have q0 := hq _ _ _ e1; have q1 := hq _ _ _ e2; have q2 := hq _ _ _ e3; go_simp); first | done | with_reducible rfl
          try simp only [Act.put, List.setIfInBounds_toArray, List.set_cons_zero, List.set_cons_succ]
          replace hS := Till.list 18 hS
          refine take_w (i := 19) (v := ?_) (some 72) rfl (by kernel_rfl) rfl (fun _ _ _ h => h) (Or.inl ⟨by rfl, ?_⟩) hS ?_
          rotate_left
          · (intro wq hq; go_simp); first | done | with_reducible rfl
          try simp only [Act.put, List.setIfInBounds_toArray, List.set_cons_zero, List.set_cons_succ]
          replace hS := Till.list 19 hS
          refine ready_g (rs := [20]) (by kernel_rfl) (by simp) ?_
          refine AllReadyG.cons rfl (fun Kont hK => ?_) AllReadyG.nil
          go_simp
          refine hK.out _ _ (Or.inr ((hS.get (by kernel_rfl)).alloc _)) (fun hS0 => ?_)
          clear hK Kont
          try simp only [Act.put, List.setIfInBounds_toArray, List.set_cons_zero, List.set_cons_succ]
          clear hS
          have hS := hS0
          clear hS0
          refine ready_g (rs := [21]) (by kernel_rfl) (by simp) ?_
          refine AllReadyG.cons rfl (fun Kont hK => ?_) AllReadyG.nil
          go_simp
          refine hK.out _ _ (Or.inl (by kernel_rfl)) (fun hS0 => ?_)
          clear hK Kont
          try simp only [Act.put, List.setIfInBounds_toArray, List.set_cons_zero, List.set_cons_succ]
          clear hS
          have hS := hS0
          clear hS0
          refine done_g (by kernel_rfl) (NoPanic.normal ?_) _
          clear hS
          have HB7 := Lib.hid b7
          clear e1 e2 e3 w1 w2 w3 b1 b2 b3 b4 b5 b6 b7
          have hlt9 : w.heap.size < wr.heap.size := t2.lt
          have t9 := (Bk.new wr #[.slice (some ⟨gl, 1, none⟩) (k1 - 1) (cL - 1), .int .i64 x1, .int .i64 x2, .int .i64 x3] 24).drew
          have hcv := (hcutv.alloc (.cells #[.slice (some ⟨gl, 1, none⟩) (k1 - 1) (cL - 1), .int .i64 x1, .int .i64 x2, .int .i64 x3] 24)).drew
          replace t2 := (t2.alloc (.cells #[.slice (some ⟨gl, 1, none⟩) (k1 - 1) (cL - 1), .int .i64 x1, .int .i64 x2, .int .i64 x3] 24)).drew
          replace hb := (hb.alloc hb.size (.cells #[.slice (some ⟨gl, 1, none⟩) (k1 - 1) (cL - 1), .int .i64 x1, .int .i64 x2, .int .i64 x3] 24)).drew
          obtain ⟨s0, s1, s2, s3⟩ := t9.sx
          generalize wr.heap.size = b9 at *
          generalize (wr.alloc (.cells #[.slice (some ⟨gl, 1, none⟩) (k1 - 1) (cL - 1), .int .i64 x1, .int .i64 x2, .int .i64 x3] 24)).drew = w5 at *
          go_wp2_with fail
          refine (rcheck_any (some ⟨gl, 1, none⟩) (k1 - 1) (cL - 1) ts x1 x2 x3 _ hcv (few_max' (by have := HK1.out; omega))).mono ?_
          rintro e w6 ⟨rfl, hb6⟩
          replace t2 := t2.below hb6
          replace t9 := t9.below hb6
          replace hcv := hcv.below hb6
          replace hb := Below.then hb hb6
          clear hb6 s0 s1 s2 s3 hcutv
          cases hck : checkB ts x1 x2 x3
          · rw [show chkE ts x1 x2 x3 = 20 from by rw [chkE, hck]; rfl]
            have HN := Lib.hid (list_no HE.out HS.out (fun us k m g hc' h => by
              rw [HL.out] at h
              obtain ⟨rfl, rfl, rfl, rfl⟩ := schemaN_inj h
              rw [hck] at hc'; cases hc'))
            clear hck
            obtain ⟨d0, d1, d2, d3⟩ := t2.sx
            have f0 := t2.free 0
            have f1 := t2.free 1
            have f2 := t2.free 2
            have f3 := t2.free 3
            go_wp2_with fail
            refine bodyPost_ret (res_ss2 rfl _ _ rfl (t2.put4 (.slice none 0 0) (.int .i64 0) (.int .i64 0) (.int .i64 0)).sx) rfl (.inr ⟨rfl, HN.out, ?_⟩)
            exact (((hb.setCell (by simp) _).setCell (by simp) _).setCell (by simp) _).setCell (by simp) _
          · rw [show chkE ts x1 x2 x3 = 0 from by rw [chkE, hck]; rfl]
            have HP : Hid (putS ts x1 x2 x3 = zs) := Lib.hid (by rw [HE.out, HL.out]; rfl)
            have HCK := Lib.hid hck
            clear hck
            obtain ⟨s0, s1, s2, s3⟩ := t9.sx
            obtain ⟨d0, d1, d2, d3⟩ := t2.sx
            have f0 := t2.free 0
            have f1 := t2.free 1
            have f2 := t2.free 2
            have f3 := t2.free 3
            have hgw : gl ≠ w.heap.size := by omega
            go_wp2_with fail
            refine bodyPost_ret (res_ss2 rfl _ _ rfl (t2.put4 (.slice (some ⟨gl, 1, none⟩) (k1 - 1) (cL - 1)) (.int .i64 x1) (.int .i64 x2) (.int .i64 x3)).sx) rfl (.inl ⟨_, _, _, ts, x1, x2, x3, rfl, by have := HB7.out; omega, HCK.out, HP.out, ?_, ?_⟩)
            · exact (((SV.set hcv (fun x hx => by cases hx; exact hgw) _).set (fun x hx => by cases hx; exact hgw) _).set (fun x hx => by cases hx; exact hgw) _).set (fun x hx => by cases hx; exact hgw) _
            · exact (((hb.setCell (by simp) _).setCell (by simp) _).setCell (by simp) _).setCell (by simp) _
        · have HN := Lib.hid (list_no HE.out HS.out (fun ts k m g hck h => hM (by
            have h1 := congrArg List.length h
            have h2 := HK0.out
            rw [hlM.out] at h1
            rw [h] at h2
            simp [schemaN] at h1 h2; omega)))
          have hMi : ((M : Int) != (kk : Int) + 4) = true := by rw [bne_iff_ne]; omega
          obtain ⟨d0, d1, d2, d3⟩ := t2.sx
          have f0 := t2.free 0
          have f1 := t2.free 1
          have f2 := t2.free 2
          have f3 := t2.free 3
          go_wp2_with fail
          refine bodyPost_ret (res_ss2 rfl _ _ rfl (t2.put4 (.slice none 0 0) (.int .i64 0) (.int .i64 0) (.int .i64 0)).sx) rfl (.inr ⟨rfl, HN.out, ?_⟩)
          exact (((hb.setCell (by simp) _).setCell (by simp) _).setCell (by simp) _).setCell (by simp) _
end Go.Proofs.YtbfihajgjbpmaaaGreat
