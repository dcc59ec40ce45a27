/- Texts that belong together, one behind the other: D8a, D8b, D8c, D8d. -/
import Derived.Test.YtlagmjdldplblaaDiskB
import Derived.Great.Walk
/- Contracts of package disk: changes of names. -/
namespace Go.Proofs.Ytlagmjdldplblaa
open Go.ChangeShapes Go.WideShapes Go.ChangeAt Go.RowKit Go.WideMaps Go.Maps
set_option linter.unusedVariables false
set_option maxRecDepth 4000

theorem done_toCh {l : List Nm8} (hno : ∀ n ∈ l, n.1 ≠ noN) (c : PC8) : doneN l (toCh c) = if c.to = noN then withoutN l c.frm else withN (withoutN l c.frm) (c.to, c.f) := by
  have h1 : goneN l (toCh c).frm = withoutN l c.frm := by
    unfold toCh
    by_cases e : c.frm = noN
    · simp only [e, if_true, goneN]
      exact (withoutN_all hno).symm
    · simp only [e, if_false, goneN]
  unfold doneN
  rw [h1]
  unfold toCh
  by_cases e : c.to = noN
  · simp only [e, if_true, putN]
  · simp only [e, if_false, putN]
theorem withoutN_ne {l : List Nm8} (hno : ∀ n ∈ l, n.1 ≠ noN) (s : ByteArray) : ∀ n ∈ withoutN l s, n.1 ≠ noN := fun n hn => hno n (withoutN_mem.1 hn).1
set_option maxHeartbeats 1000000 in
theorem do_any (og : Nat → Or8) (c : PC8) (b : Nat) (l : List Nm8) (w : World) (hm : w.ownsMap Try.prog 9 eO b l.length (nmD og l)) (hl : l.length ≤ 2000) (hs1 : c.frm.size ≤ 1000) (hs2 : c.to.size ≤ 1000) (hno : ∀ n ∈ l, n.1 ≠ noN) :
    Calls Try.prog 69 #[.agg #[.string c.frm, .string c.to, .int .i64 (og c.f).1, .string (og c.f).2], .map (some b)] w fun e w' =>
      e = .returned (.tuple #[]) ∧ w'.ownsMap Try.prog 9 eO b (doneN l (toCh c)).length (nmD og (doneN l (toCh c))) ∧ Kp (fun x => x = b) w w' := by
  have HD := Lib.hid (done_toCh hno c)
  have hlt := hm.lt
  have hk1 : Kp (fun x => x = b) w (w.alloc (.cells #[.string c.frm, .string c.to, .int .i64 (og c.f).1, .string (og c.f).2] 97)) := (Kp.refl _ w).alloc _
  have hB := Bk.new w #[.string c.frm, .string c.to, .int .i64 (og c.f).1, .string (og c.f).2] 97
  have hm1 := hm.alloc (.cells #[.string c.frm, .string c.to, .int .i64 (og c.f).1, .string (og c.f).2] 97)
  have c0 := hB.cell 0 (v := .string c.frm) rfl
  have hkn : keyOf Try.prog 9 (.string c.frm) = some (kN c.frm) := keyN (by unfold maxLen; omega)
  obtain ⟨w2, hrun, hm2, ht2⟩ := hm1.drop law8N Try.underlying67 hkn 0
  rw [nm_del] at hm2
  have hk2 := hk1.turned ht2 (.inl rfl)
  have hne : w.heap.size ≠ b := by omega
  have hB2 : Bk w2 w.heap.size #[.string c.frm, .string c.to, .int .i64 (og c.f).1, .string (og c.f).2] 97 := (ht2.grown.block _ (by simp) (fun e => hne (Option.some.inj e))).trans hB
  have d1 := hB2.cell 1 (v := .string c.to) rfl
  have hK := Lib.hid hk2
  clear hm hm1 hk1 hk2 ht2
  by_cases ht : c.to = noN
  · have hse : c.to.toList.isEmpty = true := by rw [ht, ByteArray.toList_eq]; rfl
    have HT := Lib.hid ht
    clear ht
    go_enter Try.func69, Try.ntmps69
    go_wp2_with fail
    (try simp only [Exit.inBlock, Exit.then])
    refine Great.bodyPost_end0 rfl rfl ?_
    refine ⟨rfl, ?_, hK.out⟩
    rw [HD.out, if_pos HT.out]
    exact ownsMap_len hm2
  · have hse : c.to.toList.isEmpty = false := by
      rw [List.isEmpty_eq_false_iff]; exact fun e => ht (toList_inj (e.trans (by rw [ByteArray.toList_eq])))
    have d2 := hB2.cell 2 (v := .int .i64 (og c.f).1) rfl
    have d3 := hB2.cell 3 (v := .string (og c.f).2) rfl
    go_enter Try.func69, Try.ntmps69
    obtain ⟨w3, hrun3, hm3, hg3⟩ := hm2.update law8N Try.underlying67 (by unfold maxLen; omega) (keyN (s := c.to) (by unfold maxLen; omega)) (eO_mk (og c.f))
    rw [nm_put] at hm3
    unfold oV at hrun3
    go_wp2_with fail
    (try simp only [Exit.inBlock, Exit.then])
    refine Great.bodyPost_end0 rfl rfl ?_
    refine ⟨rfl, ?_, hK.out.grown hg3 (fun j hj => by cases hj; exact .inl rfl)⟩
    rw [HD.out, if_neg ht]
    exact ownsMap_len hm3
def oV' (o : Or8) : Value := .agg #[.int .i64 o.1, .string o.2]
theorem el_chs : El 68 97 4 56 (.agg #[.string noN, .string noN, .int .i64 0, .string noN]) := ⟨Try.underlying68, by kernel_rfl, rfl, by omega⟩
theorem chV_one (og : Nat → Or8) (c : PC8) : ∀ u ∈ chV og c, u.oneCell' = true := by
  intro u hu
  simp only [chV, List.mem_cons, List.not_mem_nil, or_false] at hu
  rcases hu with rfl | rfl | rfl | rfl <;> rfl
theorem chCells_snoc (og : Nat → Or8) (l : List PC8) (c : PC8) : chCells og (l ++ [c]) = chCells og l ++ chV og c := by simp [chCells]
theorem okN_ne {s : ByteArray} (h : okName s = true) : s ≠ noN := by
  rintro rfl
  revert h; decide
theorem okN_le {s : ByteArray} (h : okName s = true) : s.size ≤ 20 := by
  unfold okName at h
  exact (of_decide_eq_true h).2
set_option maxHeartbeats 2000000 in
theorem change_any (g : G8) (k : Nat) (w : World) (F : Nat → Prop) (p : Nat) (M : DK) (hk : k ≤ 1000) (hF : ∀ b, w.heap.size ≤ b → F b) (h : DD g k w F p M) (c : PC8) (hc : g.lv c.f) (hok : Ok7 (changeD M (toCh c))) (hfr : c.frm = noN ∨ okName c.frm = true) (hto : c.to = noN ∨ okName c.to = true) :
    Calls Try.prog 77 #[.pointer (some ⟨p, 0, none⟩), .string c.frm, .string c.to, .agg #[.int .i64 (g.og c.f).1, .string (g.og c.f).2]] w fun e w' =>
      e = .returned (.tuple #[]) ∧ (∃ g', DD g' (k + 1) w' F p (changeD M (toCh c))) ∧ Kp F w w' := by
  have hB := h.blk
  have c2 := hB.cell 2 (v := .map (some g.bN)) rfl
  have c4 := hB.cell 4 (v := g.ch) rfl
  have hs1 : c.frm.size ≤ 1000 := by rcases hfr with e | e; rw [e]; decide; have := okN_le e; omega
  have hs2 : c.to.size ≤ 1000 := by rcases hto with e | e; rw [e]; decide; have := okN_le e; omega
  have hno : ∀ n ∈ M.names, n.1 ≠ noN := fun n hn => okN_ne (h.pl.names n hn)
  have hpl := h.blk.lt
  have hNl := h.names.1.lt
  have hnlen : M.names.length ≤ 1000 := by have := h.pl.nl; omega
  have hplen : g.pc.length ≤ 1000 := by
    have h2 := h.pl.kc
    have h3 := congrArg List.length h.chs.1
    simp only [List.length_map] at h3
    omega
  go_enter Try.func77, Try.ntmps77
  go_wp2_with fail
  have hK1 : Kp F w ((w.alloc (.cells #[.int .i64 (g.og c.f).1, .string (g.og c.f).2] 83)).alloc (.cells #[.string c.frm, .string c.to, .int .i64 (g.og c.f).1, .string (g.og c.f).2] 97)).drew := (((Kp.refl F w).alloc _).alloc _).drew
  have hO1 : Old w ((w.alloc (.cells #[.int .i64 (g.og c.f).1, .string (g.og c.f).2] 83)).alloc (.cells #[.string c.frm, .string c.to, .int .i64 (g.og c.f).1, .string (g.og c.f).2] 97)).drew := (((Old.refl w).alloc _).alloc _).drew
  have hN := Bk.new (w.alloc (.cells #[.int .i64 (g.og c.f).1, .string (g.og c.f).2] 83)) #[.string c.frm, .string c.to, .int .i64 (g.og c.f).1, .string (g.og c.f).2] 97
  rw [show (w.alloc (.cells #[.int .i64 (g.og c.f).1, .string (g.og c.f).2] 83)).heap.size = w.heap.size + 1 by simp] at hN
  have hS1 : w.heap.size + 1 < ((w.alloc (.cells #[.int .i64 (g.og c.f).1, .string (g.og c.f).2] 83)).alloc (.cells #[.string c.frm, .string c.to, .int .i64 (g.og c.f).1, .string (g.og c.f).2] 97)).heap.size := by simp
  generalize (w.alloc (.cells #[.int .i64 (g.og c.f).1, .string (g.og c.f).2] 83)).alloc (.cells #[.string c.frm, .string c.to, .int .i64 (g.og c.f).1, .string (g.og c.f).2] 97) = w1 at *
  have e2 := hO1.cell c2
  have d0 := hN.drew.cell 0 (v := .string c.frm) rfl
  have d1 := hN.drew.cell 1 (v := .string c.to) rfl
  have d2 := hN.drew.cell 2 (v := .int .i64 (g.og c.f).1) rfl
  have d3 := hN.drew.cell 3 (v := .string (g.og c.f).2) rfl
  refine wp_region_noPanic ?_
  refine region_g 5 (Ext (World.drew _)) (by kernel_rfl) (Ext.refl _) (fun hS => ?_)
  refine take_g (i := 0) (v := ?_) [0] (some 13) rfl (by kernel_rfl) rfl (fun _ _ _ h => h) (Or.inl ⟨by rfl, ?_⟩) hS ?_
  rotate_left
  · (intro wq hq; have q0 := hq _ _ _ e2; have q1 := hq _ _ _ d0; have q2 := hq _ _ _ d1; have q3 := hq _ _ _ d2; have q4 := hq _ _ _ d3; go_simp); first | done | with_reducible rfl
  try simp only [Act.put, List.setIfInBounds_toArray, List.set_cons_zero, List.set_cons_succ]
  replace hS := Till.list 0 hS
  refine take_w (i := 1) (v := ?_) (some 14) rfl (by kernel_rfl) rfl (fun _ _ _ h => h) (Or.inl ⟨by rfl, ?_⟩) hS ?_
  rotate_left
  · (intro wq hq; go_simp); first | done | with_reducible rfl
  try simp only [Act.put, List.setIfInBounds_toArray, List.set_cons_zero, List.set_cons_succ]
  replace hS := Till.list 1 hS
  refine take_w (i := 2) (v := ?_) (some 15) rfl (by kernel_rfl) rfl (fun _ _ _ h => h) (Or.inl ⟨by rfl, ?_⟩) hS ?_
  rotate_left
  · (intro wq hq; go_simp); first | done | with_reducible rfl
  try simp only [Act.put, List.setIfInBounds_toArray, List.set_cons_zero, List.set_cons_succ]
  replace hS := Till.list 2 hS
  refine take_w (i := 3) (v := ?_) (some 16) rfl (by kernel_rfl) rfl (fun _ _ _ h => h) (Or.inl ⟨by rfl, ?_⟩) hS ?_
  rotate_left
  · (intro wq hq; go_simp); first | done | with_reducible rfl
  try simp only [Act.put, List.setIfInBounds_toArray, List.set_cons_zero, List.set_cons_succ]
  replace hS := Till.list 3 hS
  refine take_g (i := 4) (v := ?_) [4] (some 17) rfl (by kernel_rfl) rfl (fun _ _ _ h => h) (Or.inl ⟨by rfl, ?_⟩) hS ?_
  rotate_left
  · (intro wq hq; have q0 := hq _ _ _ e2; have q1 := hq _ _ _ d0; have q2 := hq _ _ _ d1; have q3 := hq _ _ _ d2; have q4 := hq _ _ _ d3; go_simp); first | done | with_reducible rfl
  try simp only [Act.put, List.setIfInBounds_toArray, List.set_cons_zero, List.set_cons_succ]
  replace hS := Till.list 4 hS
  refine ready_g (rs := [5]) (by kernel_rfl) (by simp) ?_
  refine AllReadyG.cons rfl (fun Kont hK => ?_) AllReadyG.nil
  go_simp
  refine (do_any g.og c g.bN M.names _ ((ownsMap_same h.names.1 (hO1.block _ hNl))) (by omega) hs1 hs2 hno).mono ?_
  rintro e w2 ⟨rfl, hm2, hk2⟩
  refine hK.out _ _ (Or.inl (by kernel_rfl)) (fun hS0 => ?_)
  clear hK Kont
  try simp only [Act.put, List.setIfInBounds_toArray, List.set_cons_zero, List.set_cons_succ]
  clear hS
  have hS := hS0
  clear hS0
  refine done_g (by kernel_rfl) (NoPanic.normal ?_) _
  clear hS
  have hpN : p ≠ g.bN := fun e => by have h1 := h.foot.2; have h2 := h.names.2.2; rw [e] at h1; omega
  have hk2' : ∀ b, b < w1.heap.size → b ≠ g.bN → w2.heap[b]? = w1.heap[b]? := fun b hb hne => hk2.block b hb hne
  have hK2 := hK1.trans (hk2.mono (F' := F) (fun b _ e => by rw [e]; exact h.names.2.1))
  have hp2 : Bk w2 p _ 71 := (hk2' p (by omega) hpN).trans ((hO1.block p hpl).trans hB)
  have hN2 : Bk w2 (w.heap.size + 1) _ 97 := (hk2' _ hS1 (by omega)).trans hN
  have hch2 : OS 4 w2 0 g.ch g.pc.length (chCells g.og g.pc) := h.chv.1.same8 (fun b hb hl => (hk2' b (by omega) (fun e => by have h1 := (h.chv.2 b hb).2; have h2 := h.names.2.2; rw [e] at h1; omega)).trans (hO1.block b hl))
  have e4 := hp2.drew.cell 4 (v := g.ch) rfl
  have f4 := hp2.drew.free 4
  have d0 := hN2.drew.cell 0 (v := .string c.frm) rfl
  have d1 := hN2.drew.cell 1 (v := .string c.to) rfl
  have d2 := hN2.drew.cell 2 (v := .int .i64 (g.og c.f).1) rfl
  have d3 := hN2.drew.cell 3 (v := .string (g.og c.f).2) rfl
  have hs2w : w1.heap.size ≤ w2.heap.size := hk2.size
  obtain ⟨A, C, hsh⟩ := hch2.shape
  rw [hsh] at e4
  have hH := Lib.hid hsh
  have HH := Lib.hid h
  have HM2 := Lib.hid hm2
  clear h hB c2 c4 e2 hN hm2
  rw [hsh] at hch2
  clear hsh
  go_wp2_with fail
  have hone : SV 4 (w2.alloc (.cells #[.string c.frm, .string c.to, .int .i64 (g.og c.f).1, .string (g.og c.f).2] 97)).drew (some ⟨w2.heap.size, 0, none⟩) 1 (chV g.og c) := SV.lit (k := 4) w2 (chV g.og c) 1 97 rfl (chV_one g.og c)
  have hch3 : OS 4 (w2.alloc (.cells #[.string c.frm, .string c.to, .int .i64 (g.og c.f).1, .string (g.og c.f).2] 97)).drew 0 (.slice A g.pc.length C) g.pc.length (chCells g.og g.pc) := hch2.alloc _
  have hsz3 : (w2.alloc (.cells #[.string c.frm, .string c.to, .int .i64 (g.og c.f).1, .string (g.og c.f).2] 97)).drew.heap.size = w2.heap.size + 1 := by show (w2.heap.push _).size = _; simp
  have hO3 : Old w2 (w2.alloc (.cells #[.string c.frm, .string c.to, .int .i64 (g.og c.f).1, .string (g.og c.f).2] 97)).drew := ((Old.refl w2).alloc _).drew
  have hK3 : Kp F w (w2.alloc (.cells #[.string c.frm, .string c.to, .int .i64 (g.og c.f).1, .string (g.og c.f).2] 97)).drew := (hK2.alloc _).drew
  refine wp_region_noPanic ?_
  refine region_g 7 (Ext (World.drew _)) (by kernel_rfl) (Ext.refl _) (fun hS => ?_)
  refine take_w (i := 0) (v := ?_) (some 19) rfl (by kernel_rfl) rfl (fun _ _ _ h => h) (Or.inl ⟨by rfl, ?_⟩) hS ?_
  rotate_left
  · (intro wq hq; go_simp); first | done | with_reducible rfl
  try simp only [Act.put, List.setIfInBounds_toArray, List.set_cons_zero, List.set_cons_succ]
  replace hS := Till.list 0 hS
  refine take_w (i := 1) (v := ?_) (some 20) rfl (by kernel_rfl) rfl (fun _ _ _ h => h) (Or.inl ⟨by rfl, ?_⟩) hS ?_
  rotate_left
  · (intro wq hq; go_simp); first | done | with_reducible rfl
  try simp only [Act.put, List.setIfInBounds_toArray, List.set_cons_zero, List.set_cons_succ]
  replace hS := Till.list 1 hS
  refine take_g (i := 5) (v := ?_) [6, 5] (some 24) rfl (by kernel_rfl) rfl (fun _ _ _ h => h) (Or.inl ⟨by rfl, ?_⟩) hS ?_
  rotate_left
  · (intro wq hq; have q0 := hq _ _ _ e4; have q1 := hq _ _ _ d0; have q2 := hq _ _ _ d1; have q3 := hq _ _ _ d2; have q4 := hq _ _ _ d3; go_simp); first | done | with_reducible rfl
  try simp only [Act.put, List.setIfInBounds_toArray, List.set_cons_zero, List.set_cons_succ]
  replace hS := Till.list 5 hS
  refine take_w (i := 2) (v := ?_) (some 21) rfl (by kernel_rfl) rfl (fun _ _ _ h => h) (Or.inl ⟨by rfl, ?_⟩) hS ?_
  rotate_left
  · (intro wq hq; go_simp); first | done | with_reducible rfl
  try simp only [Act.put, List.setIfInBounds_toArray, List.set_cons_zero, List.set_cons_succ]
  replace hS := Till.list 2 hS
  refine take_w (i := 3) (v := ?_) (some 22) rfl (by kernel_rfl) rfl (fun _ _ _ h => h) (Or.inl ⟨by rfl, ?_⟩) hS ?_
  rotate_left
  · (intro wq hq; go_simp); first | done | with_reducible rfl
  try simp only [Act.put, List.setIfInBounds_toArray, List.set_cons_zero, List.set_cons_succ]
  replace hS := Till.list 3 hS
  refine take_g (i := 4) (v := ?_) [4] (some 23) rfl (by kernel_rfl) rfl (fun _ _ _ h => h) (Or.inl ⟨by rfl, ?_⟩) hS ?_
  rotate_left
  · (intro wq hq; have q0 := hq _ _ _ e4; have q1 := hq _ _ _ d0; have q2 := hq _ _ _ d1; have q3 := hq _ _ _ d2; have q4 := hq _ _ _ d3; go_simp); first | done | with_reducible rfl
  try simp only [Act.put, List.setIfInBounds_toArray, List.set_cons_zero, List.set_cons_succ]
  replace hS := Till.list 4 hS
  refine ready_g (rs := [6]) (by kernel_rfl) (by simp) ?_
  refine AllReadyG.cons rfl (fun Kont hK => ?_) AllReadyG.nil
  go_simp
  refine hK.out _ _ (Or.inr ((hS.get (by kernel_rfl)).alloc _)) (fun hS0 => ?_)
  clear hK Kont
  try simp only [Act.put, List.setIfInBounds_toArray, List.set_cons_zero, List.set_cons_succ]
  clear hS
  have hS := hS0
  clear hS0
  generalize (w2.alloc (.cells #[.string c.frm, .string c.to, .int .i64 (g.og c.f).1, .string (g.og c.f).2] 97)).drew = w3 at *
  refine ready_g (rs := [7]) (by kernel_rfl) (by simp) ?_
  refine AllReadyG.cons rfl (fun Kont hK => ?_) AllReadyG.nil
  refine want (by kernel_rfl) ?_
  refine wp_append_os2 el_chs (some 26) rfl (.tmp 23) (.tmp 25) rfl 0 (.slice A g.pc.length C) g.pc.length (chCells g.og g.pc) rfl hch3 _ 1 1 (chV g.og c) rfl hone (by omega) (by omega) (Nat.zero_le _) ?_
  intro v4 w4 ho4 hb4 ob4 hk4
  refine hK.out _ _ (Or.inl (by kernel_rfl)) (fun hS0 => ?_)
  clear hK Kont
  try simp only [Act.put, List.setIfInBounds_toArray, List.set_cons_zero, List.set_cons_succ]
  clear hS
  have hS := hS0
  clear hS0
  have hp3 : Bk w3 p _ 71 := (hO3.block p (by omega)).trans hp2
  have hpch : (Value.slice A g.pc.length C).ownBlock ≠ some p := fun e => by
    have h1 := (HH.out.chv.2 p (by rw [hH.out]; exact e)).2
    have h2 := HH.out.foot.2
    omega
  have hp4 : Bk w4 p _ 71 := (hk4 p (by omega) hpch).trans hp3
  have e4' := hp4.cell 4 (v := g.ch) rfl
  have f4' := hp4.free 4
  rw [hH.out] at e4'
  obtain ⟨A5, C5, rfl⟩ := ho4.shape
  have HK4 := Lib.hid hk4
  clear hk4
  refine take_w (i := 8) (v := ?_) (some 27) rfl (by kernel_rfl) rfl (fun _ _ _ h => h) (Or.inl ⟨by rfl, ?_⟩) hS ?_
  rotate_left
  · (intro wq hq; go_simp); first | done | with_reducible rfl
  try simp only [Act.put, List.setIfInBounds_toArray, List.set_cons_zero, List.set_cons_succ]
  replace hS := Till.list 8 hS
  refine take_w (i := 9) (v := ?_) (some 28) rfl (by kernel_rfl) rfl (fun _ _ _ h => h) (Or.inl ⟨by rfl, ?_⟩) hS ?_
  rotate_left
  · (intro wq hq; go_simp); first | done | with_reducible rfl
  try simp only [Act.put, List.setIfInBounds_toArray, List.set_cons_zero, List.set_cons_succ]
  replace hS := Till.list 9 hS
  refine ready_g (rs := [10]) (by kernel_rfl) (by simp) ?_
  refine AllReadyG.cons rfl (fun Kont hK => ?_) AllReadyG.nil
  go_simp
  refine hK.out _ _ (Or.inl (by kernel_rfl)) (fun hS0 => ?_)
  clear hK Kont
  try simp only [Act.put, List.setIfInBounds_toArray, List.set_cons_zero, List.set_cons_succ]
  clear hS
  have hS := hS0
  clear hS0
  refine done_g (by kernel_rfl) (NoPanic.normal ?_) _
  clear hS
  have hp5 : Bk (w4.setCell ⟨p, 4, none⟩ (.slice A5 (g.pc.length + 1) C5)) p (dC { g with ch := .slice A5 (g.pc.length + 1) C5 } M) 71 := hp4.set 4 _
  have hown5 : ∀ b, (Value.slice A5 (g.pc.length + 1) C5).ownBlock = some b → g.ch.ownBlock = some b ∨ (w.heap.size ≤ b ∧ F b) := by
    intro b hb
    rcases ob4 with e | e
    · exact .inl (by rw [hH.out, ← e]; exact hb)
    · rw [hb] at e
      obtain rfl : b = w3.heap.size := by simpa using e
      have := hO1.size
      exact .inr ⟨by omega, hF _ (by omega)⟩
  have hO13 : ∀ b, b < w.heap.size → w1.heap[b]? = w.heap[b]? := hO1.block
  have he5 : ∀ b, F b → b < w.heap.size → b ≠ p → b ≠ g.bN → g.ch.ownBlock ≠ some b → (w4.setCell ⟨p, 4, none⟩ (.slice A5 (g.pc.length + 1) C5)).heap[b]? = w.heap[b]? := by
    intro b h1 h2 h3 h4 h5
    rw [Below.heap_setCell _ _ _ _ h3, HK4.out b (by omega) (by rw [← hH.out]; exact h5), hO3.block b (by omega), hk2' b (by omega) h4, hO13 b h2]
  go_wp2_with fail
  (try simp only [Exit.inBlock, Exit.then])
  refine Great.bodyPost_end0 rfl rfl ?_
  have hd := HH.out.changed c hc hok hfr hto (w' := w4.setCell ⟨p, 4, none⟩ (.slice A5 (g.pc.length + 1) C5)) (v' := .slice A5 (g.pc.length + 1) C5) ?_ ?_ hp5 hown5 ?_
  · refine ⟨rfl, ⟨_, hd⟩, ?_⟩
    have hK4 : Kp F w w4 := by
      refine ⟨hb4.os.trans hK3.os, hb4.tape.trans hK3.tape, hb4.output.trans hK3.output, Nat.le_trans hK3.size hb4.size, fun b hb hn => ?_⟩
      have hne : (Value.slice A g.pc.length C).ownBlock ≠ some b := fun e => hn (HH.out.chv.2 b (by rw [hH.out]; exact e)).1
      exact (HK4.out b (by have := hK3.size; omega) hne).trans (hK3.block b hb hn)
    exact hK4.setCell (.inl HH.out.foot.1) _
  · refine ownsMap_same HM2.out ?_
    have hNch : (Value.slice A g.pc.length C).ownBlock ≠ some g.bN := fun e => by
      have h1 := (HH.out.chv.2 g.bN (by rw [hH.out]; exact e)).2
      have h2 := HH.out.names.2.2
      omega
    rw [Below.heap_setCell _ _ _ _ (show g.bN ≠ p from Ne.symm hpN), HK4.out _ (by omega) hNch, hO3.block _ (by omega)]
  · rw [chCells_snoc]
    exact ho4.same8 (fun b hb hl => Below.heap_setCell _ _ _ _ (fun e => by
      have e : b = p := e
      rcases hown5 b hb with h1 | ⟨h1, -⟩
      · have h2 := (HH.out.chv.2 b h1).2
        have h3 := HH.out.foot.2
        rw [e] at h2; omega
      · omega))
  · intro b h1 h2 h3 h4 h5
    refine he5 b h1 h2 (fun e => h3 (by rw [e]; exact HH.out.foot.2)) (fun e => h4 (by rw [e]; exact HH.out.names.2.2)) (fun e => h5 (HH.out.chv.2 b e).2)
end Go.Proofs.Ytlagmjdldplblaa
/- Contracts of package disk: Remove, Rename, Create. -/
namespace Go.Proofs.Ytlagmjdldplblaa
open Go.ChangeShapes Go.WideShapes Go.ChangeAt Go.RowKit Go.WideMaps Go.Maps
set_option linter.unusedVariables false
set_option maxRecDepth 4000

/-- what an operation leaves, and tells -/
def Did (k : Nat) (F : Nat → Prop) (p : Nat) (w : World) (N : DK × Int) (v : Int) (w' : World) : Prop := v = N.2 ∧ (∃ g, DD g k w' F p N.1) ∧ Kp F w w'
theorem grow_alloc {F : Nat → Prop} {w : World} (hF : ∀ b, w.heap.size ≤ b → F b) (o : Obj) : ∀ b, (w.alloc o).heap.size ≤ b → F b := fun b hb => hF b (Nat.le_trans (by simp) hb)
theorem DD.more {g : G8} {k q : Nat} {w : World} {F : Nat → Prop} {p : Nat} {M : DK} (h : DD g k w F p M) (hq : k ≤ q) : DD g q w F p M :=
  h.hdr q M rfl rfl rfl rfl rfl rfl (Nat.le_refl _) (by have := h.pl.taken; omega) h.pl.limit hq h.blk (fun _ _ _ _ => rfl)
theorem Did.back {k q : Nat} {F F' : Nat → Prop} {p : Nat} {w w1 : World} {N : DK × Int} {v : Int} {w' : World} (h : Did k F' p w1 N v w') (hk : Kp F w w1) (hF : ∀ b, F' b → F b) (hq : k ≤ q) : Did q F p w N v w' := by
  obtain ⟨h1, ⟨g, h2⟩, h3⟩ := h
  exact ⟨h1, ⟨g, (h2.refoot (fun b hb _ => hF b hb)).more hq⟩, hk.trans (h3.mono (fun b _ hb => hF b hb))⟩
set_option maxHeartbeats 1000000 in
theorem stepW1_any (w : World) : Calls Try.prog 76 #[] w fun e w' => e = .returned (.tuple #[]) ∧ w' = w := by
  go_enter Try.func76, Try.ntmps76
  go_wp2_with fail
  (try simp only [Exit.inBlock, Exit.then])
  refine Great.bodyPost_end0 rfl rfl ?_
  exact ⟨rfl, rfl⟩
set_option maxHeartbeats 1000000 in
theorem whole_any (g : G8) (k : Nat) (w : World) (F : Nat → Prop) (p : Nat) (M : DK) (hk : k ≤ 1000) (hF : ∀ b, w.heap.size ≤ b → F b) (h : DD g k w F p M) (fd : Nat) (cd : Array Value) (G : DK → DK × Int)
    (ed : ∀ args w, (callFunc fd args).run Try.prog w = .ok (.enter fd args) w)
    (hdo : (stepD M).2 = 0 → ∀ w1, DD g (k + 1) w1 F p (stepD M).1 → Kp F w w1 → Calls Try.prog fd cd w1 (Tells (Did (k + 3) F p w1 (G (stepD M).1)))) :
    Calls Try.prog 46 #[.pointer (some ⟨p, 0, none⟩), .func (.func fd) #[] cd] w (Tells (Did (k + 3) F p w (thenD M G))) := by
  have h0 : (stepD M).2 ≠ 0 → thenD M G = stepD M := fun e => by unfold thenD; rw [if_neg e]
  have h1 : (stepD M).2 = 0 → thenD M G = G (stepD M).1 := fun e => by unfold thenD; rw [if_pos e]
  have hc := step_any g k w F p M hk hF h fd 76 cd #[] (Did (k + 3) F p w (thenD M G)) ed (enters_of Try.func76 (by kernel_rfl) rfl)
    (fun e w1 hd hk1 => by rw [h0 (by rw [e]; decide)]; exact ⟨e.symm, ⟨g, hd.more (by omega)⟩, hk1⟩)
    (fun e w1 hd hk1 => (stepW1_any w1).mono (fun e1 w2 hr => by obtain ⟨rfl, rfl⟩ := hr; rw [h0 (by rw [e]; decide)]; exact ⟨rfl, e.symm, ⟨g, hd.more (by omega)⟩, hk1⟩))
    (fun e w1 hd hk1 => (hdo e w1 hd hk1).mono (fun e1 w2 hr => by
      obtain ⟨v, he, hv⟩ := hr
      rw [h1 e]
      exact ⟨v, he, hv.back hk1 (fun _ h => h) (Nat.le_refl _)⟩))
  clear hdo ed h
  go_enter Try.func46, Try.ntmps46
  go_wp2_with fail
  refine hc.mono ?_
  rintro e w' ⟨v, rfl, hv⟩
  have HV := Lib.hid hv
  clear hc hv h0 h1
  go_wp2_with fail
  go_ret
  exact ⟨v, rfl, HV.out⟩
/-- what is found at a name -/
def lookO (og : Nat → Or8) (l : List Nm8) (s : ByteArray) : Or8 := match findN l s with | some f => og f | none => (0, noN)
theorem nm_look {w : World} {b n : Nat} {og : Nat → Or8} {l : List Nm8} (h : w.ownsMap Try.prog 9 eO b n (nmD og l)) {s : ByteArray} (hs : s.size ≤ 1000) :
    (Instr.lookup 67 (.map (some b)) (.string s) true).run Try.prog w = .ok (.tuple #[oV (lookO og l s), .bool (findN l s).isSome]) w := by
  obtain ⟨v, ps, hrun, hv⟩ := World.ownsMap.look_ok h law8N Try.underlying67 (zero8O w) (eO_mk (0, noN)) (keyN (s := s) (by unfold maxLen; omega))
  obtain ⟨o, rfl, hy⟩ := eO_inv hv
  rw [nm_at] at hy
  rw [nm_has] at hrun
  rw [hrun]
  have e : oV o = oV (lookO og l s) := by
    have hy := congrArg Prod.fst hy
    unfold lookO
    cases hf : findN l s with
    | none => rw [hf] at hy; simp only [DataW.held.injEq] at hy; exact hy.symm
    | some f => rw [hf] at hy; simp only [DataW.held.injEq] at hy; exact hy.symm
  rw [e]
def moveD (M : DK) (s t : ByteArray) : DK × Int := match findN M.names s with
  | none => (M, 30)
  | some f => (changeD M (toCh ⟨s, t, f⟩), 0)
theorem toCh_mv {s t : ByteArray} {f : Nat} (hs : s ≠ noN) (ht : t ≠ noN) : toCh ⟨s, t, f⟩ = ⟨some s, some (t, f)⟩ := by unfold toCh; rw [if_neg hs, if_neg ht]
theorem toCh_rm {s : ByteArray} {f : Nat} (hs : s ≠ noN) : toCh ⟨s, noN, f⟩ = ⟨some s, none⟩ := by unfold toCh; rw [if_neg hs, if_pos rfl]
theorem moveD_rm {M : DK} (hn : ∀ n ∈ M.names, okName n.1 = true) (s : ByteArray) : removedD M s = moveD M s noN := by
  unfold removedD moveD
  cases hf : findN M.names s with
  | none => rfl
  | some f => show (changeD M ⟨some s, none⟩, (0 : Int)) = (changeD M (toCh ⟨s, noN, f⟩), 0); rw [toCh_rm (okN_ne (hn _ (findN_mem hf)))]
theorem moveD_mv {M : DK} (hn : ∀ n ∈ M.names, okName n.1 = true) (s : ByteArray) {t : ByteArray} (ht : okName t = true) : renamedD M s t = moveD M s t := by
  unfold renamedD moveD
  rw [if_neg (by rw [ht]; decide)]
  cases hf : findN M.names s with
  | none => rfl
  | some f => show (changeD M ⟨some s, some (t, f)⟩, (0 : Int)) = (changeD M (toCh ⟨s, t, f⟩), 0); rw [toCh_mv (okN_ne (hn _ (findN_mem hf))) (okN_ne ht)]
set_option maxHeartbeats 1000000 in
theorem move_any (g : G8) (k : Nat) (w : World) (F : Nat → Prop) (p : Nat) (M : DK) (hk : k ≤ 1000) (hF : ∀ b, w.heap.size ≤ b → F b) (h : DD g k w F p M) (s t : ByteArray) (hs : s.size ≤ 1000) (ht : t = noN ∨ okName t = true) :
    Calls Try.prog 51 #[.pointer (some ⟨p, 0, none⟩), .string s, .string t] w (Tells (Did (k + 1) F p w (moveD M s t))) := by
  have h1 := h.alloc (.cells #[.int .i64 0, .string noN] 83)
  cases hf : findN M.names s with
  | none =>
    have hm : moveD M s t = (M, 30) := by unfold moveD; rw [hf]
    rw [hm]
    have hB := h.blk
    have c2 := hB.cell 2 (v := .map (some g.bN)) rfl
    have hlk := nm_look h.names.1 (s := s) hs
    rw [hf] at hlk
    simp only [lookO, hf] at hlk
    unfold oV at hlk
    have HH := Lib.hid h
    clear h h1
    go_enter Try.func51, Try.ntmps51
    go_wp2_with fail
    go_ret
    exact ⟨30, rfl, rfl, ⟨g, (HH.out.alloc _).more (by omega)⟩, (Kp.refl F w).alloc _⟩
  | some f =>
    have hm : moveD M s t = (changeD M (toCh ⟨s, t, f⟩), 0) := by unfold moveD; rw [hf]
    have hsn := h.pl.names _ (findN_mem hf)
    have hm0 : moveD { M with kept := M.names, chs := [] } s t = (changeD { M with kept := M.names, chs := [] } (toCh ⟨s, t, f⟩), 0) := by
      unfold moveD; rw [show findN ({ M with kept := M.names, chs := [] } : DK).names s = some f from hf]
    have hok : Ok7 (changeD M (toCh ⟨s, t, f⟩)) := by
      refine h.ok.changed ?_ (fun n hn => ?_)
      · rcases ht with rfl | ht
        · have := okD_removed h.ok.flat s; rw [moveD_rm (M := { M with kept := M.names, chs := [] }) h.pl.names, hm0] at this; exact this
        · have := okD_renamed h.ok.flat s t; rw [moveD_mv (M := { M with kept := M.names, chs := [] }) h.pl.names s ht, hm0] at this; exact this
      · have hp : f < M.files.length := h.ok.place _ (findN_mem hf)
        unfold toCh at hn
        by_cases e : t = noN
        · simp [e] at hn
        · simp only [e, if_false, Option.some.injEq] at hn
          rw [← hn]; exact hp
    have hlv := h.live f (.inl ⟨_, findN_mem hf, rfl⟩)
    rw [hm]
    have hB := h.blk
    have c2 := hB.cell 2 (v := .map (some g.bN)) rfl
    have hlk := nm_look h.names.1 (s := s) hs
    rw [hf] at hlk
    simp only [lookO, hf] at hlk
    unfold oV at hlk
    have d0 : (w.alloc (.cells #[.int .i64 (g.og f).1, .string (g.og f).2] 83)).cell? ⟨w.heap.size, 0, none⟩ = some (.int .i64 (g.og f).1) := (Bk.new w _ _).cell 0 rfl
    have d1 : (w.alloc (.cells #[.int .i64 (g.og f).1, .string (g.og f).2] 83)).cell? ⟨w.heap.size, 1, none⟩ = some (.string (g.og f).2) := (Bk.new w _ _).cell 1 rfl
    have hc := change_any g k (w.alloc (.cells #[.int .i64 (g.og f).1, .string (g.og f).2] 83)) F p M hk (grow_alloc hF _) (h.alloc _) ⟨s, t, f⟩ hlv hok (.inr hsn) ht
    have HC := Lib.hid hc
    clear h h1 hc
    go_enter Try.func51, Try.ntmps51
    go_wp2_with fail
    refine HC.out.mono ?_
    rintro e w' ⟨rfl, hd, hk1⟩
    have HD := Lib.hid hd
    clear hd
    go_wp2_with fail
    go_ret
    exact ⟨0, rfl, rfl, HD.out, ((Kp.refl F w).alloc _).trans hk1⟩
set_option maxHeartbeats 1000000 in
theorem remove1_any (g : G8) (k : Nat) (w : World) (F : Nat → Prop) (p : Nat) (M : DK) (hk : k ≤ 1000) (hF : ∀ b, w.heap.size ≤ b → F b) (h : DD g k w F p M) (s : ByteArray) (hs : s.size ≤ 1000) (b0 b1 : Nat)
    (c0 : w.cell? ⟨b0, 0, none⟩ = some (.pointer (some ⟨p, 0, none⟩))) (c1 : w.cell? ⟨b1, 0, none⟩ = some (.string s)) :
    Calls Try.prog 50 #[.pointer (some ⟨b0, 0, none⟩), .pointer (some ⟨b1, 0, none⟩)] w (Tells (Did (k + 1) F p w (removedD M s))) := by
  rw [moveD_rm h.pl.names]
  have hc := Lib.hid (move_any g k w F p M hk hF h s noN hs (.inl rfl))
  clear h
  go_enter Try.func50, Try.ntmps50
  go_wp2_with fail
  refine hc.out.mono ?_
  rintro e w' ⟨v, rfl, hv⟩
  have HV := Lib.hid hv
  clear hv
  go_wp2_with fail
  go_ret
  exact ⟨v, rfl, HV.out⟩
/-- the blocks of F without these new ones -/
def But (F : Nat → Prop) (w : World) (n : Nat) : Nat → Prop := fun b => F b ∧ (b < w.heap.size ∨ w.heap.size + n ≤ b)
theorem but_new {F : Nat → Prop} {w w1 : World} {n : Nat} (hF : ∀ b, w.heap.size ≤ b → F b) (h : w1.heap.size = w.heap.size + n) : ∀ b, w1.heap.size ≤ b → But F w n b := fun b hb => ⟨hF b (by omega), .inr (by omega)⟩
theorem but_not {F : Nat → Prop} {w : World} {n i : Nat} (hi : i < n) : ¬ But F w n (w.heap.size + i) := fun h => by have := h.2; omega
theorem DD.but {g : G8} {k : Nat} {w w1 : World} {F : Nat → Prop} {p n : Nat} {M : DK} (h : DD g k w F p M) (ho : Old w w1) : DD g k w1 (But F w n) p M :=
  h.move g.rl (fun b hb hl => ⟨ho.block b hl, ⟨hb, .inl hl⟩, rfl⟩)
set_option maxHeartbeats 1000000 in
theorem remove_any (g : G8) (k : Nat) (w : World) (F : Nat → Prop) (p : Nat) (M : DK) (hk : k ≤ 900) (hF : ∀ b, w.heap.size ≤ b → F b) (h : DD g k w F p M) (s : ByteArray) (hs : s.size ≤ 1000) :
    Calls Try.prog 17 #[.pointer (some ⟨p, 0, none⟩), .string s] w (Tells (Did (k + 3) F p w (removeD M s))) := by
  have hO : Old w ((w.alloc (.cells #[.pointer (some ⟨p, 0, none⟩)] 24)).alloc (.cells #[.string s] 9)) := ((Old.refl w).alloc _).alloc _
  have hK : Kp F w ((w.alloc (.cells #[.pointer (some ⟨p, 0, none⟩)] 24)).alloc (.cells #[.string s] 9)) := ((Kp.refl F w).alloc _).alloc _
  have hS : ((w.alloc (.cells #[.pointer (some ⟨p, 0, none⟩)] 24)).alloc (.cells #[.string s] 9)).heap.size = w.heap.size + 2 := by simp
  have c0 : ((w.alloc (.cells #[.pointer (some ⟨p, 0, none⟩)] 24)).alloc (.cells #[.string s] 9)).cell? ⟨w.heap.size, 0, none⟩ = some (.pointer (some ⟨p, 0, none⟩)) := ((Bk.new w _ _).alloc _).cell 0 rfl
  have c1 : ((w.alloc (.cells #[.pointer (some ⟨p, 0, none⟩)] 24)).alloc (.cells #[.string s] 9)).cell? ⟨w.heap.size + 1, 0, none⟩ = some (.string s) := by
    have := (Bk.new (w.alloc (.cells #[.pointer (some ⟨p, 0, none⟩)] 24)) #[.string s] 9).cell 0 (v := .string s) rfl
    rwa [show (w.alloc (.cells #[.pointer (some ⟨p, 0, none⟩)] 24)).heap.size = w.heap.size + 1 by simp] at this
  have hd : DD g k _ (But F w 2) p M := h.but hO
  have hc := whole_any g k _ (But F w 2) p M (by omega) (but_new hF hS) hd 50 #[.pointer (some ⟨w.heap.size, 0, none⟩), .pointer (some ⟨w.heap.size + 1, 0, none⟩)] (fun M => removedD M s) (enters_of Try.func50 (by kernel_rfl) rfl)
    (fun _ w1 h1 k1 => (remove1_any g (k + 1) w1 (But F w 2) p _ (by omega) (fun b hb => but_new hF hS b (Nat.le_trans k1.size hb)) h1 s hs _ _ (k1.cell c0 (but_not (i := 0) (by omega))) (k1.cell c1 (but_not (i := 1) (by omega)))).mono (fun e w2 ⟨v, he, hv⟩ => ⟨v, he, hv.back (Kp.refl _ _) (fun _ h => h) (by omega)⟩))
  have HC := Lib.hid hc
  have HK := Lib.hid hK
  clear h hd hc hO hK c1
  go_enter Try.func17, Try.ntmps17
  go_wp2_with fail
  refine HC.out.mono ?_
  rintro e w' ⟨v, rfl, hv⟩
  have HV := Lib.hid hv
  clear hv
  go_wp2_with fail
  go_ret
  exact ⟨v, rfl, HV.out.back HK.out (fun _ h => h.1) (Nat.le_refl _)⟩
end Go.Proofs.Ytlagmjdldplblaa
/- Contracts of package disk: Rename, Create. -/
namespace Go.Proofs.Ytlagmjdldplblaa
open Go.ChangeShapes Go.WideShapes Go.ChangeAt Go.RowKit Go.WideMaps Go.Maps
set_option linter.unusedVariables false
set_option maxRecDepth 4000

set_option maxHeartbeats 1000000 in
theorem isName_any (s : ByteArray) (w : World) : Calls Try.prog 48 #[.string s] w fun e w' => e = .returned (.bool (okName s)) ∧ w' = w := by
  by_cases h1 : 1 ≤ s.size
  · by_cases h2 : s.size ≤ 20
    · have HO : Hid (okName s = true) := Lib.hid (by unfold okName; simp [h1, h2])
      have i1 : (1 : Int) ≤ (s.size : Int) := by omega
      have i2 : (s.size : Int) ≤ 20 := by omega
      have d1 : decide ((1 : Int) ≤ (s.size : Int)) = true := by simpa using i1
      have d2 : decide ((s.size : Int) ≤ 20) = true := by simpa using i2
      go_enter Try.func48, Try.ntmps48
      go_wp2_with fail
      go_ret
      exact ⟨by rw [HO.out]; rfl, rfl⟩
    · have HO : Hid (okName s = false) := Lib.hid (by unfold okName; simp [h2])
      have i1 : (1 : Int) ≤ (s.size : Int) := by omega
      have i2 : ¬ (s.size : Int) ≤ 20 := by omega
      go_enter Try.func48, Try.ntmps48
      go_wp2_with fail
      go_ret
      exact ⟨by rw [HO.out]; rfl, rfl⟩
  · have HO : Hid (okName s = false) := Lib.hid (by unfold okName; simp [h1])
    have i1 : ¬ (1 : Int) ≤ (s.size : Int) := by omega
    have h0 : s.size = 0 := by omega
    go_enter Try.func48, Try.ntmps48
    go_wp2_with fail
    go_ret
    exact ⟨by rw [HO.out]; rfl, rfl⟩
set_option maxHeartbeats 1000000 in
theorem rename1_any (g : G8) (k : Nat) (w : World) (F : Nat → Prop) (p : Nat) (M : DK) (hk : k ≤ 1000) (hF : ∀ b, w.heap.size ≤ b → F b) (h : DD g k w F p M) (s t : ByteArray) (hs : s.size ≤ 1000) (b0 b1 b2 : Nat)
    (c0 : w.cell? ⟨b0, 0, none⟩ = some (.string t)) (c1 : w.cell? ⟨b1, 0, none⟩ = some (.pointer (some ⟨p, 0, none⟩))) (c2 : w.cell? ⟨b2, 0, none⟩ = some (.string s)) :
    Calls Try.prog 67 #[.pointer (some ⟨b0, 0, none⟩), .pointer (some ⟨b1, 0, none⟩), .pointer (some ⟨b2, 0, none⟩)] w (Tells (Did (k + 1) F p w (renamedD M s t))) := by
  cases ht : okName t with
  | false =>
    have hm : renamedD M s t = (M, 1) := by unfold renamedD; rw [if_pos ht]
    rw [hm]
    have HH := Lib.hid h
    have hi := isName_any t w
    rw [ht] at hi
    have HI := Lib.hid hi
    clear h hm hi ht
    go_enter Try.func67, Try.ntmps67
    go_wp2_with fail
    refine HI.out.mono ?_
    rintro e w' ⟨rfl, e⟩
    subst e
    go_wp2_with fail
    go_ret
    exact ⟨1, rfl, rfl, ⟨g, HH.out.more (by omega)⟩, Kp.refl F _⟩
  | true =>
    rw [moveD_mv h.pl.names s ht]
    have HC := Lib.hid (move_any g k w F p M hk hF h s t hs (.inr ht))
    have hi := isName_any t w
    rw [ht] at hi
    have HI := Lib.hid hi
    clear h hi ht
    go_enter Try.func67, Try.ntmps67
    go_wp2_with fail
    refine HI.out.mono ?_
    rintro e w' ⟨rfl, e⟩
    subst e
    go_wp2_with fail
    refine HC.out.mono ?_
    rintro e w' ⟨v, rfl, hv⟩
    have HV := Lib.hid hv
    clear hv
    go_wp2_with fail
    go_ret
    exact ⟨v, rfl, HV.out⟩
/-- the boxes of a closure: the disk and a text -/
theorem box2 (w : World) (p : Nat) (s : ByteArray) : ∃ w1, w1 = (w.alloc (.cells #[.pointer (some ⟨p, 0, none⟩)] 24)).alloc (.cells #[.string s] 9) ∧ Old w w1 ∧ (∀ F, Kp F w w1) ∧ w1.heap.size = w.heap.size + 2 ∧
    w1.cell? ⟨w.heap.size, 0, none⟩ = some (.pointer (some ⟨p, 0, none⟩)) ∧ w1.cell? ⟨w.heap.size + 1, 0, none⟩ = some (.string s) := by
  refine ⟨_, rfl, ((Old.refl w).alloc _).alloc _, fun F => ((Kp.refl F w).alloc _).alloc _, by simp, ((Bk.new w _ _).alloc _).cell 0 rfl, ?_⟩
  have := (Bk.new (w.alloc (.cells #[.pointer (some ⟨p, 0, none⟩)] 24)) #[.string s] 9).cell 0 (v := .string s) rfl
  rwa [show (w.alloc (.cells #[.pointer (some ⟨p, 0, none⟩)] 24)).heap.size = w.heap.size + 1 by simp] at this
theorem box3 (w : World) (p : Nat) (s t : ByteArray) : ∃ w1, w1 = ((w.alloc (.cells #[.pointer (some ⟨p, 0, none⟩)] 24)).alloc (.cells #[.string s] 9)).alloc (.cells #[.string t] 9) ∧ Old w w1 ∧ (∀ F, Kp F w w1) ∧ w1.heap.size = w.heap.size + 3 ∧
    w1.cell? ⟨w.heap.size, 0, none⟩ = some (.pointer (some ⟨p, 0, none⟩)) ∧ w1.cell? ⟨w.heap.size + 1, 0, none⟩ = some (.string s) ∧ w1.cell? ⟨w.heap.size + 2, 0, none⟩ = some (.string t) := by
  obtain ⟨w1, rfl, h1, h2, h3, h4, h5⟩ := box2 w p s
  refine ⟨_, rfl, h1.alloc _, fun F => (h2 F).alloc _, by rw [heap_alloc, h3], cell_alloc _ _ h4, cell_alloc _ _ h5, ?_⟩
  have := (Bk.new ((w.alloc (.cells #[.pointer (some ⟨p, 0, none⟩)] 24)).alloc (.cells #[.string s] 9)) #[.string t] 9).cell 0 (v := .string t) rfl
  rwa [h3] at this
set_option maxHeartbeats 1000000 in
theorem rename_any (g : G8) (k : Nat) (w : World) (F : Nat → Prop) (p : Nat) (M : DK) (hk : k ≤ 900) (hF : ∀ b, w.heap.size ≤ b → F b) (h : DD g k w F p M) (s t : ByteArray) (hs : s.size ≤ 1000) :
    Calls Try.prog 35 #[.pointer (some ⟨p, 0, none⟩), .string s, .string t] w (Tells (Did (k + 3) F p w (renameD M s t))) := by
  obtain ⟨w1, hw1, hO, hK, hS, c0, c1, c2⟩ := box3 w p s t
  have hd : DD g k w1 (But F w 3) p M := h.but hO
  have hc := whole_any g k w1 (But F w 3) p M (by omega) (but_new hF hS) hd 67 #[.pointer (some ⟨w.heap.size + 2, 0, none⟩), .pointer (some ⟨w.heap.size, 0, none⟩), .pointer (some ⟨w.heap.size + 1, 0, none⟩)] (fun M => renamedD M s t) (enters_of Try.func67 (by kernel_rfl) rfl)
    (fun _ w2 h1 k1 => (rename1_any g (k + 1) w2 (But F w 3) p _ (by omega) (fun b hb => but_new hF hS b (Nat.le_trans k1.size hb)) h1 s t hs _ _ _ (k1.cell c2 (but_not (i := 2) (by omega))) (k1.cell c0 (but_not (i := 0) (by omega))) (k1.cell c1 (but_not (i := 1) (by omega)))).mono (fun e w3 ⟨v, he, hv⟩ => ⟨v, he, hv.back (Kp.refl _ _) (fun _ h => h) (by omega)⟩))
  have HK := Lib.hid (hK F)
  rw [hw1] at hc c0
  have HC := Lib.hid hc
  have HW := Lib.hid hw1
  clear h hd hc hO hK c1 c2 hw1 hS
  go_enter Try.func35, Try.ntmps35
  go_wp2_with fail
  refine HC.out.mono ?_
  rintro e w' ⟨v, rfl, hv⟩
  have HV := Lib.hid hv
  clear hv
  go_wp2_with fail
  go_ret
  exact ⟨v, rfl, HV.out.back (HW.out ▸ HK.out) (fun _ h => h.1) (Nat.le_refl _)⟩
/-- a map held against nil -/
theorem map_nil8 (w : World) (p : Option Nat) : (binOp .eql 67 (.map p) (.map none)).run Try.prog w = .ok (.bool p.isNone) w := by
  have h : ∀ d, (Op.equalIn (d + 1) 67 (.map p) (.map none)).run Try.prog w = .ok p.isNone w := fun d => by
    cases p <;> simp [Op.equalIn, run_underlying Try.underlying67]
  simp only [binOp]
  simp [show Op.equal 67 (.map p) (.map none) = Op.equalIn (9999 + 1) 67 (.map p) (.map none) from rfl, h 9999]
set_option maxHeartbeats 1000000 in
theorem add_any (g : G8) (k : Nat) (w : World) (F : Nat → Prop) (p : Nat) (M : DK) (hk : k ≤ 900) (hF : ∀ b, w.heap.size ≤ b → F b) (h : DD g k w F p M) (s : ByteArray) (hs : okName s = true) (hnew : ∀ f, f < M.files.length → g.og f ≠ ((M.taken : Int), s))
    (hok : Ok7 (changeD { M with files := M.files ++ [([], 0)] } ⟨none, some (s, M.files.length)⟩)) :
    Calls Try.prog 49 #[.pointer (some ⟨p, 0, none⟩), .string s] w fun e w' => e = .returned (.tuple #[]) ∧ (∃ g', DD g' (k + 2) w' F p (changeD { M with files := M.files ++ [([], 0)] } ⟨none, some (s, M.files.length)⟩)) ∧ Kp F w w' := by
  have hB := h.blk
  have c2 := hB.cell 2 (v := .map (some g.bN)) rfl
  have c5 := hB.cell 5 (v := .int .i64 (M.taken : Int)) rfl
  have c1 := hB.cell 1 (v := .map (some g.bF)) rfl
  have hnil := map_nil8 w (some g.bN)
  have hO : Old w (w.alloc (.cells #[.int .i64 (M.taken : Int), .string s] 83)).drew := ((Old.refl w).alloc _).drew
  have hK : Kp F w (w.alloc (.cells #[.int .i64 (M.taken : Int), .string s] 83)).drew := ((Kp.refl F w).alloc _).drew
  have e1 := hO.cell c1
  have hN : Bk (w.alloc (.cells #[.int .i64 (M.taken : Int), .string s] 83)).drew w.heap.size _ 83 := Bk.new w #[.int .i64 (M.taken : Int), .string s] 83
  have d0 := hN.cell 0 (v := .int .i64 (M.taken : Int)) rfl
  have d1 := hN.cell 1 (v := .string s) rfl
  have hs20 := okN_le hs
  have hko : keyOf Try.prog 83 (oV ((M.taken : Int), s)) = some (kO ((M.taken : Int), s)) := keyO (by show s.size ≤ 1000; omega) (by show 0 ≤ (M.taken : Int); omega) (by have := h.pl.taken; show (M.taken : Int) ≤ 1000000; omega)
  obtain ⟨w2, hrun, hm2, hg2⟩ := (ownsMap_same h.files.1 (hO.block _ h.files.1.lt)).update law8O Try.underlying66 (by have := h.fsize; unfold maxLen; omega) hko (eF_mk none 0 0 0)
  have hFb := h.files.2.1
  have hFr := h.files.2.2
  have hsz := hO.size
  have hsame : ∀ b, F b → b < w.heap.size → g.rl b ≠ 1 → w2.heap[b]? = w.heap[b]? := fun b h1 h2 h3 => (hg2.block b (by omega) (fun e => h3 (by rw [Option.some.inj e]; exact hFr))).trans (hO.block b h2)
  have hd2 := h.fileNew (by omega) ((M.taken : Int), s) (by show 0 ≤ (M.taken : Int); omega) (Int.le_refl _) (by show s.size ≤ 1000; omega) hnew hm2 hsame
  have hK2 : Kp F w w2 := hK.grown hg2 (fun j hj => by cases hj; exact .inl hFb)
  have hc := change_any _ (k + 1) w2 F p _ (by omega) (fun b hb => hF b (by have := hK2.size; omega)) hd2 ⟨noN, s, M.files.length⟩ (.inr rfl) (by unfold toCh; rw [if_pos rfl, if_neg (okN_ne hs)]; exact hok) (.inl rfl) (.inr hs)
  have hne : w.heap.size ≠ g.bF := by have := h.files.1.lt; omega
  have hN2 : Bk w2 w.heap.size _ 83 := (hg2.block _ (by show _ < (w.heap.push _).size; simp) (fun e => hne (Option.some.inj e))).trans hN
  have x0 := hN2.cell 0 (v := .int .i64 (M.taken : Int)) rfl
  have x1 := hN2.cell 1 (v := .string s) rfl
  have hgo : (if M.files.length = M.files.length then ((M.taken : Int), s) else g.og M.files.length) = ((M.taken : Int), s) := if_pos rfl
  unfold toCh at hc
  rw [if_pos rfl, if_neg (okN_ne hs)] at hc
  simp only [if_true] at hc
  have HC := Lib.hid hc
  have HK2 := Lib.hid hK2
  unfold oV fV at hrun
  clear h hc hd2 hm2 hg2 hK2 hN2 hN hB hnew hok hsame hO hK
  go_enter Try.func49, Try.ntmps49
  go_wp2_with fail
  refine wp_region_noPanic ?_
  refine region_g 6 (Ext (World.drew _)) (by kernel_rfl) (Ext.refl _) (fun hS => ?_)
  refine take_w (i := 0) (v := ?_) (some 24) rfl (by kernel_rfl) rfl (fun _ _ _ h => h) (Or.inl ⟨by rfl, ?_⟩) hS ?_
  rotate_left
  · (intro wq hq; go_simp); first | done | with_reducible rfl
  try simp only [Act.put, List.setIfInBounds_toArray, List.set_cons_zero, List.set_cons_succ]
  replace hS := Till.list 0 hS
  refine take_g (i := 4) (v := ?_) [4] (some 28) rfl (by kernel_rfl) rfl (fun _ _ _ h => h) (Or.inl ⟨by rfl, ?_⟩) hS ?_
  rotate_left
  · (intro wq hq; have q0 := hq _ _ _ e1; have q1 := hq _ _ _ d0; have q2 := hq _ _ _ d1; go_simp); first | done | with_reducible rfl
  try simp only [Act.put, List.setIfInBounds_toArray, List.set_cons_zero, List.set_cons_succ]
  replace hS := Till.list 4 hS
  refine take_w (i := 5) (v := ?_) (some 29) rfl (by kernel_rfl) rfl (fun _ _ _ h => h) (Or.inl ⟨by rfl, ?_⟩) hS ?_
  rotate_left
  · (intro wq hq; go_simp); first | done | with_reducible rfl
  try simp only [Act.put, List.setIfInBounds_toArray, List.set_cons_zero, List.set_cons_succ]
  replace hS := Till.list 5 hS
  refine take_w (i := 1) (v := ?_) (some 25) rfl (by kernel_rfl) rfl (fun _ _ _ h => h) (Or.inl ⟨by rfl, ?_⟩) hS ?_
  rotate_left
  · (intro wq hq; go_simp); first | done | with_reducible rfl
  try simp only [Act.put, List.setIfInBounds_toArray, List.set_cons_zero, List.set_cons_succ]
  replace hS := Till.list 1 hS
  refine take_w (i := 2) (v := ?_) (some 26) rfl (by kernel_rfl) rfl (fun _ _ _ h => h) (Or.inl ⟨by rfl, ?_⟩) hS ?_
  rotate_left
  · (intro wq hq; go_simp); first | done | with_reducible rfl
  try simp only [Act.put, List.setIfInBounds_toArray, List.set_cons_zero, List.set_cons_succ]
  replace hS := Till.list 2 hS
  refine take_g (i := 3) (v := ?_) [3] (some 27) rfl (by kernel_rfl) rfl (fun _ _ _ h => h) (Or.inl ⟨by rfl, ?_⟩) hS ?_
  rotate_left
  · (intro wq hq; have q0 := hq _ _ _ e1; have q1 := hq _ _ _ d0; have q2 := hq _ _ _ d1; go_simp); first | done | with_reducible rfl
  try simp only [Act.put, List.setIfInBounds_toArray, List.set_cons_zero, List.set_cons_succ]
  replace hS := Till.list 3 hS
  refine ready_g (rs := [6]) (by kernel_rfl) (by simp) ?_
  refine AllReadyG.cons rfl (fun Kont hK => ?_) AllReadyG.nil
  go_simp
  refine hK.out _ _ (Or.inl (by kernel_rfl)) (fun hS0 => ?_)
  clear hK Kont
  try simp only [Act.put, List.setIfInBounds_toArray, List.set_cons_zero, List.set_cons_succ]
  clear hS
  have hS := hS0
  clear hS0
  refine done_g (by kernel_rfl) (NoPanic.normal ?_) _
  clear hS
  go_wp2_with fail
  refine HC.out.mono ?_
  rintro e w' ⟨rfl, hd, hk1⟩
  have HD := Lib.hid hd
  clear hd
  go_wp2_with fail
  (try simp only [Exit.inBlock, Exit.then])
  refine Great.bodyPost_end0 rfl rfl ?_
  exact ⟨rfl, HD.out, HK2.out.trans hk1⟩
end Go.Proofs.Ytlagmjdldplblaa
/- Contracts of package disk: Create. -/
namespace Go.Proofs.Ytlagmjdldplblaa
open Go.ChangeShapes Go.WideShapes Go.ChangeAt Go.RowKit Go.WideMaps Go.Maps
set_option linter.unusedVariables false
set_option maxRecDepth 4000

theorem kc_names {g : G8} {k : Nat} {w : World} {F : Nat → Prop} {p : Nat} {M : DK} (h : DD g k w F p M) : M.names.length ≤ k := h.pl.nl
set_option maxHeartbeats 2000000 in
theorem create1_any (g : G8) (k : Nat) (w : World) (F : Nat → Prop) (p : Nat) (M : DK) (hk : k ≤ 900) (hF : ∀ b, w.heap.size ≤ b → F b) (h : DD g k w F p M) (s : ByteArray) (hs : s.size ≤ 1000) (hnew : ∀ f, f < M.files.length → g.og f ≠ ((M.taken : Int), s)) (b0 b1 : Nat)
    (c0 : w.cell? ⟨b0, 0, none⟩ = some (.string s)) (c1 : w.cell? ⟨b1, 0, none⟩ = some (.pointer (some ⟨p, 0, none⟩))) :
    Calls Try.prog 47 #[.pointer (some ⟨b0, 0, none⟩), .pointer (some ⟨b1, 0, none⟩)] w (Tells (Did (k + 2) F p w (createdD M s))) := by
  have hi := isName_any s w
  cases hn : okName s with
  | false =>
    have hm : createdD M s = (M, 1) := by unfold createdD; rw [if_pos hn]
    rw [hm]
    rw [hn] at hi
    have HI := Lib.hid hi
    have HH := Lib.hid h
    clear h hm hi hn hnew
    go_enter Try.func47, Try.ntmps47
    go_wp2_with fail
    refine HI.out.mono ?_
    rintro e w' ⟨rfl, e⟩
    subst e
    go_wp2_with fail
    go_ret
    exact ⟨1, rfl, rfl, ⟨g, HH.out.more (by omega)⟩, Kp.refl F _⟩
  | true =>
    rw [hn] at hi
    have d2 := h.blk.cell 2 (v := .map (some g.bN)) rfl
    have hnl := kc_names h
    have hlk := fun wq (hq : Old w wq) => nm_look (ownsMap_same h.names.1 (hq.block _ h.names.1.lt)) (s := s) (by omega)
    generalize hO : lookO g.og M.names s = o at hlk
    unfold oV at hlk
    have HI := Lib.hid hi
    have HH := Lib.hid h
    cases hf : findN M.names s with
    | some f =>
      have hm : createdD M s = (M, 31) := by unfold createdD; rw [if_neg (by rw [hn]; decide), if_pos (by rw [hf]; simp)]
      rw [hm]
      rw [hf] at hlk
      simp only [Option.isSome_some] at hlk
      clear h hm hi hn hnew hO hf
      go_enter Try.func47, Try.ntmps47
      go_wp2_with fail
      refine HI.out.mono ?_
      rintro e w' ⟨rfl, e⟩
      subst e
      go_wp2_with fail
      refine wp_region_noPanic ?_
      refine region_g 10 (Old w') (by kernel_rfl) ((Old.refl w').drew) (fun hS => ?_)
      refine take_g (i := 0) (v := ?_) [0] (some 9) rfl (by kernel_rfl) rfl (fun _ _ _ h => h) (Or.inl ⟨by rfl, ?_⟩) hS ?_
      rotate_left
      · (intro wq hq; have q0 := hq.cell c1; have q1 := hq.cell d2; have q2 := hq.cell c0; go_simp); first | done | with_reducible rfl
      try simp only [Act.put, List.setIfInBounds_toArray, List.set_cons_zero, List.set_cons_succ]
      replace hS := Till.list 0 hS
      refine take_g (i := 4) (v := ?_) [4] (some 13) rfl (by kernel_rfl) rfl (fun _ _ _ h => h) (Or.inl ⟨by rfl, ?_⟩) hS ?_
      rotate_left
      · (intro wq hq; have q0 := hq.cell c1; have q1 := hq.cell d2; have q2 := hq.cell c0; go_simp); first | done | with_reducible rfl
      try simp only [Act.put, List.setIfInBounds_toArray, List.set_cons_zero, List.set_cons_succ]
      replace hS := Till.list 4 hS
      refine take_w (i := 1) (v := ?_) (some 10) rfl (by kernel_rfl) rfl (fun _ _ _ h => h) (Or.inl ⟨by rfl, ?_⟩) hS ?_
      rotate_left
      · (intro wq hq; go_simp); first | done | with_reducible rfl
      try simp only [Act.put, List.setIfInBounds_toArray, List.set_cons_zero, List.set_cons_succ]
      replace hS := Till.list 1 hS
      refine take_w (i := 2) (v := ?_) (some 11) rfl (by kernel_rfl) rfl (fun _ _ _ h => h) (Or.inl ⟨by rfl, ?_⟩) hS ?_
      rotate_left
      · (intro wq hq; go_simp); first | done | with_reducible rfl
      try simp only [Act.put, List.setIfInBounds_toArray, List.set_cons_zero, List.set_cons_succ]
      replace hS := Till.list 2 hS
      refine take_g (i := 3) (v := ?_) [3] (some 12) rfl (by kernel_rfl) rfl (fun _ _ _ h => h) (Or.inl ⟨by rfl, ?_⟩) hS ?_
      rotate_left
      · (intro wq hq; have q0 := hq.cell c1; have q1 := hq.cell d2; have q2 := hq.cell c0; go_simp); first | done | with_reducible rfl
      try simp only [Act.put, List.setIfInBounds_toArray, List.set_cons_zero, List.set_cons_succ]
      replace hS := Till.list 3 hS
      refine take_g (i := 5) (v := .tuple #[.agg #[.int .i64 o.1, .string o.2], .bool true]) [5] (some 14) rfl (by kernel_rfl) rfl (fun _ _ _ h => h) (Or.inl ⟨by rfl, ?_⟩) hS ?_
      · (intro wq hq; (have q0 := hlk wq hq; go_simp))
      try simp only [Act.put, List.setIfInBounds_toArray, List.set_cons_zero, List.set_cons_succ]
      replace hS := Till.list 5 hS
      refine take_w (i := 6) (v := ?_) (some 8) rfl (by kernel_rfl) rfl (fun _ _ _ h => h) (Or.inl ⟨by rfl, ?_⟩) hS ?_
      rotate_left
      · (intro wq hq; go_simp); first | done | with_reducible rfl
      try simp only [Act.put, List.setIfInBounds_toArray, List.set_cons_zero, List.set_cons_succ]
      replace hS := Till.list 6 hS
      refine take_w (i := 7) (v := ?_) (some 15) rfl (by kernel_rfl) rfl (fun _ _ _ h => h) (Or.inl ⟨by rfl, ?_⟩) hS ?_
      rotate_left
      · (intro wq hq; go_simp); first | done | with_reducible rfl
      try simp only [Act.put, List.setIfInBounds_toArray, List.set_cons_zero, List.set_cons_succ]
      replace hS := Till.list 7 hS
      refine take_w (i := 8) (v := ?_) (some 16) rfl (by kernel_rfl) rfl (fun _ _ _ h => h) (Or.inl ⟨by rfl, ?_⟩) hS ?_
      rotate_left
      · (intro wq hq; go_simp); first | done | with_reducible rfl
      try simp only [Act.put, List.setIfInBounds_toArray, List.set_cons_zero, List.set_cons_succ]
      replace hS := Till.list 8 hS
      refine ready_g (rs := [9]) (by kernel_rfl) (by simp) ?_
      refine AllReadyG.cons rfl (fun Kont hK => ?_) AllReadyG.nil
      go_simp
      refine hK.out _ _ (Or.inr (((hS.get (by kernel_rfl)).alloc _))) (fun hS0 => ?_)
      clear hK Kont
      try simp only [Act.put, List.setIfInBounds_toArray, List.set_cons_zero, List.set_cons_succ]
      clear hS
      have hS := hS0
      clear hS0
      refine ready_g (rs := [10]) (by kernel_rfl) (by simp) ?_
      refine AllReadyG.cons rfl (fun Kont hK => ?_) AllReadyG.nil
      go_simp
      refine hK.out _ _ (Or.inl (by kernel_rfl)) (fun hS0 => ?_)
      clear hK Kont
      try simp only [Act.put, List.setIfInBounds_toArray, List.set_cons_zero, List.set_cons_succ]
      clear hS
      have hS := hS0
      clear hS0
      refine take_w (i := 11) (v := ?_) (some 4) rfl (by kernel_rfl) rfl (fun _ _ _ h => h) (Or.inl ⟨by rfl, ?_⟩) hS ?_
      rotate_left
      · (intro wq hq; go_simp); first | done | with_reducible rfl
      try simp only [Act.put, List.setIfInBounds_toArray, List.set_cons_zero, List.set_cons_succ]
      replace hS := Till.list 11 hS
      refine done_g (by kernel_rfl) (NoPanic.normal ?_) _
      clear hS
      go_wp2_with fail
      go_ret
      exact ⟨31, rfl, rfl, ⟨g, (HH.out.alloc _).drew.more (by omega)⟩, ((Kp.refl F _).alloc _).drew⟩
    | none =>
      rw [hf] at hlk
      simp only [Option.isSome_none] at hlk
      have hlen := fun wq (hq : Old w wq) => World.ownsMap.len (ownsMap_same h.names.1 (hq.block _ h.names.1.lt)) Try.underlying67 3
      rw [nm_size] at hlen
      by_cases hl : 200 ≤ M.names.length
      · have hm : createdD M s = (M, 32) := by unfold createdD; rw [if_neg (by rw [hn]; decide), if_neg (by rw [hf]; simp), if_pos hl]
        rw [hm]
        have hl2 : (200 : Int) ≤ (M.names.length : Int) := by omega
        clear h hm hi hn hnew hO hf
        go_enter Try.func47, Try.ntmps47
        go_wp2_with fail
        refine HI.out.mono ?_
        rintro e w' ⟨rfl, e⟩
        subst e
        go_wp2_with fail
        refine wp_region_noPanic ?_
        refine region_g 10 (Old w') (by kernel_rfl) ((Old.refl w').drew) (fun hS => ?_)
        refine take_g (i := 0) (v := ?_) [0] (some 9) rfl (by kernel_rfl) rfl (fun _ _ _ h => h) (Or.inl ⟨by rfl, ?_⟩) hS ?_
        rotate_left
        · (intro wq hq; have q0 := hq.cell c1; have q1 := hq.cell d2; have q2 := hq.cell c0; go_simp); first | done | with_reducible rfl
        try simp only [Act.put, List.setIfInBounds_toArray, List.set_cons_zero, List.set_cons_succ]
        replace hS := Till.list 0 hS
        refine take_g (i := 4) (v := ?_) [4] (some 13) rfl (by kernel_rfl) rfl (fun _ _ _ h => h) (Or.inl ⟨by rfl, ?_⟩) hS ?_
        rotate_left
        · (intro wq hq; have q0 := hq.cell c1; have q1 := hq.cell d2; have q2 := hq.cell c0; go_simp); first | done | with_reducible rfl
        try simp only [Act.put, List.setIfInBounds_toArray, List.set_cons_zero, List.set_cons_succ]
        replace hS := Till.list 4 hS
        refine take_w (i := 1) (v := ?_) (some 10) rfl (by kernel_rfl) rfl (fun _ _ _ h => h) (Or.inl ⟨by rfl, ?_⟩) hS ?_
        rotate_left
        · (intro wq hq; go_simp); first | done | with_reducible rfl
        try simp only [Act.put, List.setIfInBounds_toArray, List.set_cons_zero, List.set_cons_succ]
        replace hS := Till.list 1 hS
        refine take_w (i := 2) (v := ?_) (some 11) rfl (by kernel_rfl) rfl (fun _ _ _ h => h) (Or.inl ⟨by rfl, ?_⟩) hS ?_
        rotate_left
        · (intro wq hq; go_simp); first | done | with_reducible rfl
        try simp only [Act.put, List.setIfInBounds_toArray, List.set_cons_zero, List.set_cons_succ]
        replace hS := Till.list 2 hS
        refine take_g (i := 3) (v := ?_) [3] (some 12) rfl (by kernel_rfl) rfl (fun _ _ _ h => h) (Or.inl ⟨by rfl, ?_⟩) hS ?_
        rotate_left
        · (intro wq hq; have q0 := hq.cell c1; have q1 := hq.cell d2; have q2 := hq.cell c0; go_simp); first | done | with_reducible rfl
        try simp only [Act.put, List.setIfInBounds_toArray, List.set_cons_zero, List.set_cons_succ]
        replace hS := Till.list 3 hS
        refine take_g (i := 5) (v := .tuple #[.agg #[.int .i64 o.1, .string o.2], .bool false]) [5] (some 14) rfl (by kernel_rfl) rfl (fun _ _ _ h => h) (Or.inl ⟨by rfl, ?_⟩) hS ?_
        · (intro wq hq; (have q0 := hlk wq hq; go_simp))
        try simp only [Act.put, List.setIfInBounds_toArray, List.set_cons_zero, List.set_cons_succ]
        replace hS := Till.list 5 hS
        refine take_w (i := 6) (v := ?_) (some 8) rfl (by kernel_rfl) rfl (fun _ _ _ h => h) (Or.inl ⟨by rfl, ?_⟩) hS ?_
        rotate_left
        · (intro wq hq; go_simp); first | done | with_reducible rfl
        try simp only [Act.put, List.setIfInBounds_toArray, List.set_cons_zero, List.set_cons_succ]
        replace hS := Till.list 6 hS
        refine take_w (i := 7) (v := ?_) (some 15) rfl (by kernel_rfl) rfl (fun _ _ _ h => h) (Or.inl ⟨by rfl, ?_⟩) hS ?_
        rotate_left
        · (intro wq hq; go_simp); first | done | with_reducible rfl
        try simp only [Act.put, List.setIfInBounds_toArray, List.set_cons_zero, List.set_cons_succ]
        replace hS := Till.list 7 hS
        refine take_w (i := 8) (v := ?_) (some 16) rfl (by kernel_rfl) rfl (fun _ _ _ h => h) (Or.inl ⟨by rfl, ?_⟩) hS ?_
        rotate_left
        · (intro wq hq; go_simp); first | done | with_reducible rfl
        try simp only [Act.put, List.setIfInBounds_toArray, List.set_cons_zero, List.set_cons_succ]
        replace hS := Till.list 8 hS
        refine ready_g (rs := [9]) (by kernel_rfl) (by simp) ?_
        refine AllReadyG.cons rfl (fun Kont hK => ?_) AllReadyG.nil
        go_simp
        refine hK.out _ _ (Or.inr (((hS.get (by kernel_rfl)).alloc _))) (fun hS0 => ?_)
        clear hK Kont
        try simp only [Act.put, List.setIfInBounds_toArray, List.set_cons_zero, List.set_cons_succ]
        clear hS
        have hS := hS0
        clear hS0
        refine ready_g (rs := [10]) (by kernel_rfl) (by simp) ?_
        refine AllReadyG.cons rfl (fun Kont hK => ?_) AllReadyG.nil
        go_simp
        refine hK.out _ _ (Or.inl (by kernel_rfl)) (fun hS0 => ?_)
        clear hK Kont
        try simp only [Act.put, List.setIfInBounds_toArray, List.set_cons_zero, List.set_cons_succ]
        clear hS
        have hS := hS0
        clear hS0
        refine take_w (i := 11) (v := ?_) (some 4) rfl (by kernel_rfl) rfl (fun _ _ _ h => h) (Or.inl ⟨by rfl, ?_⟩) hS ?_
        rotate_left
        · (intro wq hq; go_simp); first | done | with_reducible rfl
        try simp only [Act.put, List.setIfInBounds_toArray, List.set_cons_zero, List.set_cons_succ]
        replace hS := Till.list 11 hS
        refine done_g (by kernel_rfl) (NoPanic.normal ?_) _
        clear hS
        have hlw := hlen _ ((Old.refl w').alloc (.cells #[.int .i64 o.1, .string o.2] 83)).drew
        have q1 := ((Old.refl w').alloc (.cells #[.int .i64 o.1, .string o.2] 83)).drew.cell c1
        have q2 := ((Old.refl w').alloc (.cells #[.int .i64 o.1, .string o.2] 83)).drew.cell d2
        go_wp2_with fail
        go_ret
        exact ⟨32, rfl, rfl, ⟨g, (HH.out.alloc _).drew.more (by omega)⟩, ((Kp.refl F _).alloc _).drew⟩
      · have hm : createdD M s = (changeD { M with files := M.files ++ [([], 0)] } ⟨none, some (s, M.files.length)⟩, 0) := by unfold createdD; rw [if_neg (by rw [hn]; decide), if_neg (by rw [hf]; simp), if_neg hl]
        have hok : Ok7 (changeD { M with files := M.files ++ [([], 0)] } ⟨none, some (s, M.files.length)⟩) := by
          refine (ok7_grow h.ok).changed ?_ (fun n hn => by cases hn; simp)
          have hc := okD_created h.ok.flat s
          unfold createdD at hc
          rw [if_neg (by rw [hn]; decide), if_neg (by show ¬ findN M.names s ≠ none; rw [hf]; simp), if_neg (by show ¬ 200 ≤ M.names.length; exact hl)] at hc
          exact hc
        rw [hm]
        have hl2 : ¬ (200 : Int) ≤ (M.names.length : Int) := by omega
        have HA := Lib.hid (fun wq (hq : Old w wq) => add_any g k wq F p M hk (fun b hb => hF b (Nat.le_trans hq.size hb)) (h.old hq) s hn hnew hok)
        clear h hm hi hn hnew hO hf hok
        go_enter Try.func47, Try.ntmps47
        go_wp2_with fail
        refine HI.out.mono ?_
        rintro e w' ⟨rfl, e⟩
        subst e
        go_wp2_with fail
        refine wp_region_noPanic ?_
        refine region_g 10 (Old w') (by kernel_rfl) ((Old.refl w').drew) (fun hS => ?_)
        refine take_g (i := 0) (v := ?_) [0] (some 9) rfl (by kernel_rfl) rfl (fun _ _ _ h => h) (Or.inl ⟨by rfl, ?_⟩) hS ?_
        rotate_left
        · (intro wq hq; have q0 := hq.cell c1; have q1 := hq.cell d2; have q2 := hq.cell c0; go_simp); first | done | with_reducible rfl
        try simp only [Act.put, List.setIfInBounds_toArray, List.set_cons_zero, List.set_cons_succ]
        replace hS := Till.list 0 hS
        refine take_g (i := 4) (v := ?_) [4] (some 13) rfl (by kernel_rfl) rfl (fun _ _ _ h => h) (Or.inl ⟨by rfl, ?_⟩) hS ?_
        rotate_left
        · (intro wq hq; have q0 := hq.cell c1; have q1 := hq.cell d2; have q2 := hq.cell c0; go_simp); first | done | with_reducible rfl
        try simp only [Act.put, List.setIfInBounds_toArray, List.set_cons_zero, List.set_cons_succ]
        replace hS := Till.list 4 hS
        refine take_w (i := 1) (v := ?_) (some 10) rfl (by kernel_rfl) rfl (fun _ _ _ h => h) (Or.inl ⟨by rfl, ?_⟩) hS ?_
        rotate_left
        · (intro wq hq; go_simp); first | done | with_reducible rfl
        try simp only [Act.put, List.setIfInBounds_toArray, List.set_cons_zero, List.set_cons_succ]
        replace hS := Till.list 1 hS
        refine take_w (i := 2) (v := ?_) (some 11) rfl (by kernel_rfl) rfl (fun _ _ _ h => h) (Or.inl ⟨by rfl, ?_⟩) hS ?_
        rotate_left
        · (intro wq hq; go_simp); first | done | with_reducible rfl
        try simp only [Act.put, List.setIfInBounds_toArray, List.set_cons_zero, List.set_cons_succ]
        replace hS := Till.list 2 hS
        refine take_g (i := 3) (v := ?_) [3] (some 12) rfl (by kernel_rfl) rfl (fun _ _ _ h => h) (Or.inl ⟨by rfl, ?_⟩) hS ?_
        rotate_left
        · (intro wq hq; have q0 := hq.cell c1; have q1 := hq.cell d2; have q2 := hq.cell c0; go_simp); first | done | with_reducible rfl
        try simp only [Act.put, List.setIfInBounds_toArray, List.set_cons_zero, List.set_cons_succ]
        replace hS := Till.list 3 hS
        refine take_g (i := 5) (v := .tuple #[.agg #[.int .i64 o.1, .string o.2], .bool false]) [5] (some 14) rfl (by kernel_rfl) rfl (fun _ _ _ h => h) (Or.inl ⟨by rfl, ?_⟩) hS ?_
        · (intro wq hq; (have q0 := hlk wq hq; go_simp))
        try simp only [Act.put, List.setIfInBounds_toArray, List.set_cons_zero, List.set_cons_succ]
        replace hS := Till.list 5 hS
        refine take_w (i := 6) (v := ?_) (some 8) rfl (by kernel_rfl) rfl (fun _ _ _ h => h) (Or.inl ⟨by rfl, ?_⟩) hS ?_
        rotate_left
        · (intro wq hq; go_simp); first | done | with_reducible rfl
        try simp only [Act.put, List.setIfInBounds_toArray, List.set_cons_zero, List.set_cons_succ]
        replace hS := Till.list 6 hS
        refine take_w (i := 7) (v := ?_) (some 15) rfl (by kernel_rfl) rfl (fun _ _ _ h => h) (Or.inl ⟨by rfl, ?_⟩) hS ?_
        rotate_left
        · (intro wq hq; go_simp); first | done | with_reducible rfl
        try simp only [Act.put, List.setIfInBounds_toArray, List.set_cons_zero, List.set_cons_succ]
        replace hS := Till.list 7 hS
        refine take_w (i := 8) (v := ?_) (some 16) rfl (by kernel_rfl) rfl (fun _ _ _ h => h) (Or.inl ⟨by rfl, ?_⟩) hS ?_
        rotate_left
        · (intro wq hq; go_simp); first | done | with_reducible rfl
        try simp only [Act.put, List.setIfInBounds_toArray, List.set_cons_zero, List.set_cons_succ]
        replace hS := Till.list 8 hS
        refine ready_g (rs := [9]) (by kernel_rfl) (by simp) ?_
        refine AllReadyG.cons rfl (fun Kont hK => ?_) AllReadyG.nil
        go_simp
        refine hK.out _ _ (Or.inr (((hS.get (by kernel_rfl)).alloc _))) (fun hS0 => ?_)
        clear hK Kont
        try simp only [Act.put, List.setIfInBounds_toArray, List.set_cons_zero, List.set_cons_succ]
        clear hS
        have hS := hS0
        clear hS0
        refine ready_g (rs := [10]) (by kernel_rfl) (by simp) ?_
        refine AllReadyG.cons rfl (fun Kont hK => ?_) AllReadyG.nil
        go_simp
        refine hK.out _ _ (Or.inl (by kernel_rfl)) (fun hS0 => ?_)
        clear hK Kont
        try simp only [Act.put, List.setIfInBounds_toArray, List.set_cons_zero, List.set_cons_succ]
        clear hS
        have hS := hS0
        clear hS0
        refine take_w (i := 11) (v := ?_) (some 4) rfl (by kernel_rfl) rfl (fun _ _ _ h => h) (Or.inl ⟨by rfl, ?_⟩) hS ?_
        rotate_left
        · (intro wq hq; go_simp); first | done | with_reducible rfl
        try simp only [Act.put, List.setIfInBounds_toArray, List.set_cons_zero, List.set_cons_succ]
        replace hS := Till.list 11 hS
        refine done_g (by kernel_rfl) (NoPanic.normal ?_) _
        clear hS
        have hlw := hlen _ ((Old.refl w').alloc (.cells #[.int .i64 o.1, .string o.2] 83)).drew
        have q0 := ((Old.refl w').alloc (.cells #[.int .i64 o.1, .string o.2] 83)).drew.cell c0
        have q1 := ((Old.refl w').alloc (.cells #[.int .i64 o.1, .string o.2] 83)).drew.cell c1
        have q2 := ((Old.refl w').alloc (.cells #[.int .i64 o.1, .string o.2] 83)).drew.cell d2
        go_wp2_with fail
        refine (HA.out _ ((Old.refl w').alloc (.cells #[.int .i64 o.1, .string o.2] 83)).drew).mono ?_
        rintro e w2 ⟨rfl, hd, hk2⟩
        have HD := Lib.hid hd
        clear hd
        go_wp2_with fail
        go_ret
        exact ⟨0, rfl, rfl, HD.out, ((Kp.refl F _).alloc _).drew.trans hk2⟩
set_option maxHeartbeats 1000000 in
theorem create_any (g : G8) (k : Nat) (w : World) (F : Nat → Prop) (p : Nat) (M : DK) (hk : k ≤ 800) (hF : ∀ b, w.heap.size ≤ b → F b) (h : DD g k w F p M) (s : ByteArray) (hs : s.size ≤ 1000) :
    Calls Try.prog 16 #[.pointer (some ⟨p, 0, none⟩), .string s] w (Tells (Did (k + 3) F p w (createD M s))) := by
  obtain ⟨w1, hw1, hO, hK, hS, c0, c1⟩ := box2 w p s
  have hd : DD g k w1 (But F w 2) p M := h.but hO
  have hst : (stepD M).2 = 0 → (stepD M).1 = { M with taken := M.taken + 1 } := by
    intro e
    unfold stepD at e ⊢
    split
    · rename_i hc; rw [if_pos hc] at e; cases e
    · rfl
  have hc := whole_any g k w1 (But F w 2) p M (by omega) (but_new hF hS) hd 47 #[.pointer (some ⟨w.heap.size + 1, 0, none⟩), .pointer (some ⟨w.heap.size, 0, none⟩)] (fun M => createdD M s) (enters_of Try.func47 (by kernel_rfl) rfl)
    (fun e0 w2 h1 k1 => (create1_any g (k + 1) w2 (But F w 2) p _ (by omega) (fun b hb => but_new hF hS b (Nat.le_trans k1.size hb)) h1 s hs (fun f hf e => by
        rw [hst e0] at e hf
        have h2 := (h.org f hf).2.1
        rw [e] at h2
        have h3 : ((M.taken + 1 : Nat) : Int) ≤ (M.taken : Int) := h2
        omega) _ _ (k1.cell c1 (but_not (i := 1) (by omega))) (k1.cell c0 (but_not (i := 0) (by omega)))).mono (fun e w3 ⟨v, he, hv⟩ => ⟨v, he, hv.back (Kp.refl _ _) (fun _ h => h) (by omega)⟩))
  have HK := Lib.hid (hK F)
  rw [hw1] at hc c0
  have HC := Lib.hid hc
  have HW := Lib.hid hw1
  clear h hd hc hO hK c1 hw1 hS hst
  go_enter Try.func16, Try.ntmps16
  go_wp2_with fail
  refine HC.out.mono ?_
  rintro e w' ⟨v, rfl, hv⟩
  have HV := Lib.hid hv
  clear hv
  go_wp2_with fail
  go_ret
  exact ⟨v, rfl, HV.out.back (HW.out ▸ HK.out) (fun _ h => h.1) (Nat.le_refl _)⟩
end Go.Proofs.Ytlagmjdldplblaa
