/- Texts that belong together, one behind the other: R8e, R8f, R8g, R8h. -/
import Derived.Test.YtlagmjdldplblaaDiskG
import Derived.Test.YtlagmjdldplblaaDiskE
import Derived.Test.YtlagmjdldplblaaBase
/- Contracts of the document's own disk: Remove, Rename, Sync, SyncDir, Create. -/
namespace Go.Proofs.Ytlagmjdldplblaa
open Go.ChangeShapes Go.WideShapes Go.ChangeAt Go.RowKit
set_option linter.unusedVariables false
set_option maxRecDepth 4000

/-- what a step of the document's own disk tells, and makes -/
def RDE (I : Nat → Prop) (w : World) (y : Nat) (N : DK × Int) (e : Ending) (w' : World) : Prop := e = .returned (.int .i64 N.2) ∧ RD w' (AndNew I w w') y N.1 ∧ Kp (fun b => b = y) w w'
theorem step_keeps (M : DK) : (stepD M).1.names = M.names ∧ (stepD M).1.files = M.files ∧ (stepD M).1.kept = M.kept ∧ (stepD M).1.chs = M.chs ∧ (stepD M).1.quota = M.quota ∧ (stepD M).1.taken ≤ M.taken + 1 := by
  unfold stepD
  split
  · exact ⟨rfl, rfl, rfl, rfl, rfl, Nat.le_succ _⟩
  · exact ⟨rfl, rfl, rfl, rfl, rfl, Nat.le_refl _⟩
/-- bounds -/
structure Sm8 (M : DK) : Prop where
  taken : M.taken ≤ 5000
  names : M.names.length ≤ 5000
  files : M.files.length ≤ 5000
  chs : M.chs.length ≤ 5000
  kept : M.kept.length ≤ 5000
  nm : ∀ n ∈ M.names, okName n.1 = true
  place : ∀ n ∈ M.names, n.2 < M.files.length
theorem Sm8.step {M : DK} (h : Sm8 M) : (stepD M).1.names.length ≤ 5000 ∧ (stepD M).1.files.length ≤ 5000 ∧ (stepD M).1.chs.length ≤ 5000 ∧ (∀ n ∈ (stepD M).1.names, okName n.1 = true ∧ n.2 < (stepD M).1.files.length) := by
  obtain ⟨h1, h2, h3, h4, h5, h6⟩ := step_keeps M
  rw [h1, h2, h4]
  exact ⟨h.names, h.files, h.chs, fun n hn => ⟨h.nm n hn, h.place n hn⟩⟩
theorem okN_ne8 {s : ByteArray} (h : okName s = true) : s ≠ noN := by
  rintro rfl
  revert h; decide
theorem two_f : ∀ u ∈ [Value.slice none 0 0, .int .i64 0], u.oneCell' = true := by
  intro u hu
  simp only [List.mem_cons, List.not_mem_nil, or_false] at hu
  rcases hu with rfl | rfl <;> rfl
section
variable {I : Nat → Prop} {w w1 w2 : World} {y : Nat} {M : DK} {s : ByteArray}
theorem RDE.back {N : DK × Int} {e : Ending} {w' : World} {I1 : Nat → Prop} (h : RDE I1 w1 y N e w') (hk : Kp (fun b => b = y) w w1) (hI : ∀ b, I1 b → AndNew I w w1 b) : RDE I w y N e w' :=
  ⟨h.1, h.2.1.mono (fun b hb => by
    have h1 := h.2.2.size
    have h2 := hk.size
    rcases hb with hb | ⟨e1, e2⟩
    · rcases hI b hb with hb | ⟨e1, e2⟩
      · exact .inl hb
      · exact .inr ⟨e1, by omega⟩
    · exact .inr ⟨by omega, e2⟩), hk.trans h.2.2⟩
theorem find_none {l : List Nm8} (hn : findN l s = none) : ¬ (0 : Int) ≤ plOf (findN l s) ∧ plOf (findN l s) < 0 := by rw [hn]; exact ⟨by decide, by decide⟩
set_option maxHeartbeats 2000000 in
theorem rremove_any (h : RD w I y M) (hs8 : Sm8 M) (s : ByteArray) : Calls Try.prog 61 #[.pointer (some ⟨y, 0, none⟩), .string s] w (RDE I w y (removeD M s)) := by
  obtain ⟨vF, vN, vK, vC, vX, hR⟩ := h
  have hkp := step_keeps M
  have HS8 := Lib.hid hs8.step
  go_enter Try.func61, Try.ntmps61
  go_wp2_with fail
  refine (rstep_any hR (by have := hs8.taken; omega)).mono ?_
  rintro e w1 ⟨rfl, h1, hk1⟩
  have HC := Lib.hid (show removeD M s = thenD M (fun M => removedD M s) from rfl)
  unfold thenD at HC
  generalize hSS : stepD M = S at *
  obtain ⟨M1, e0⟩ := S
  simp only at h1 HS8 HC
  clear hSS hkp hR hs8
  have H1 := Lib.hid h1
  have HK := Lib.hid hk1
  by_cases he : e0 = 0
  rotate_left
  · have hne : (e0 == 0) = false := by rw [beq_eq_false_iff_ne]; exact he
    have HC2 := HC.out
    rw [if_neg he] at HC2
    clear HC h1 hk1
    go_wp2_with fail
    go_ret
    rw [HC2]
    exact ⟨rfl, ⟨_, _, _, _, _, H1.out.mono (fun b hb => .inl hb)⟩, HK.out⟩
  subst he
  have HC2 := HC.out
  rw [if_pos rfl] at HC2
  replace HC2 := Lib.hid HC2
  clear HC
  obtain ⟨An, Cn, rfl, hCn, hnv, hnA⟩ := h1.names
  have c3 := h1.blk.cell 3 (v := .slice An M1.names.length Cn) rfl
  have hnl := HS8.out.1
  clear h1 hk1
  go_wp2_with fail
  refine (find8_any An _ Cn M1.names s _ hnv (by omega)).mono ?_
  rintro e w2 ⟨rfl, rfl⟩
  cases hf : findN M1.names s with
  | none =>
    have HF := Lib.hid hf
    clear hf
    have hpl : plOf none = -1 := rfl
    rw [hpl]
    go_wp2_with fail
    go_ret
    rw [HC2.out]
    unfold removedD
    rw [HF.out]
    exact ⟨rfl, ⟨_, _, _, _, _, H1.out.mono (fun b hb => .inl hb)⟩, HK.out⟩
  | some f =>
    have HF := Lib.hid hf
    clear hf
    have hpl : plOf (some f) = (f : Int) := rfl
    rw [hpl]
    have hf0 : ¬ (f : Int) < 0 := by omega
    go_wp2_with fail
    refine (rchange_any H1.out HS8.out.1 HS8.out.2.2.1 ⟨s, f, noN, 0⟩).mono ?_
    rintro e w3 ⟨rfl, hr, hk3⟩
    have hok := (HS8.out.2.2.2 _ (findN_mem HF.out)).1
    have hch : rch ⟨s, f, noN, 0⟩ = ⟨some s, none⟩ := by unfold rch; rw [if_neg (okN_ne8 hok), if_pos rfl]
    rw [hch] at hr
    have HR3 := Lib.hid (And.intro hr hk3)
    clear hr hk3 hch hok hnv hnA c3
    go_wp2_with fail
    go_ret
    rw [HC2.out]
    unfold removedD
    rw [HF.out]
    exact RDE.back ⟨rfl, HR3.out.1, HR3.out.2⟩ HK.out (fun b hb => .inl hb)
set_option maxHeartbeats 2000000 in
theorem rrename_any (h : RD w I y M) (hs8 : Sm8 M) (s t : ByteArray) : Calls Try.prog 60 #[.pointer (some ⟨y, 0, none⟩), .string s, .string t] w (RDE I w y (renameD M s t)) := by
  obtain ⟨vF, vN, vK, vC, vX, hR⟩ := h
  have hkp := step_keeps M
  have HS8 := Lib.hid hs8.step
  go_enter Try.func60, Try.ntmps60
  go_wp2_with fail
  refine (rstep_any hR (by have := hs8.taken; omega)).mono ?_
  rintro e w1 ⟨rfl, h1, hk1⟩
  have HC := Lib.hid (show renameD M s t = thenD M (fun M => renamedD M s t) from rfl)
  unfold thenD at HC
  generalize hSS : stepD M = S at *
  obtain ⟨M1, e0⟩ := S
  simp only at h1 HS8 HC
  clear hSS hkp hR hs8
  have H1 := Lib.hid h1
  have HK := Lib.hid hk1
  by_cases he : e0 = 0
  rotate_left
  · have hne : (e0 == 0) = false := by rw [beq_eq_false_iff_ne]; exact he
    have HC2 := HC.out
    rw [if_neg he] at HC2
    clear HC h1 hk1
    go_wp2_with fail
    go_ret
    rw [HC2]
    exact ⟨rfl, ⟨_, _, _, _, _, H1.out.mono (fun b hb => .inl hb)⟩, HK.out⟩
  subst he
  have HC2 := HC.out
  rw [if_pos rfl] at HC2
  replace HC2 := Lib.hid HC2
  clear HC
  obtain ⟨An, Cn, rfl, hCn, hnv, hnA⟩ := h1.names
  have c3 := h1.blk.cell 3 (v := .slice An M1.names.length Cn) rfl
  have hnl := HS8.out.1
  clear h1 hk1
  by_cases hz : t.size < 1
  · have hzi : (t.size : Int) < 1 := by omega
    have HO := Lib.hid (show okName t = false by unfold okName; rw [decide_eq_false_iff_not]; omega)
    go_wp2_with fail
    go_ret
    rw [HC2.out]
    unfold renamedD; rw [if_pos HO.out]
    exact ⟨rfl, ⟨_, _, _, _, _, H1.out.mono (fun b hb => .inl hb)⟩, HK.out⟩
  have hzi : ¬ (t.size : Int) < 1 := by omega
  by_cases hz2 : 20 < t.size
  · have hzi2 : (20 : Int) < (t.size : Int) := by omega
    have HO := Lib.hid (show okName t = false by unfold okName; rw [decide_eq_false_iff_not]; omega)
    go_wp2_with fail
    go_ret
    rw [HC2.out]
    unfold renamedD; rw [if_pos HO.out]
    exact ⟨rfl, ⟨_, _, _, _, _, H1.out.mono (fun b hb => .inl hb)⟩, HK.out⟩
  have hzi2 : ¬ (20 : Int) < (t.size : Int) := by omega
  have HO := Lib.hid (show okName t = true by unfold okName; rw [decide_eq_true_iff]; omega)
  go_wp2_with fail
  refine (find8_any An _ Cn M1.names s _ hnv (by omega)).mono ?_
  rintro e w2 ⟨rfl, rfl⟩
  cases hf : findN M1.names s with
  | none =>
    have HF := Lib.hid hf
    clear hf
    have hpl : plOf none = -1 := rfl
    rw [hpl]
    go_wp2_with fail
    go_ret
    rw [HC2.out]
    unfold renamedD; rw [if_neg (by rw [HO.out]; decide), HF.out]
    exact ⟨rfl, ⟨_, _, _, _, _, H1.out.mono (fun b hb => .inl hb)⟩, HK.out⟩
  | some f =>
    have HF := Lib.hid hf
    clear hf
    have hpl : plOf (some f) = (f : Int) := rfl
    rw [hpl]
    have hf0 : ¬ (f : Int) < 0 := by omega
    go_wp2_with fail
    refine (rchange_any H1.out HS8.out.1 HS8.out.2.2.1 ⟨s, f, t, f⟩).mono ?_
    rintro e w3 ⟨rfl, hr, hk3⟩
    have hok := (HS8.out.2.2.2 _ (findN_mem HF.out)).1
    have hch : rch ⟨s, f, t, f⟩ = ⟨some s, some (t, f)⟩ := by unfold rch; rw [if_neg (okN_ne8 hok), if_neg (okN_ne8 HO.out)]
    rw [hch] at hr
    have HR3 := Lib.hid (And.intro hr hk3)
    clear hr hk3 hch hok hnv hnA c3
    go_wp2_with fail
    go_ret
    rw [HC2.out]
    unfold renamedD
    rw [if_neg (by rw [HO.out]; decide), HF.out]
    exact RDE.back ⟨rfl, HR3.out.1, HR3.out.2⟩ HK.out (fun b hb => .inl hb)
/-- a file as it is laid -/
theorem RFs.at {J : Nat → Prop} {v : Value} {l : List Fl8} (h : RFs J w v l) {f : Nat} (hf : f < l.length) : ∃ A C b off Av nv cv, v = .slice A l.length C ∧ A = some ⟨b, off, none⟩ ∧ w.cell? ⟨b, off + f * 2, none⟩ = some (.slice Av nv cv) ∧ w.cell? ⟨b, off + f * 2 + 1, none⟩ = some (.int .i64 ((l.getD f ([], 0)).2 : Int)) ∧ nv ≤ cv ∧ BV w Av nv (l.getD f ([], 0)).1 ∧ (∀ y, Av = some y → J y.block) ∧ J b := by
  obtain ⟨ps, rfl, ⟨A, C, rfl, hC, hsv, hA⟩, hb⟩ := h
  rw [List.length_map] at hf
  obtain ⟨e0, e1⟩ := pcells_at ps f hf
  obtain ⟨-, -, h0 | ⟨b, off, rfl, hc⟩⟩ := hsv
  · omega
  · have hg : ps.getD f pf0 = ps[f] := by rw [List.getD_eq_getElem?_getD, List.getElem?_eq_getElem hf, Option.getD_some]
    obtain ⟨Av, nv, cv, hv, hnc, hbv, hJ⟩ := hb _ (List.getElem_mem hf)
    have hg2 : (ps.map Prod.snd).getD f ([], 0) = ps[f].2 := by rw [List.getD_eq_getElem?_getD, List.getElem?_map, List.getElem?_eq_getElem hf]; rfl
    have c0 := hc _ _ e0
    have c1 := hc _ _ e1
    rw [hg] at c0 c1
    rw [hv] at c0
    rw [hg2, List.length_map]
    exact ⟨some ⟨b, off, none⟩, C, b, off, Av, nv, cv, rfl, rfl, c0, by rw [Nat.add_assoc]; exact c1, hnc, hbv, hJ, hA _ rfl⟩
set_option maxHeartbeats 2000000 in
theorem rsync_any (h : RD w I y M) (hs8 : Sm8 M) (s : ByteArray) : Calls Try.prog 58 #[.pointer (some ⟨y, 0, none⟩), .string s] w (RDE I w y (syncD M s)) := by
  obtain ⟨vF, vN, vK, vC, vX, hR⟩ := h
  have hkp := step_keeps M
  have HS8 := Lib.hid hs8.step
  go_enter Try.func58, Try.ntmps58
  go_wp2_with fail
  refine (rstep_any hR (by have := hs8.taken; omega)).mono ?_
  rintro e w1 ⟨rfl, h1, hk1⟩
  have HC := Lib.hid (show syncD M s = thenD M (fun M => syncedD M s) from rfl)
  unfold thenD at HC
  generalize hSS : stepD M = S at *
  obtain ⟨M1, e0⟩ := S
  simp only at h1 HS8 HC
  clear hSS hkp hR hs8
  have H1 := Lib.hid h1
  have HK := Lib.hid hk1
  by_cases he : e0 = 0
  rotate_left
  · have hne : (e0 == 0) = false := by rw [beq_eq_false_iff_ne]; exact he
    have HC2 := HC.out
    rw [if_neg he] at HC2
    clear HC h1 hk1
    go_wp2_with fail
    go_ret
    rw [HC2]
    exact ⟨rfl, ⟨_, _, _, _, _, H1.out.mono (fun b hb => .inl hb)⟩, HK.out⟩
  subst he
  have HC2 := HC.out
  rw [if_pos rfl] at HC2
  replace HC2 := Lib.hid HC2
  clear HC
  obtain ⟨An, Cn, rfl, hCn, hnv, hnA⟩ := h1.names
  have c3 := h1.blk.cell 3 (v := .slice An M1.names.length Cn) rfl
  have c2 := h1.blk.cell 2 (v := vF) rfl
  have hnl := HS8.out.1
  have hfl := HS8.out.2.1
  clear h1 hk1
  go_wp2_with fail
  refine (find8_any An _ Cn M1.names s _ hnv (by omega)).mono ?_
  rintro e w2 ⟨rfl, rfl⟩
  cases hf : findN M1.names s with
  | none =>
    have HF := Lib.hid hf
    clear hf
    have hpl : plOf none = -1 := rfl
    rw [hpl]
    go_wp2_with fail
    go_ret
    rw [HC2.out]
    unfold syncedD; rw [HF.out]
    exact ⟨rfl, ⟨_, _, _, _, _, H1.out.mono (fun b hb => .inl hb)⟩, HK.out⟩
  | some f =>
    have HF := Lib.hid hf
    have hff : f < M1.files.length := (HS8.out.2.2.2 _ (findN_mem hf)).2
    clear hf
    have hpl : plOf (some f) = (f : Int) := rfl
    rw [hpl]
    have hf0 : ¬ (f : Int) < 0 := by omega
    obtain ⟨A, C, b, off, Av, nv, cv, rfl, rfl, p0, p1, hnc, hbv, hAv, hJb⟩ := H1.out.files.at hff
    have hfi : (f : Int) < (M1.files.length : Int) := by omega
    obtain ⟨x, hx⟩ : ∃ x, M1.files.getD f ([], 0) = x := ⟨_, rfl⟩
    rw [hx] at p1 hbv
    have hnx : x.1.length = nv := hbv.1
    have HV := Lib.hid (And.intro hbv (And.intro hAv (And.intro hnx (show flN M1 f = x from hx))))
    clear hbv hAv hnv hnA hx hnx
    go_wp2_with fail
    have hw3 : Below w2.heap.size w2 (w2.alloc (.cells #[.slice Av nv cv, .int .i64 (x.2 : Int)] 93)) := Joins.below_alloc1 _ _
    refine (rput_any (H1.out.still hw3) (by omega) f hff (x.1, nv) (v := .slice Av nv cv) ⟨Av, nv, cv, rfl, hnc, HV.out.1.below hw3, HV.out.2.1⟩).mono ?_
    rintro e w3 ⟨rfl, hr, hk3⟩
    have HR3 := Lib.hid (And.intro hr (And.intro hk3 hw3))
    clear hr hk3 hw3 p0 p1 c2 c3
    go_wp2_with fail
    go_ret
    rw [HC2.out]
    unfold syncedD
    rw [HF.out]
    simp only [HV.out.2.2.2]
    rw [HV.out.2.2.1]
    exact RDE.back ⟨rfl, HR3.out.1, HR3.out.2.1⟩ (HK.out.trans (Kp.of_new HR3.out.2.2)) (fun b hb => .inl hb)
set_option maxHeartbeats 2000000 in
theorem rsyncDir_any (h : RD w I y M) (hs8 : Sm8 M) : Calls Try.prog 59 #[.pointer (some ⟨y, 0, none⟩)] w (RDE I w y (syncDirD M)) := by
  obtain ⟨vF, vN, vK, vC, vX, hR⟩ := h
  have hkp := step_keeps M
  have HS8 := Lib.hid hs8.step
  go_enter Try.func59, Try.ntmps59
  go_wp2_with fail
  refine (rstep_any hR (by have := hs8.taken; omega)).mono ?_
  rintro e w1 ⟨rfl, h1, hk1⟩
  have HC := Lib.hid (show syncDirD M = thenD M (fun M => (keptD M, 0)) from rfl)
  unfold thenD at HC
  generalize hSS : stepD M = S at *
  obtain ⟨M1, e0⟩ := S
  simp only at h1 HS8 HC
  clear hSS hkp hR hs8
  have H1 := Lib.hid h1
  have HK := Lib.hid hk1
  by_cases he : e0 = 0
  rotate_left
  · have hne : (e0 == 0) = false := by rw [beq_eq_false_iff_ne]; exact he
    have HC2 := HC.out
    rw [if_neg he] at HC2
    clear HC h1 hk1
    go_wp2_with fail
    go_ret
    rw [HC2]
    exact ⟨rfl, ⟨_, _, _, _, _, H1.out.mono (fun b hb => .inl hb)⟩, HK.out⟩
  subst he
  have HC2 := HC.out
  rw [if_pos rfl] at HC2
  replace HC2 := Lib.hid HC2
  clear HC
  obtain ⟨An, Cn, rfl, hCn, hnv, hnA⟩ := h1.names
  have hB1 := h1.blk
  have hnl := HS8.out.1
  have hlt := hB1.lt
  have hw2 : Below w1.heap.size w1 (w1.alloc (.cells #[] 89)) := Joins.below_alloc1 _ _
  have o0 : OS 2 (w1.alloc (.cells #[] 89)) w1.heap.size (.slice (some ⟨w1.heap.size, 0, none⟩) 0 0) 0 [] := OS.lit (k := 2) w1 w1.heap.size (Nat.le_refl _) [] 0 89 rfl (by simp) (by simp) _ rfl
  have hnv2 := SV.below hnv hw2
  have c3 := (hB1.below hw2).cell 3 (v := .slice An M1.names.length Cn) rfl
  clear h1 hk1 hnv
  go_upto_region 5 with (at_builtin; refine append_os el_names8 rfl (.tmp 10) (.tmp 14) rfl w1.heap.size _ 0 [] rfl o0 An M1.names.length Cn (ncells M1.names) rfl hnv2 (by omega) (by omega) hw2.size ?_; intro v2 w2 ho2 hb2; rw [Nat.zero_add, List.nil_append] at ho2; have hb3 := hw2.trans hb2; have hB2 := hB1.below hb3; have f4 := hB2.free 4; have c4 := hB2.cell 4 (v := vK) rfl; obtain ⟨A2, C2, rfl⟩ := ho2.shape)
  have hRK : RSl (Jn (AndNew I w1 w2) y) 2 w2 (.slice A2 M1.names.length C2) M1.names.length (ncells M1.names) := RSl.fresh ho2 hlt
  have hR3 := H1.out.setK hb3 hRK
  have hK3 := kp_set (y := y) hb3 4 (.slice A2 M1.names.length C2)
  have hsw : (w2.setCell ⟨y, 4, none⟩ (.slice A2 M1.names.length C2)).heap.size = w2.heap.size := size_set _ _ _
  generalize (w2.setCell ⟨y, 4, none⟩ (.slice A2 M1.names.length C2)) = w3 at *
  have c5 := hR3.blk.cell 5 (v := vC) rfl
  have f5 := hR3.blk.free 5
  have hR4 := hR3.setC (v := .slice none 0 0) (l := []) (Below.refl _ _) ⟨[], rfl, RSl.nil _ _ _⟩
  have hK4 := hK3.trans (kp_set (y := y) (Below.refl w3.heap.size w3) 5 (.slice none 0 0))
  have HR := Lib.hid (And.intro hR4 (And.intro hK4 hsw))
  clear hRK hR3 hK3 hsw hR4 hK4 c3 c4 f4 hB2 hb3 hb2 ho2 o0 hnv2 hw2 hB1
  go_wp2_with fail
  go_ret
  rw [HC2.out]
  have hs3 := HR.out.2.2
  refine RDE.back (I1 := I) ⟨rfl, ⟨_, _, _, _, _, HR.out.1.mono (fun b hb => ?_)⟩, HR.out.2.1⟩ HK.out (fun b hb => .inl hb)
  have h3 := HR.out.2.1.size
  rw [size_set] at h3
  rcases hb with (hb | ⟨e1, e2⟩) | ⟨e1, e2⟩
  · exact .inl hb
  · exact .inr ⟨e1, by rw [size_set]; omega⟩
  · omega
set_option maxHeartbeats 4000000 in
theorem rcreate_any (h : RD w I y M) (hs8 : Sm8 M) (s : ByteArray) : Calls Try.prog 56 #[.pointer (some ⟨y, 0, none⟩), .string s] w (RDE I w y (createD M s)) := by
  obtain ⟨vF, vN, vK, vC, vX, hR⟩ := h
  have hkp := step_keeps M
  have HS8 := Lib.hid hs8.step
  go_enter Try.func56, Try.ntmps56
  go_wp2_with fail
  refine (rstep_any hR (by have := hs8.taken; omega)).mono ?_
  rintro e w1 ⟨rfl, h1, hk1⟩
  have HC := Lib.hid (show createD M s = thenD M (fun M => createdD M s) from rfl)
  unfold thenD at HC
  generalize hSS : stepD M = S at *
  obtain ⟨M1, e0⟩ := S
  simp only at h1 HS8 HC
  clear hSS hkp hR hs8
  have H1 := Lib.hid h1
  have HK := Lib.hid hk1
  by_cases he : e0 = 0
  rotate_left
  · have hne : (e0 == 0) = false := by rw [beq_eq_false_iff_ne]; exact he
    have HC2 := HC.out
    rw [if_neg he] at HC2
    clear HC h1 hk1
    go_wp2_with fail
    go_ret
    rw [HC2]
    exact ⟨rfl, ⟨_, _, _, _, _, H1.out.mono (fun b hb => .inl hb)⟩, HK.out⟩
  subst he
  have HC2 := HC.out
  rw [if_pos rfl] at HC2
  replace HC2 := Lib.hid HC2
  clear HC
  obtain ⟨An, Cn, rfl, hCn, hnv, hnA⟩ := h1.names
  have c3 := h1.blk.cell 3 (v := .slice An M1.names.length Cn) rfl
  have hnl := HS8.out.1
  have hfl := HS8.out.2.1
  have hlt := h1.blk.lt
  clear h1 hk1
  by_cases hz : s.size < 1
  · have hzi : (s.size : Int) < 1 := by omega
    have HO := Lib.hid (show okName s = false by unfold okName; rw [decide_eq_false_iff_not]; omega)
    go_wp2_with fail
    go_ret
    rw [HC2.out]
    unfold createdD; rw [if_pos HO.out]
    exact ⟨rfl, ⟨_, _, _, _, _, H1.out.mono (fun b hb => .inl hb)⟩, HK.out⟩
  have hzi : ¬ (s.size : Int) < 1 := by omega
  by_cases hz2 : 20 < s.size
  · have hzi2 : (20 : Int) < (s.size : Int) := by omega
    have HO := Lib.hid (show okName s = false by unfold okName; rw [decide_eq_false_iff_not]; omega)
    go_wp2_with fail
    go_ret
    rw [HC2.out]
    unfold createdD; rw [if_pos HO.out]
    exact ⟨rfl, ⟨_, _, _, _, _, H1.out.mono (fun b hb => .inl hb)⟩, HK.out⟩
  have hzi2 : ¬ (20 : Int) < (s.size : Int) := by omega
  have HO := Lib.hid (show okName s = true by unfold okName; rw [decide_eq_true_iff]; omega)
  go_wp2_with fail
  refine (find8_any An _ Cn M1.names s _ hnv (by omega)).mono ?_
  rintro e w2 ⟨rfl, rfl⟩
  cases hf : findN M1.names s with
  | some f =>
    have HF := Lib.hid hf
    clear hf
    have hpl : plOf (some f) = (f : Int) := rfl
    rw [hpl]
    have hf0 : (0 : Int) ≤ (f : Int) := by omega
    go_wp2_with fail
    go_ret
    rw [HC2.out]
    unfold createdD; rw [if_neg (by rw [HO.out]; decide), if_pos (by rw [HF.out]; simp)]
    exact ⟨rfl, ⟨_, _, _, _, _, H1.out.mono (fun b hb => .inl hb)⟩, HK.out⟩
  | none =>
    have HF := Lib.hid hf
    clear hf
    have hpl : plOf none = -1 := rfl
    rw [hpl]
    by_cases h200 : 200 ≤ M1.names.length
    · have h200i : (200 : Int) ≤ (M1.names.length : Int) := by omega
      go_wp2_with fail
      go_ret
      rw [HC2.out]
      unfold createdD; rw [if_neg (by rw [HO.out]; decide), if_neg (by rw [HF.out]; simp), if_pos h200]
      exact ⟨rfl, ⟨_, _, _, _, _, H1.out.mono (fun b hb => .inl hb)⟩, HK.out⟩
    have h200i : ¬ (200 : Int) ≤ (M1.names.length : Int) := by omega
    obtain ⟨ps, hps, ⟨A, C, rfl, hC, hsv, hA⟩, hpb⟩ := H1.out.files
    have hpn : ps.length = M1.files.length := by rw [hps, List.length_map]
    have hB2 := H1.out.blk
    have hw3 : Below w2.heap.size w2 (w2.alloc (.cells #[] 93)) := Joins.below_alloc1 _ _
    have o0 : OS 2 (w2.alloc (.cells #[] 93)) w2.heap.size (.slice (some ⟨w2.heap.size, 0, none⟩) 0 0) 0 [] := OS.lit (k := 2) w2 w2.heap.size (Nat.le_refl _) [] 0 93 rfl (by simp) (by simp) _ rfl
    have hsv3 := SV.below hsv hw3
    have c2 := (hB2.below hw3).cell 2 (v := .slice A ps.length C) rfl
    have HP := Lib.hid (And.intro hps (And.intro hpb (And.intro hpn hB2)))
    have hp5 : ps.length ≤ 5000 := by omega
    clear hps hpb hpn hB2 hsv
    go_upto_region 11 with (at_builtin; first | (refine append_os el_files8 rfl (.tmp 33) (.tmp 37) rfl w2.heap.size _ 0 [] rfl o0 A ps.length C (pcells ps) rfl hsv3 (by omega) (by omega) hw3.size ?_; intro v4 w4 ho4 hb4; rw [Nat.zero_add, List.nil_append] at ho4; have hw4 := hw3.trans hb4; clear o0 hsv3) | (refine append_os el_files8 rfl (.tmp 38) (.tmp 40) rfl w2.heap.size _ ps.length (pcells ps) rfl (ho4.alloc _) _ 1 1 [.slice none 0 0, .int .i64 0] rfl (SV.lit' (k := 2) _ [.slice none 0 0, .int .i64 0] 1 93 rfl two_f _ rfl) (by omega) (by omega) (hw4.alloc hw4.size _).size ?_; intro v5 w5 ho5 hb5; have hw5 := (hw4.alloc hw4.size (.cells #[.slice none 0 0, .int .i64 0] 93)).trans hb5; have hB5 := HP.out.2.2.2.below hw5; have f2 := hB5.free 2; have c2' := hB5.cell 2 (v := .slice A ps.length C) rfl; obtain ⟨A5, C5, rfl⟩ := ho5.shape))
    have hRF : RFs (Jn (AndNew I w2 w5) y) w5 (.slice A5 (ps.length + 1) C5) (M1.files ++ [([], 0)]) := by
      refine ⟨ps ++ [(.slice none 0 0, ([], 0))], by rw [List.map_append, ← HP.out.1]; rfl, ?_, ?_⟩
      · rw [List.length_append, List.length_singleton, pcells_app]
        exact RSl.fresh ho5 hlt
      · intro q hq
        rcases List.mem_append.1 hq with hq | hq
        · exact (HP.out.2.1 q hq).kp (Kp.of_new (F := fun _ => False) hw5) (fun _ _ h => h) (fun b hb => ⟨.inl hb.1, hb.2⟩)
        · rw [List.mem_singleton.1 hq]
          exact ⟨none, 0, 0, rfl, Nat.le_refl _, (bv_of (w := w5) (a := none) (len := 0) (cap := 0) (zs := []) (.inl ⟨rfl, rfl, rfl, rfl⟩)).1, fun x hx => by cases hx⟩
    have hR6 := H1.out.setF hw5 hRF
    have hK6 := kp_set (y := y) hw5 2 (.slice A5 (ps.length + 1) C5)
    have hs6 : (w5.setCell ⟨y, 2, none⟩ (.slice A5 (ps.length + 1) C5)).heap.size = w5.heap.size := size_set _ _ _
    generalize (w5.setCell ⟨y, 2, none⟩ (.slice A5 (ps.length + 1) C5)) = w6 at *
    have c2'' := hR6.blk.cell 2 (v := .slice A5 (ps.length + 1) C5) rfl
    have HR := Lib.hid (And.intro hR6 (And.intro hK6 hs6))
    have HN := Lib.hid HP.out.2.2.1
    have HH200 := Lib.hid h200
    have HL5 := Lib.hid (show (M1.files ++ [([], 0)]).length ≤ 5001 by rw [List.length_append, List.length_singleton]; omega)
    clear hR6 hK6 hs6 hRF c2' f2 hB5 hw5 hb5 ho5 hw4 hb4 ho4 HP hnv hnA hA hC c2 hw3 c3 h200
    go_wp2_with fail
    refine (rchange_any HR.out.1 HS8.out.1 HS8.out.2.2.1 ⟨noN, 0, s, ps.length⟩).mono ?_
    rintro e w7 ⟨rfl, hr, hk7⟩
    have hch : rch ⟨noN, 0, s, ps.length⟩ = ⟨none, some (s, ps.length)⟩ := by unfold rch; rw [if_pos rfl, if_neg (okN_ne8 HO.out)]
    rw [hch] at hr
    have HR7 := Lib.hid (And.intro hr hk7)
    clear hr hk7 hch c2''
    go_wp2_with fail
    go_ret
    rw [HC2.out]
    unfold createdD
    rw [if_neg (by rw [HO.out]; decide), if_neg (by rw [HF.out]; simp), if_neg HH200.out, ← HN.out]
    refine RDE.back (I1 := AndNew I w2 w5) (w1 := w6) ⟨rfl, HR7.out.1, HR7.out.2⟩ (HK.out.trans HR.out.2.1) (fun b hb => ?_)
    have h6 := HR.out.2.2
    have h7 := HK.out.size
    rcases hb with hb | ⟨e1, e2⟩
    · exact .inl hb
    · exact .inr ⟨by omega, by omega⟩
end
end Go.Proofs.Ytlagmjdldplblaa
/- Contracts of the document's own disk: Used, All, Read, Append. -/
namespace Go.Proofs.Ytlagmjdldplblaa
open Go.ChangeShapes Go.WideShapes Go.ChangeAt Go.RowKit
set_option linter.unusedVariables false
set_option maxRecDepth 4000

theorem usedL_take (files : List Fl8) (l : List Nm8) (j : Nat) (h : j < l.length) : usedL files (l.take (j + 1)) = usedL files (l.take j) + (files.getD (l.getD j nm0).2 ([], 0)).1.length := by
  rw [take_nm l j h]
  simp [usedL]
theorem usedL_part (files : List Fl8) (l : List Nm8) (j : Nat) : usedL files (l.take j) ≤ usedL files l := by
  have h2 : usedL files (l.take j ++ l.drop j) = usedL files (l.take j) + usedL files (l.drop j) := by unfold usedL; rw [List.map_append, List.sum_append]
  rw [List.take_append_drop] at h2
  omega
section
variable {I : Nat → Prop} {w w1 w2 : World} {y : Nat} {M : DK} {s : ByteArray} {vF vN vK vC vX : Value}
theorem getD_mem8 {l : List Nm8} {j : Nat} (h : j < l.length) : l.getD j nm0 ∈ l := by
  rw [List.getD_eq_getElem?_getD, List.getElem?_eq_getElem h, Option.getD_some]; exact List.getElem_mem h
set_option maxHeartbeats 2000000 in
theorem rused_any (h : RP w I y M vF vN vK vC vX) (hnl : M.names.length ≤ 5000) (hp : ∀ n ∈ M.names, n.2 < M.files.length) (hub : usedD M ≤ 1000000000) : Calls Try.prog 63 #[.pointer (some ⟨y, 0, none⟩)] w fun e w' => e = .returned (.int .i64 (usedD M : Int)) ∧ Below w.heap.size w w' := by
  obtain ⟨An, Cn, rfl, hCn, hnv, hnA⟩ := h.names
  have c3 := h.blk.cell 3 (v := .slice An M.names.length Cn) rfl
  have c2 := h.blk.cell 2 (v := vF) rfl
  have HF := Lib.hid h.files
  have HP := Lib.hid hp
  have HU := Lib.hid (show usedL M.files M.names ≤ 1000000000 from hub)
  obtain ⟨N, hN⟩ : ∃ N, M.names.length = N := ⟨_, rfl⟩
  rw [hN] at c3 hnv hnl
  have HN := Lib.hid hN
  clear h hp hub hN
  go_enter Try.func63, Try.ntmps63
  go_wp2_with fail
  go_loopw [3, 4] (fun a i wr => ∃ (j q : Nat), j ≤ N ∧ i = .int .i64 (j : Int) ∧ a = .int .i64 (q : Int) ∧ Hid (q = usedL M.files (M.names.take j)) ∧ Below w.heap.size w wr) (fun _ i _ => N - (intOf i).toNat)
  case atStart => exact ⟨0, 0, by omega, rfl, rfl, Lib.hid rfl, Below.refl _ _⟩
  case round =>
    obtain ⟨j, q, hj, rfl, rfl, HQ, hbel⟩ := hrel
    replace c2 := keepc c2 hbel
    replace c3 := keepc c3 hbel
    have hq := HQ.out
    have hqp := usedL_part M.files M.names j
    have hqu := HU.out
    by_cases hlt : j < N
    · obtain ⟨b, off, rfl, e1, e2⟩ := NV.at hnv j hlt
      replace e2 := keepc e2 hbel
      have hji : (j : Int) < (N : Int) := by omega
      have hst := usedL_take M.files M.names j (by rw [HN.out]; exact hlt)
      have hm := HP.out _ (getD_mem8 (by rw [HN.out]; exact hlt))
      have hqs := usedL_part M.files M.names (j + 1)
      obtain ⟨f, hfe⟩ : ∃ f, (M.names.getD j nm0).2 = f := ⟨_, rfl⟩
      rw [hfe] at e2 hst hm
      obtain ⟨A, C, b', off', Av, nv, cv, rfl, rfl, p0, p1, hnc, hbv, -, -⟩ := HF.out.at hm
      replace p0 := keepc p0 hbel
      have hfi : (f : Int) < (M.files.length : Int) := by omega
      have hnv0 := hbv.1
      rw [hnv0] at hst
      have HS := Lib.hid (show q + nv = usedL M.files (M.names.take (j + 1)) by omega)
      have hA1 : IntKind.i64.wrap ((q : Int) + (nv : Int)) = ((q + nv : Nat) : Int) := by rw [IntKind.wrap_i64]; omega
      clear hq hqp hqu hst hqs hfe hbv hnv0 e1 p1 hm
      go_wp2_with fail
      refine wp_region_noPanic ?_
      refine region_g 19 (Ext (World.drew _)) (by kernel_rfl) (Ext.refl _) (fun hS => ?_)
      refine take_w (i := 0) (v := ?_) (some 14) rfl (by kernel_rfl) rfl (fun _ _ _ h => h) (Or.inl ⟨by rfl, ?_⟩) hS ?_
      rotate_left
      · (intro wq hq; go_simp); first | done | with_reducible rfl
      try simp only [Act.put, List.setIfInBounds_toArray, List.set_cons_zero, List.set_cons_succ]
      replace hS := Till.list 0 hS
      refine take_w (i := 1) (v := ?_) (some 15) rfl (by kernel_rfl) rfl (fun _ _ _ h => h) (Or.inl ⟨by rfl, ?_⟩) hS ?_
      rotate_left
      · (intro wq hq; go_simp); first | done | with_reducible rfl
      try simp only [Act.put, List.setIfInBounds_toArray, List.set_cons_zero, List.set_cons_succ]
      replace hS := Till.list 1 hS
      refine take_w (i := 5) (v := ?_) (some 19) rfl (by kernel_rfl) rfl (fun _ _ _ h => h) (Or.inl ⟨by rfl, ?_⟩) hS ?_
      rotate_left
      · (intro wq hq; go_simp); first | done | with_reducible rfl
      try simp only [Act.put, List.setIfInBounds_toArray, List.set_cons_zero, List.set_cons_succ]
      replace hS := Till.list 5 hS
      refine take_w (i := 9) (v := ?_) (some 23) rfl (by kernel_rfl) rfl (fun _ _ _ h => h) (Or.inl ⟨by rfl, ?_⟩) hS ?_
      rotate_left
      · (intro wq hq; go_simp); first | done | with_reducible rfl
      try simp only [Act.put, List.setIfInBounds_toArray, List.set_cons_zero, List.set_cons_succ]
      replace hS := Till.list 9 hS
      refine take_w (i := 2) (v := ?_) (some 16) rfl (by kernel_rfl) rfl (fun _ _ _ h => h) (Or.inl ⟨by rfl, ?_⟩) hS ?_
      rotate_left
      · (intro wq hq; go_simp); first | done | with_reducible rfl
      try simp only [Act.put, List.setIfInBounds_toArray, List.set_cons_zero, List.set_cons_succ]
      replace hS := Till.list 2 hS
      refine take_w (i := 6) (v := ?_) (some 20) rfl (by kernel_rfl) rfl (fun _ _ _ h => h) (Or.inl ⟨by rfl, ?_⟩) hS ?_
      rotate_left
      · (intro wq hq; go_simp); first | done | with_reducible rfl
      try simp only [Act.put, List.setIfInBounds_toArray, List.set_cons_zero, List.set_cons_succ]
      replace hS := Till.list 6 hS
      refine take_w (i := 3) (v := ?_) (some 17) rfl (by kernel_rfl) rfl (fun _ _ _ h => h) (Or.inl ⟨by rfl, ?_⟩) hS ?_
      rotate_left
      · (intro wq hq; go_simp); first | done | with_reducible rfl
      try simp only [Act.put, List.setIfInBounds_toArray, List.set_cons_zero, List.set_cons_succ]
      replace hS := Till.list 3 hS
      refine take_w (i := 7) (v := ?_) (some 21) rfl (by kernel_rfl) rfl (fun _ _ _ h => h) (Or.inl ⟨by rfl, ?_⟩) hS ?_
      rotate_left
      · (intro wq hq; go_simp); first | done | with_reducible rfl
      try simp only [Act.put, List.setIfInBounds_toArray, List.set_cons_zero, List.set_cons_succ]
      replace hS := Till.list 7 hS
      refine take_n (i := 4) (v := ?_) (some 18) rfl (by kernel_rfl) rfl (fun _ _ _ h => h) (Or.inl ⟨by rfl, ?_⟩) hS ?_
      rotate_left
      · (intro wq hq; have q0 := hq _ _ _ c2; have q1 := hq _ _ _ c3; have q2 := hq _ _ _ e2; have q3 := hq _ _ _ p0; go_simp); first | done | with_reducible rfl
      try simp only [Act.put, List.setIfInBounds_toArray, List.set_cons_zero, List.set_cons_succ]
      replace hS := Till.list 4 hS
      refine take_n (i := 8) (v := ?_) (some 22) rfl (by kernel_rfl) rfl (fun _ _ _ h => h) (Or.inl ⟨by rfl, ?_⟩) hS ?_
      rotate_left
      · (intro wq hq; have q0 := hq _ _ _ c2; have q1 := hq _ _ _ c3; have q2 := hq _ _ _ e2; have q3 := hq _ _ _ p0; go_simp); first | done | with_reducible rfl
      try simp only [Act.put, List.setIfInBounds_toArray, List.set_cons_zero, List.set_cons_succ]
      replace hS := Till.list 8 hS
      refine take_w (i := 10) (v := ?_) (some 24) rfl (by kernel_rfl) rfl (fun _ _ _ h => h) (Or.inl ⟨by rfl, ?_⟩) hS ?_
      rotate_left
      · (intro wq hq; go_simp); first | done | with_reducible rfl
      try simp only [Act.put, List.setIfInBounds_toArray, List.set_cons_zero, List.set_cons_succ]
      replace hS := Till.list 10 hS
      refine take_w (i := 11) (v := ?_) (some 25) rfl (by kernel_rfl) rfl (fun _ _ _ h => h) (Or.inl ⟨by rfl, ?_⟩) hS ?_
      rotate_left
      · (intro wq hq; go_simp); first | done | with_reducible rfl
      try simp only [Act.put, List.setIfInBounds_toArray, List.set_cons_zero, List.set_cons_succ]
      replace hS := Till.list 11 hS
      refine take_n (i := 12) (v := ?_) (some 26) rfl (by kernel_rfl) rfl (fun _ _ _ h => h) (Or.inl ⟨by rfl, ?_⟩) hS ?_
      rotate_left
      · (intro wq hq; have q0 := hq _ _ _ c2; have q1 := hq _ _ _ c3; have q2 := hq _ _ _ e2; have q3 := hq _ _ _ p0; go_simp); first | done | with_reducible rfl
      try simp only [Act.put, List.setIfInBounds_toArray, List.set_cons_zero, List.set_cons_succ]
      replace hS := Till.list 12 hS
      refine take_w (i := 13) (v := ?_) (some 27) rfl (by kernel_rfl) rfl (fun _ _ _ h => h) (Or.inl ⟨by rfl, ?_⟩) hS ?_
      rotate_left
      · (intro wq hq; go_simp); first | done | with_reducible rfl
      try simp only [Act.put, List.setIfInBounds_toArray, List.set_cons_zero, List.set_cons_succ]
      replace hS := Till.list 13 hS
      refine take_w (i := 14) (v := ?_) (some 28) rfl (by kernel_rfl) rfl (fun _ _ _ h => h) (Or.inl ⟨by rfl, ?_⟩) hS ?_
      rotate_left
      · (intro wq hq; go_simp); first | done | with_reducible rfl
      try simp only [Act.put, List.setIfInBounds_toArray, List.set_cons_zero, List.set_cons_succ]
      replace hS := Till.list 14 hS
      refine take_n (i := 15) (v := ?_) (some 29) rfl (by kernel_rfl) rfl (fun _ _ _ h => h) (Or.inl ⟨by rfl, ?_⟩) hS ?_
      rotate_left
      · (intro wq hq; have q0 := hq _ _ _ c2; have q1 := hq _ _ _ c3; have q2 := hq _ _ _ e2; have q3 := hq _ _ _ p0; go_simp); first | done | with_reducible rfl
      try simp only [Act.put, List.setIfInBounds_toArray, List.set_cons_zero, List.set_cons_succ]
      replace hS := Till.list 15 hS
      refine take_w (i := 16) (v := ?_) (some 30) rfl (by kernel_rfl) rfl (fun _ _ _ h => h) (Or.inl ⟨by rfl, ?_⟩) hS ?_
      rotate_left
      · (intro wq hq; go_simp); first | done | with_reducible rfl
      try simp only [Act.put, List.setIfInBounds_toArray, List.set_cons_zero, List.set_cons_succ]
      replace hS := Till.list 16 hS
      refine take_w (i := 17) (v := ?_) (some 31) rfl (by kernel_rfl) rfl (fun _ _ _ h => h) (Or.inl ⟨by rfl, ?_⟩) hS ?_
      rotate_left
      · (intro wq hq; go_simp); first | done | with_reducible rfl
      try simp only [Act.put, List.setIfInBounds_toArray, List.set_cons_zero, List.set_cons_succ]
      replace hS := Till.list 17 hS
      refine take_w (i := 18) (v := ?_) (some 3) rfl (by kernel_rfl) rfl (fun _ _ _ h => h) (Or.inl ⟨by rfl, ?_⟩) hS ?_
      rotate_left
      · (intro wq hq; go_simp); first | done | with_reducible rfl
      try simp only [Act.put, List.setIfInBounds_toArray, List.set_cons_zero, List.set_cons_succ]
      replace hS := Till.list 18 hS
      refine done_g (by kernel_rfl) (NoPanic.normal ?_) _
      clear hS
      go_wp2_with fail
      go_roundw
      case rel => exact ⟨j + 1, q + nv, by omega, by go_num, rfl, HS, hbel.drew⟩
      case measure => simp [intOf]; omega
    · obtain rfl : j = N := by omega
      have HS := Lib.hid (show q = usedD M by rw [hq, List.take_of_length_le (by rw [HN.out]; omega)]; rfl)
      clear hq hqp hqu
      go_wp2_with fail
      go_ret
      exact ⟨by rw [← HS.out]; rfl, hbel⟩
set_option maxHeartbeats 2000000 in
theorem rall_any (h : RP w I y M vF vN vK vC vX) (hnl : M.names.length ≤ 5000) : Calls Try.prog 62 #[.pointer (some ⟨y, 0, none⟩)] w fun e w' => ∃ v, e = .returned v ∧ OS 1 w' w.heap.size v M.names.length (tcells (textsD M)) ∧ Below w.heap.size w w' := by
  obtain ⟨An, Cn, rfl, hCn, hnv, hnA⟩ := h.names
  have c3 := h.blk.cell 3 (v := .slice An M.names.length Cn) rfl
  obtain ⟨N, hN⟩ : ∃ N, M.names.length = N := ⟨_, rfl⟩
  rw [hN] at c3 hnv hnl
  have HN := Lib.hid hN
  clear h hN
  go_enter Try.func62, Try.ntmps62
  go_wp2_with fail
  have o0 : OS 1 (w.alloc (.cells #[] 9)) w.heap.size (.slice (some ⟨w.heap.size, 0, none⟩) 0 0) 0 (tcells []) := OS.lit (k := 1) w w.heap.size (Nat.le_refl _) [] 0 9 rfl (by simp) (by simp) _ rfl
  have hw1 : Below w.heap.size w (w.alloc (.cells #[] 9)) := Joins.below_alloc1 _ _
  go_loopw [3, 4] (fun v i wr => ∃ j : Nat, j ≤ N ∧ i = .int .i64 (j : Int) ∧ OS 1 wr w.heap.size v j (tcells ((M.names.take j).map (fun n => n.1))) ∧ Below w.heap.size w wr) (fun _ i _ => N - (intOf i).toNat)
  case atStart => exact ⟨0, by omega, rfl, o0, hw1⟩
  case round =>
    clear o0 hw1
    obtain ⟨j, hj, rfl, ho, hbel⟩ := hrel
    have hsz := hbel.size
    replace c3 := keepc c3 hbel
    by_cases hlt : j < N
    · obtain ⟨b, off, rfl, e1, e2⟩ := NV.at hnv j hlt
      replace e1 := keepc e1 hbel
      have hji : (j : Int) < (N : Int) := by omega
      have ht := take_nm M.names j (by rw [HN.out]; exact hlt)
      obtain ⟨t, hte⟩ : ∃ t, (M.names.getD j nm0).1 = t := ⟨_, rfl⟩
      rw [hte] at e1
      have HT := Lib.hid (show tcells ((M.names.take j).map (fun n => n.1)) ++ [.string t] = tcells ((M.names.take (j + 1)).map (fun n => n.1)) by rw [ht, List.map_append, tcells_app, ← hte]; rfl)
      clear ht hte e2
      have hone : ∀ wx : World, SV 1 (wx.alloc (.cells #[.string t] 9)) (some ⟨wx.heap.size, 0, none⟩) 1 [.string t] := fun wx => SV.lit' (k := 1) wx [.string t] 1 9 rfl (by simp [Value.oneCell']) _ rfl
      have hs1 : w.heap.size ≤ (wr.alloc (.cells #[.string t] 9)).heap.size := by rw [heap_alloc]; omega
      go_wp2_with (at_builtin; refine append_os el_texts rfl (.tmp 15) (.tmp 24) rfl w.heap.size _ j _ rfl (ho.alloc _) _ 1 1 [.string t] rfl (hone _) (by omega) (by omega) hs1 ?_; intro v2 w2 ho2 hb2; rw [HT.out] at ho2)
      go_roundw
      case rel => exact ⟨j + 1, by omega, by go_num, ho2, (hbel.alloc hsz _).trans hb2⟩
      case measure => simp [intOf]; omega
    · obtain rfl : j = N := by omega
      have HT := Lib.hid (show (M.names.take j).map (fun n => n.1) = textsD M by rw [List.take_of_length_le (by rw [HN.out]; omega)]; rfl)
      go_wp2_with fail
      go_ret
      rw [HT.out] at ho
      exact ⟨_, rfl, by rw [HN.out]; exact ho, hbel⟩
end
end Go.Proofs.Ytlagmjdldplblaa
/- Contracts of the document's own disk: Read, Append. -/
namespace Go.Proofs.Ytlagmjdldplblaa
open Go.ChangeShapes Go.WideShapes Go.ChangeAt Go.RowKit
set_option linter.unusedVariables false
set_option maxRecDepth 4000

section
variable {I : Nat → Prop} {w w1 w2 : World} {y : Nat} {M : DK} {s : ByteArray} {vF vN vK vC vX : Value}
set_option maxHeartbeats 2000000 in
theorem rread_any (h : RP w I y M vF vN vK vC vX) (hnl : M.names.length ≤ 5000) (hp : ∀ n ∈ M.names, n.2 < M.files.length) (hlen : ∀ x ∈ M.files, x.1.length ≤ 5000000) (s : ByteArray) : Calls Try.prog 64 #[.pointer (some ⟨y, 0, none⟩), .string s] w fun e w' => ReadE w w' (readD M s) e := by
  obtain ⟨An, Cn, rfl, hCn, hnv, hnA⟩ := h.names
  have c3 := h.blk.cell 3 (v := .slice An M.names.length Cn) rfl
  have c2 := h.blk.cell 2 (v := vF) rfl
  have c8 := h.blk.cell 8 (v := .bool M.dead) rfl
  have HF := Lib.hid h.files
  have HP := Lib.hid (And.intro hp hlen)
  clear h hp hlen
  cases hd : M.dead with
  | true =>
    have hm : readD M s = ([], 34) := by unfold readD; rw [if_pos hd]
    rw [hm]
    rw [hd] at c8
    clear hd hm
    go_enter Try.func64, Try.ntmps64
    go_wp2_with fail
    go_ret2
    exact ⟨_, rfl, .inl ⟨rfl, rfl⟩, Below.refl _ _⟩
  | false =>
    rw [hd] at c8
    cases hf : findN M.names s with
    | none =>
      have hm : readD M s = ([], 30) := by unfold readD; rw [if_neg (by rw [hd]; decide), hf]
      rw [hm]
      have HFN := Lib.hid hf
      clear hd hm hf
      go_enter Try.func64, Try.ntmps64
      go_wp2_with fail
      refine (find8_any An _ Cn M.names s _ hnv (by omega)).mono ?_
      rintro e w2 ⟨rfl, rfl⟩
      rw [HFN.out, show plOf none = -1 from rfl]
      go_wp2_with fail
      go_ret2
      exact ⟨_, rfl, .inl ⟨rfl, rfl⟩, Below.refl _ _⟩
    | some f =>
      have hm : readD M s = ((flN M f).1, 0) := by unfold readD; rw [if_neg (by rw [hd]; decide), hf]
      rw [hm]
      have HFN := Lib.hid hf
      have hff := HP.out.1 _ (findN_mem hf)
      simp only at hff
      obtain ⟨A, C, b, off, Av, nv, cv, rfl, rfl, p0, p1, hnc, hbv, -, -⟩ := HF.out.at hff
      have hfi : (f : Int) < (M.files.length : Int) := by omega
      have hf0 : ¬ (f : Int) < 0 := by omega
      obtain ⟨x, hx⟩ : ∃ x, flN M f = x := ⟨_, rfl⟩
      have hlx : x.1.length ≤ 5000000 := by
        rw [← hx]; unfold flN; rw [List.getD_eq_getElem?_getD, List.getElem?_eq_getElem hff]; exact HP.out.2 _ (List.getElem_mem hff)
      have hbv : BV w Av nv x.1 := by rw [← hx]; exact hbv
      have hxn : x.1.length = nv := hbv.1
      rw [hx]
      clear hd hm hf hx p1
      go_enter Try.func64, Try.ntmps64
      go_wp2_with fail
      refine (find8_any An _ Cn M.names s _ hnv (by omega)).mono ?_
      rintro e w2 ⟨rfl, rfl⟩
      rw [HFN.out, show plOf (some f) = (f : Int) from rfl]
      have hl5 : ([] : List Int).length + nv ≤ 140737488355328 := by simp only [List.length_nil]; omega
      have hbn : BV (w2.alloc (.cells #[] 5)) Av nv x.1 := hbv.alloc _
      have hs2 : w2.heap.size ≤ (w2.alloc (.cells #[] 5)).heap.size := by rw [heap_alloc]; omega
      have hbw : Below w2.heap.size w2 (w2.alloc (.cells #[] 5)) := Joins.below_alloc1 _ _
      have c2' : (w2.alloc (.cells #[] 5)).cell? ⟨y, 2, none⟩ = some (.slice (some ⟨b, off, none⟩) M.files.length C) := cell_alloc _ _ c2
      have p0' : (w2.alloc (.cells #[] 5)).cell? ⟨b, off + f * 2, none⟩ = some (.slice Av nv cv) := cell_alloc _ _ p0
      clear hlx hxn hbv
      go_wp2_with (at_builtin; refine append_ow rfl (.tmp 19) (.tmp 27) rfl w2.heap.size _ [] rfl (OW.empty _ _ (Nat.le_refl _) _ rfl) Av nv cv x.1 rfl hbn hl5 hs2 ?_; intro v4 w4 ho4 hb4; rw [List.nil_append] at ho4; have HO4 := Lib.hid (And.intro ho4 (hbw.trans hb4)); clear ho4 hb4)
      go_ret2
      exact ⟨_, rfl, HO4.out.1, HO4.out.2⟩
end
end Go.Proofs.Ytlagmjdldplblaa
/- Contracts of the document's own disk: Append. -/
namespace Go.Proofs.Ytlagmjdldplblaa
open Go.ChangeShapes Go.WideShapes Go.ChangeAt Go.RowKit
set_option linter.unusedVariables false
set_option maxRecDepth 4000

theorem step_tells (M : DK) : (stepD M).2 = 34 ∨ (stepD M).2 = 33 ∨ (stepD M).2 = 0 := by
  unfold stepD
  split
  · exact .inl rfl
  · split
    · exact .inr (.inl rfl)
    · exact .inr (.inr rfl)
section
variable {I : Nat → Prop} {w w1 w2 : World} {y : Nat} {M : DK} {s : ByteArray} {vF vN vK vC vX : Value}
theorem RDE.still8 {N : DK × Int} {e : Ending} {w' w3 : World} (h : RDE I w y N e w') (hb : Below w'.heap.size w' w3) : RDE I w y N e w3 :=
  ⟨h.1, (h.2.1.still hb).mono (fun b hb2 => hb2.imp id (fun h => ⟨h.1, by have := hb.size; omega⟩)), h.2.2.trans (Kp.of_new hb)⟩
set_option maxHeartbeats 4000000 in
theorem rappend_any (h : RD w I y M) (hs8 : Sm8 M) (hub : usedD M ≤ 1000000000) (hlen : ∀ x ∈ M.files, x.1.length ≤ 5000000) (s : ByteArray) (A : Option Addr) (n c : Nat) (zs : List Int) (hv : BV w A n zs) (hnc : n ≤ c) (hn : n ≤ 1000) (hA : n = 0 ∨ ∀ x, A = some x → x.block ≠ y) :
    Calls Try.prog 57 #[.pointer (some ⟨y, 0, none⟩), .string s, .slice A n c] w (RDE I w y (appendD M s zs)) := by
  obtain ⟨vF, vN, vK, vC, vX, hR⟩ := h
  have hkp := step_keeps M
  have HS8 := Lib.hid hs8.step
  have ht := step_tells M
  go_enter Try.func57, Try.ntmps57
  go_wp2_with fail
  refine (rstep_any hR (by have := hs8.taken; omega)).mono ?_
  rintro e w1 ⟨rfl, h1, hk1⟩
  have HC := Lib.hid (show appendD M s zs = if (stepD M).2 = 34 then stepD M else appendedD (stepD M).1 (stepD M).2 s zs from rfl)
  have HU := Lib.hid (show usedD (stepD M).1 ≤ 1000000000 by unfold usedD; rw [hkp.1, hkp.2.1]; exact hub)
  have HLN := Lib.hid (show ∀ f, f < (stepD M).1.files.length → ((stepD M).1.files.getD f ([], 0)).1.length ≤ 5000000 by
    rw [hkp.2.1]; intro f hf; rw [List.getD_eq_getElem?_getD, List.getElem?_eq_getElem hf]; exact hlen _ (List.getElem_mem hf))
  generalize hSS : stepD M = S at *
  obtain ⟨M1, e0⟩ := S
  simp only at h1 HS8 HC HU HLN ht
  have hv1 := hv.keep hk1 hA
  have H1 := Lib.hid h1
  have HK := Lib.hid hk1
  have HV := Lib.hid hv1
  clear hSS hkp hR hs8 hub hlen hv hA
  by_cases h34 : e0 = 34
  · subst h34
    have HC2 := HC.out
    rw [if_pos rfl] at HC2
    clear HC h1 hk1 hv1 ht
    go_wp2_with fail
    go_ret
    rw [HC2]
    exact ⟨rfl, ⟨_, _, _, _, _, H1.out.mono (fun b hb => .inl hb)⟩, HK.out⟩
  have hne34 : (e0 == 34) = false := by rw [beq_eq_false_iff_ne]; exact h34
  have HC2 := HC.out
  rw [if_neg h34] at HC2
  replace HC2 := Lib.hid HC2
  have ht2 := ht.resolve_left h34
  obtain ⟨An, Cn, rfl, hCn, hnv, hnA⟩ := h1.names
  have c3 := h1.blk.cell 3 (v := .slice An M1.names.length Cn) rfl
  have c0 := h1.blk.cell 0 (v := .int .i64 M1.quota) rfl
  have hnl := HS8.out.1
  clear h1 hk1 HC hv1 ht
  go_wp2_with fail
  refine (find8_any An _ Cn M1.names s _ hnv (by omega)).mono ?_
  rintro e w1 ⟨rfl, rfl⟩
  obtain ⟨U, hU⟩ : ∃ U, usedD M1 = U := ⟨_, rfl⟩
  have hU9 := HU.out
  rw [hU] at hU9
  have HUe := Lib.hid hU
  have hA1 : IntKind.i64.wrap ((U : Int) + (n : Int)) = ((U + n : Nat) : Int) := by rw [IntKind.wrap_i64]; omega
  have hzn := HV.out.1
  have HZ := Lib.hid hzn
  clear hU hzn
  cases hf : findN M1.names s with
  | none =>
    have HF := Lib.hid hf
    clear hf
    have hpl : plOf none = -1 := rfl
    rw [hpl]
    rcases ht2 with rfl | rfl
    · clear hne34 h34
      go_wp2_with fail
      refine wp_region_noPanic ?_
      refine region_g 11 (Old w1) (by kernel_rfl) ((Old.refl w1).drew) (fun hS => ?_)
      refine take_w (i := 0) (v := ?_) (some 22) rfl (by kernel_rfl) rfl (fun _ _ _ h => h) (Or.inl ⟨by rfl, ?_⟩) hS ?_
      rotate_left
      · (intro wq hq; go_simp); first | done | with_reducible rfl
      try simp only [Act.put, List.setIfInBounds_toArray, List.set_cons_zero, List.set_cons_succ]
      replace hS := Till.list 0 hS
      refine take_w (i := 2) (v := ?_) (some 24) rfl (by kernel_rfl) rfl (fun _ _ _ h => h) (Or.inl ⟨by rfl, ?_⟩) hS ?_
      rotate_left
      · (intro wq hq; go_simp); first | done | with_reducible rfl
      try simp only [Act.put, List.setIfInBounds_toArray, List.set_cons_zero, List.set_cons_succ]
      replace hS := Till.list 2 hS
      refine take_w (i := 5) (v := ?_) (some 27) rfl (by kernel_rfl) rfl (fun _ _ _ h => h) (Or.inl ⟨by rfl, ?_⟩) hS ?_
      rotate_left
      · (intro wq hq; go_simp); first | done | with_reducible rfl
      try simp only [Act.put, List.setIfInBounds_toArray, List.set_cons_zero, List.set_cons_succ]
      replace hS := Till.list 5 hS
      refine take_w (i := 3) (v := ?_) (some 25) rfl (by kernel_rfl) rfl (fun _ _ _ h => h) (Or.inl ⟨by rfl, ?_⟩) hS ?_
      rotate_left
      · (intro wq hq; go_simp); first | done | with_reducible rfl
      try simp only [Act.put, List.setIfInBounds_toArray, List.set_cons_zero, List.set_cons_succ]
      replace hS := Till.list 3 hS
      refine take_w (i := 6) (v := ?_) (some 28) rfl (by kernel_rfl) rfl (fun _ _ _ h => h) (Or.inl ⟨by rfl, ?_⟩) hS ?_
      rotate_left
      · (intro wq hq; go_simp); first | done | with_reducible rfl
      try simp only [Act.put, List.setIfInBounds_toArray, List.set_cons_zero, List.set_cons_succ]
      replace hS := Till.list 6 hS
      refine take_w (i := 7) (v := ?_) (some 29) rfl (by kernel_rfl) rfl (fun _ _ _ h => h) (Or.inl ⟨by rfl, ?_⟩) hS ?_
      rotate_left
      · (intro wq hq; go_simp); first | done | with_reducible rfl
      try simp only [Act.put, List.setIfInBounds_toArray, List.set_cons_zero, List.set_cons_succ]
      replace hS := Till.list 7 hS
      refine take_n (i := 8) (v := ?_) (some 30) rfl (by kernel_rfl) rfl (fun _ _ _ h => h) (Or.inl ⟨by rfl, ?_⟩) hS ?_
      rotate_left
      · (intro wq hq; have q0 := hq.cell c0; go_simp); first | done | with_reducible rfl
      try simp only [Act.put, List.setIfInBounds_toArray, List.set_cons_zero, List.set_cons_succ]
      replace hS := Till.list 8 hS
      refine ready_g (rs := [1]) (by kernel_rfl) (by simp) ?_
      refine AllReadyG.cons rfl (fun Kont hK => ?_) AllReadyG.nil
      go_simp
      refine (rused_any (H1.out.still ((Below.refl _ _).drew)) HS8.out.1 (fun n hn => (HS8.out.2.2.2 n hn).2) HU.out).mono ?_
      rintro e w2 ⟨rfl, hb2⟩
      rw [HUe.out]
      refine hK.out _ _ (Or.inr (((hS.get (by kernel_rfl)).below hb2))) (fun hS0 => ?_)
      clear hK Kont
      try simp only [Act.put, List.setIfInBounds_toArray, List.set_cons_zero, List.set_cons_succ]
      clear hS
      have hS := hS0
      clear hS0
      refine take_w (i := 4) (v := ?_) (some 26) rfl (by kernel_rfl) rfl (fun _ _ _ h => h) (Or.inl ⟨by rfl, ?_⟩) hS ?_
      rotate_left
      · (intro wq hq; go_simp); first | done | with_reducible rfl
      try simp only [Act.put, List.setIfInBounds_toArray, List.set_cons_zero, List.set_cons_succ]
      replace hS := Till.list 4 hS
      refine take_w (i := 9) (v := ?_) (some 31) rfl (by kernel_rfl) rfl (fun _ _ _ h => h) (Or.inl ⟨by rfl, ?_⟩) hS ?_
      rotate_left
      · (intro wq hq; go_simp); first | done | with_reducible rfl
      try simp only [Act.put, List.setIfInBounds_toArray, List.set_cons_zero, List.set_cons_succ]
      replace hS := Till.list 9 hS
      refine take_w (i := 10) (v := ?_) (some 9) rfl (by kernel_rfl) rfl (fun _ _ _ h => h) (Or.inl ⟨by rfl, ?_⟩) hS ?_
      rotate_left
      · (intro wq hq; go_simp); first | done | with_reducible rfl
      try simp only [Act.put, List.setIfInBounds_toArray, List.set_cons_zero, List.set_cons_succ]
      replace hS := Till.list 10 hS
      refine done_g (by kernel_rfl) (NoPanic.normal ?_) _
      clear hS
      have hb2' : Below w1.heap.size w1 w2 := ⟨hb2.os, hb2.tape, hb2.output, hb2.size, hb2.block⟩
      clear hb2
      go_wp2_with fail
      go_ret
      rw [HC2.out]
      unfold appendedD
      rw [HF.out]
      exact RDE.still8 (RDE.back (I1 := I) (w1 := w1) (w' := w1) ⟨rfl, ⟨_, _, _, _, _, H1.out.mono (fun b hb => .inl hb)⟩, Kp.refl _ _⟩ HK.out (fun b hb => .inl hb)) hb2'
    · clear hne34 h34
      go_wp2_with fail
      refine wp_region_noPanic ?_
      refine region_g 11 (Old w1) (by kernel_rfl) ((Old.refl w1).drew) (fun hS => ?_)
      refine take_w (i := 0) (v := ?_) (some 22) rfl (by kernel_rfl) rfl (fun _ _ _ h => h) (Or.inl ⟨by rfl, ?_⟩) hS ?_
      rotate_left
      · (intro wq hq; go_simp); first | done | with_reducible rfl
      try simp only [Act.put, List.setIfInBounds_toArray, List.set_cons_zero, List.set_cons_succ]
      replace hS := Till.list 0 hS
      refine take_w (i := 2) (v := ?_) (some 24) rfl (by kernel_rfl) rfl (fun _ _ _ h => h) (Or.inl ⟨by rfl, ?_⟩) hS ?_
      rotate_left
      · (intro wq hq; go_simp); first | done | with_reducible rfl
      try simp only [Act.put, List.setIfInBounds_toArray, List.set_cons_zero, List.set_cons_succ]
      replace hS := Till.list 2 hS
      refine take_w (i := 5) (v := ?_) (some 27) rfl (by kernel_rfl) rfl (fun _ _ _ h => h) (Or.inl ⟨by rfl, ?_⟩) hS ?_
      rotate_left
      · (intro wq hq; go_simp); first | done | with_reducible rfl
      try simp only [Act.put, List.setIfInBounds_toArray, List.set_cons_zero, List.set_cons_succ]
      replace hS := Till.list 5 hS
      refine take_w (i := 3) (v := ?_) (some 25) rfl (by kernel_rfl) rfl (fun _ _ _ h => h) (Or.inl ⟨by rfl, ?_⟩) hS ?_
      rotate_left
      · (intro wq hq; go_simp); first | done | with_reducible rfl
      try simp only [Act.put, List.setIfInBounds_toArray, List.set_cons_zero, List.set_cons_succ]
      replace hS := Till.list 3 hS
      refine take_w (i := 6) (v := ?_) (some 28) rfl (by kernel_rfl) rfl (fun _ _ _ h => h) (Or.inl ⟨by rfl, ?_⟩) hS ?_
      rotate_left
      · (intro wq hq; go_simp); first | done | with_reducible rfl
      try simp only [Act.put, List.setIfInBounds_toArray, List.set_cons_zero, List.set_cons_succ]
      replace hS := Till.list 6 hS
      refine take_w (i := 7) (v := ?_) (some 29) rfl (by kernel_rfl) rfl (fun _ _ _ h => h) (Or.inl ⟨by rfl, ?_⟩) hS ?_
      rotate_left
      · (intro wq hq; go_simp); first | done | with_reducible rfl
      try simp only [Act.put, List.setIfInBounds_toArray, List.set_cons_zero, List.set_cons_succ]
      replace hS := Till.list 7 hS
      refine take_n (i := 8) (v := ?_) (some 30) rfl (by kernel_rfl) rfl (fun _ _ _ h => h) (Or.inl ⟨by rfl, ?_⟩) hS ?_
      rotate_left
      · (intro wq hq; have q0 := hq.cell c0; go_simp); first | done | with_reducible rfl
      try simp only [Act.put, List.setIfInBounds_toArray, List.set_cons_zero, List.set_cons_succ]
      replace hS := Till.list 8 hS
      refine ready_g (rs := [1]) (by kernel_rfl) (by simp) ?_
      refine AllReadyG.cons rfl (fun Kont hK => ?_) AllReadyG.nil
      go_simp
      refine (rused_any (H1.out.still ((Below.refl _ _).drew)) HS8.out.1 (fun n hn => (HS8.out.2.2.2 n hn).2) HU.out).mono ?_
      rintro e w2 ⟨rfl, hb2⟩
      rw [HUe.out]
      refine hK.out _ _ (Or.inr (((hS.get (by kernel_rfl)).below hb2))) (fun hS0 => ?_)
      clear hK Kont
      try simp only [Act.put, List.setIfInBounds_toArray, List.set_cons_zero, List.set_cons_succ]
      clear hS
      have hS := hS0
      clear hS0
      refine take_w (i := 4) (v := ?_) (some 26) rfl (by kernel_rfl) rfl (fun _ _ _ h => h) (Or.inl ⟨by rfl, ?_⟩) hS ?_
      rotate_left
      · (intro wq hq; go_simp); first | done | with_reducible rfl
      try simp only [Act.put, List.setIfInBounds_toArray, List.set_cons_zero, List.set_cons_succ]
      replace hS := Till.list 4 hS
      refine take_w (i := 9) (v := ?_) (some 31) rfl (by kernel_rfl) rfl (fun _ _ _ h => h) (Or.inl ⟨by rfl, ?_⟩) hS ?_
      rotate_left
      · (intro wq hq; go_simp); first | done | with_reducible rfl
      try simp only [Act.put, List.setIfInBounds_toArray, List.set_cons_zero, List.set_cons_succ]
      replace hS := Till.list 9 hS
      refine take_w (i := 10) (v := ?_) (some 9) rfl (by kernel_rfl) rfl (fun _ _ _ h => h) (Or.inl ⟨by rfl, ?_⟩) hS ?_
      rotate_left
      · (intro wq hq; go_simp); first | done | with_reducible rfl
      try simp only [Act.put, List.setIfInBounds_toArray, List.set_cons_zero, List.set_cons_succ]
      replace hS := Till.list 10 hS
      refine done_g (by kernel_rfl) (NoPanic.normal ?_) _
      clear hS
      have hb2' : Below w1.heap.size w1 w2 := ⟨hb2.os, hb2.tape, hb2.output, hb2.size, hb2.block⟩
      clear hb2
      go_wp2_with fail
      go_ret
      rw [HC2.out]
      unfold appendedD
      rw [HF.out]
      exact RDE.still8 (RDE.back (I1 := I) (w1 := w1) (w' := w1) ⟨rfl, ⟨_, _, _, _, _, H1.out.mono (fun b hb => .inl hb)⟩, Kp.refl _ _⟩ HK.out (fun b hb => .inl hb)) hb2'
  | some f =>
    have HF := Lib.hid hf
    have hff : f < M1.files.length := (HS8.out.2.2.2 _ (findN_mem hf)).2
    clear hf
    have hpl : plOf (some f) = (f : Int) := rfl
    rw [hpl]
    have hf0 : ¬ (f : Int) < 0 := by omega
    by_cases hroom : (U : Int) + (n : Int) ≤ M1.quota
    · have hdr : decide ((U : Int) + (n : Int) ≤ M1.quota) = true := decide_eq_true hroom
      have HRm := Lib.hid (show ((usedD M1 + zs.length : Nat) : Int) ≤ M1.quota by rw [HUe.out, HZ.out]; omega)
      rcases ht2 with rfl | rfl
      · clear hne34 h34
        have hdiv : IntKind.i64.wrap ((n : Int).tdiv 2) = ((n / 2 : Nat) : Int) := by
          rw [Int.tdiv_eq_ediv_of_nonneg (by omega), IntKind.wrap_i64]; omega
        have hh1 : ((n / 2 : Nat) : Int) ≤ (c : Int) := by omega
        have hh2 : n / 2 ≤ c := by omega
        have hh3 : n / 2 ≤ 1000 := by omega
        have HVH := Lib.hid (HV.out.take (n / 2) (by omega))
        go_wp2_with fail
        refine wp_region_noPanic ?_
        refine region_g 11 (Old w1) (by kernel_rfl) ((Old.refl w1).drew) (fun hS => ?_)
        refine take_w (i := 0) (v := ?_) (some 22) rfl (by kernel_rfl) rfl (fun _ _ _ h => h) (Or.inl ⟨by rfl, ?_⟩) hS ?_
        rotate_left
        · (intro wq hq; go_simp); first | done | with_reducible rfl
        try simp only [Act.put, List.setIfInBounds_toArray, List.set_cons_zero, List.set_cons_succ]
        replace hS := Till.list 0 hS
        refine take_w (i := 2) (v := ?_) (some 24) rfl (by kernel_rfl) rfl (fun _ _ _ h => h) (Or.inl ⟨by rfl, ?_⟩) hS ?_
        rotate_left
        · (intro wq hq; go_simp); first | done | with_reducible rfl
        try simp only [Act.put, List.setIfInBounds_toArray, List.set_cons_zero, List.set_cons_succ]
        replace hS := Till.list 2 hS
        refine take_w (i := 5) (v := ?_) (some 27) rfl (by kernel_rfl) rfl (fun _ _ _ h => h) (Or.inl ⟨by rfl, ?_⟩) hS ?_
        rotate_left
        · (intro wq hq; go_simp); first | done | with_reducible rfl
        try simp only [Act.put, List.setIfInBounds_toArray, List.set_cons_zero, List.set_cons_succ]
        replace hS := Till.list 5 hS
        refine take_w (i := 3) (v := ?_) (some 25) rfl (by kernel_rfl) rfl (fun _ _ _ h => h) (Or.inl ⟨by rfl, ?_⟩) hS ?_
        rotate_left
        · (intro wq hq; go_simp); first | done | with_reducible rfl
        try simp only [Act.put, List.setIfInBounds_toArray, List.set_cons_zero, List.set_cons_succ]
        replace hS := Till.list 3 hS
        refine take_w (i := 6) (v := ?_) (some 28) rfl (by kernel_rfl) rfl (fun _ _ _ h => h) (Or.inl ⟨by rfl, ?_⟩) hS ?_
        rotate_left
        · (intro wq hq; go_simp); first | done | with_reducible rfl
        try simp only [Act.put, List.setIfInBounds_toArray, List.set_cons_zero, List.set_cons_succ]
        replace hS := Till.list 6 hS
        refine take_w (i := 7) (v := ?_) (some 29) rfl (by kernel_rfl) rfl (fun _ _ _ h => h) (Or.inl ⟨by rfl, ?_⟩) hS ?_
        rotate_left
        · (intro wq hq; go_simp); first | done | with_reducible rfl
        try simp only [Act.put, List.setIfInBounds_toArray, List.set_cons_zero, List.set_cons_succ]
        replace hS := Till.list 7 hS
        refine take_n (i := 8) (v := ?_) (some 30) rfl (by kernel_rfl) rfl (fun _ _ _ h => h) (Or.inl ⟨by rfl, ?_⟩) hS ?_
        rotate_left
        · (intro wq hq; have q0 := hq.cell c0; go_simp); first | done | with_reducible rfl
        try simp only [Act.put, List.setIfInBounds_toArray, List.set_cons_zero, List.set_cons_succ]
        replace hS := Till.list 8 hS
        refine ready_g (rs := [1]) (by kernel_rfl) (by simp) ?_
        refine AllReadyG.cons rfl (fun Kont hK => ?_) AllReadyG.nil
        go_simp
        refine (rused_any (H1.out.still ((Below.refl _ _).drew)) HS8.out.1 (fun n hn => (HS8.out.2.2.2 n hn).2) HU.out).mono ?_
        rintro e w2 ⟨rfl, hb2⟩
        rw [HUe.out]
        refine hK.out _ _ (Or.inr (((hS.get (by kernel_rfl)).below hb2))) (fun hS0 => ?_)
        clear hK Kont
        try simp only [Act.put, List.setIfInBounds_toArray, List.set_cons_zero, List.set_cons_succ]
        clear hS
        have hS := hS0
        clear hS0
        refine take_w (i := 4) (v := ?_) (some 26) rfl (by kernel_rfl) rfl (fun _ _ _ h => h) (Or.inl ⟨by rfl, ?_⟩) hS ?_
        rotate_left
        · (intro wq hq; go_simp); first | done | with_reducible rfl
        try simp only [Act.put, List.setIfInBounds_toArray, List.set_cons_zero, List.set_cons_succ]
        replace hS := Till.list 4 hS
        refine take_w (i := 9) (v := ?_) (some 31) rfl (by kernel_rfl) rfl (fun _ _ _ h => h) (Or.inl ⟨by rfl, ?_⟩) hS ?_
        rotate_left
        · (intro wq hq; go_simp); first | done | with_reducible rfl
        try simp only [Act.put, List.setIfInBounds_toArray, List.set_cons_zero, List.set_cons_succ]
        replace hS := Till.list 9 hS
        refine take_w (i := 10) (v := ?_) (some 9) rfl (by kernel_rfl) rfl (fun _ _ _ h => h) (Or.inl ⟨by rfl, ?_⟩) hS ?_
        rotate_left
        · (intro wq hq; go_simp); first | done | with_reducible rfl
        try simp only [Act.put, List.setIfInBounds_toArray, List.set_cons_zero, List.set_cons_succ]
        replace hS := Till.list 10 hS
        refine done_g (by kernel_rfl) (NoPanic.normal ?_) _
        clear hS
        have hb2' : Below w1.heap.size w1 w2 := ⟨hb2.os, hb2.tape, hb2.output, hb2.size, hb2.block⟩
        clear hb2
        obtain ⟨A', C', b, off, Av, nv, cv, rfl, rfl, p0, p1, hnc', hbv, hAv, hJb⟩ := H1.out.files.at hff
        have c2 := H1.out.blk.cell 2 (v := .slice (some ⟨b, off, none⟩) M1.files.length C') rfl
        replace c2 := keepc c2 hb2'
        replace p0 := keepc p0 hb2'
        replace p1 := keepc p1 hb2'
        have hfi : (f : Int) < (M1.files.length : Int) := by omega
        have hlx := HLN.out f hff
        obtain ⟨x, hx⟩ : ∃ x, M1.files.getD f ([], 0) = x := ⟨_, rfl⟩
        rw [hx] at p1 hbv hlx
        have HX := Lib.hid (show flN M1 f = x from hx)
        have hxn : x.1.length = nv := hbv.1
        have HV2 := Lib.hid (And.intro (hbv.below hb2') (And.intro hAv hxn))
        have hnv5 : nv ≤ 5000000 := by omega
        clear hbv hAv hx hxn hlx
        go_upto_region 15 with fail
        have hD := Bk.new w2 #[.slice Av nv cv, .int .i64 (x.2 : Int)] 93
        have hw3 : Below w2.heap.size w2 (w2.alloc (.cells #[.slice Av nv cv, .int .i64 (x.2 : Int)] 93)) := Joins.below_alloc1 _ _
        have hH1 := Lib.hid ((H1.out.still hb2').still hw3)
        have HV3 := Lib.hid (And.intro (HV2.out.1.below hw3) (And.intro (BV.below (HVH.out.below hb2') hw3) (Below.then hb2' hw3)))
        obtain ⟨g, hg⟩ : ∃ g, w2.heap.size = g := ⟨_, rfl⟩
        rw [hg] at hD ⊢
        generalize (w2.alloc (.cells #[.slice Av nv cv, .int .i64 (x.2 : Int)] 93)) = w3 at *
        have d0 := hD.cell 0 (v := .slice Av nv cv) rfl
        have d1 := hD.cell 1 (v := .int .i64 (x.2 : Int)) rfl
        clear c2 p0 p1 hw3 hg
        go_wp2_with fail
        refine wp_region_noPanic ?_
        refine region_g 11 (Ext (World.drew _)) (by kernel_rfl) (Ext.refl _) (fun hS => ?_)
        refine take_w (i := 0) (v := ?_) (some 57) rfl (by kernel_rfl) rfl (fun _ _ _ h => h) (Or.inl ⟨by rfl, ?_⟩) hS ?_
        rotate_left
        · (intro wq hq; go_simp); first | done | with_reducible rfl
        try simp only [Act.put, List.setIfInBounds_toArray, List.set_cons_zero, List.set_cons_succ]
        replace hS := Till.list 0 hS
        refine take_w (i := 1) (v := ?_) (some 58) rfl (by kernel_rfl) rfl (fun _ _ _ h => h) (Or.inl ⟨by rfl, ?_⟩) hS ?_
        rotate_left
        · (intro wq hq; go_simp); first | done | with_reducible rfl
        try simp only [Act.put, List.setIfInBounds_toArray, List.set_cons_zero, List.set_cons_succ]
        replace hS := Till.list 1 hS
        refine take_w (i := 3) (v := ?_) (some 60) rfl (by kernel_rfl) rfl (fun _ _ _ h => h) (Or.inl ⟨by rfl, ?_⟩) hS ?_
        rotate_left
        · (intro wq hq; go_simp); first | done | with_reducible rfl
        try simp only [Act.put, List.setIfInBounds_toArray, List.set_cons_zero, List.set_cons_succ]
        replace hS := Till.list 3 hS
        refine take_w (i := 6) (v := ?_) (some 63) rfl (by kernel_rfl) rfl (fun _ _ _ h => h) (Or.inl ⟨by rfl, ?_⟩) hS ?_
        rotate_left
        · (intro wq hq; go_simp); first | done | with_reducible rfl
        try simp only [Act.put, List.setIfInBounds_toArray, List.set_cons_zero, List.set_cons_succ]
        replace hS := Till.list 6 hS
        refine take_w (i := 8) (v := ?_) (some 65) rfl (by kernel_rfl) rfl (fun _ _ _ h => h) (Or.inl ⟨by rfl, ?_⟩) hS ?_
        rotate_left
        · (intro wq hq; go_simp); first | done | with_reducible rfl
        try simp only [Act.put, List.setIfInBounds_toArray, List.set_cons_zero, List.set_cons_succ]
        replace hS := Till.list 8 hS
        refine take_g (i := 4) (v := ?_) [7, 5, 4] (some 61) rfl (by kernel_rfl) rfl (fun _ _ _ h => h) (Or.inl ⟨by rfl, ?_⟩) hS ?_
        rotate_left
        · (intro wq hq; have q0 := hq _ _ _ d0; have q1 := hq _ _ _ d1; go_simp); first | done | with_reducible rfl
        try simp only [Act.put, List.setIfInBounds_toArray, List.set_cons_zero, List.set_cons_succ]
        replace hS := Till.list 4 hS
        refine take_g (i := 9) (v := ?_) [10, 9] (some 66) rfl (by kernel_rfl) rfl (fun _ _ _ h => h) (Or.inl ⟨by rfl, ?_⟩) hS ?_
        rotate_left
        · (intro wq hq; have q0 := hq _ _ _ d0; have q1 := hq _ _ _ d1; go_simp); first | done | with_reducible rfl
        try simp only [Act.put, List.setIfInBounds_toArray, List.set_cons_zero, List.set_cons_succ]
        replace hS := Till.list 9 hS
        refine ready_g (rs := [2]) (by kernel_rfl) (by simp) ?_
        refine AllReadyG.cons rfl (fun Kont hK => ?_) AllReadyG.nil
        go_simp
        refine hK.out _ _ (Or.inr ((hS.get (by kernel_rfl)).alloc _)) (fun hS0 => ?_)
        clear hK Kont
        try simp only [Act.put, List.setIfInBounds_toArray, List.set_cons_zero, List.set_cons_succ]
        clear hS
        have hS := hS0
        clear hS0
        refine ready_g (rs := [5]) (by kernel_rfl) (by simp) ?_
        refine AllReadyG.cons rfl (fun Kont hK => ?_) AllReadyG.nil
        refine want (by kernel_rfl) ?_
        refine wp_append_ow (some 62) rfl (.tmp 59) (.tmp 61) rfl w3.heap.size _ [] rfl (OW.empty w3.drew w3.heap.size (Nat.le_refl _) _ rfl) Av nv cv x.1 rfl (HV3.out.1.drew.alloc _) (by simp only [List.length_nil]; omega) (by simp) ?_
        intro v4 w4 ho4 hb4
        rw [List.nil_append] at ho4
        have hbW : Below w3.heap.size w3 w4 := ((Below.refl _ _).alloc (Nat.le_refl _) _).drew.trans hb4
        refine hK.out _ _ (Or.inr (((hS.get (by kernel_rfl)).low hb4 (Nat.le_refl _)))) (fun hS0 => ?_)
        clear hK Kont
        try simp only [Act.put, List.setIfInBounds_toArray, List.set_cons_zero, List.set_cons_succ]
        clear hS
        have hS := hS0
        clear hS0
        refine ready_g (rs := [7]) (by kernel_rfl) (by simp) ?_
        refine AllReadyG.cons rfl (fun Kont hK => ?_) AllReadyG.nil
        refine want (by kernel_rfl) ?_
        refine wp_append_ow (some 64) rfl (.tmp 62) (.tmp 63) rfl w3.heap.size _ x.1 rfl ho4 A (n / 2) c (zs.take (n / 2)) rfl (HV3.out.2.1.below hbW) (by have := HV2.out.2.2; omega) hbW.size ?_
        intro v5 w5 ho5 hb5
        replace hbW := hbW.trans hb5
        clear ho4 hb4
        obtain ⟨a5, m5, c5, rfl⟩ := ho5.shape
        refine hK.out _ _ (Or.inr (((hS.get (by kernel_rfl)).low hb5 (Nat.le_refl _)))) (fun hS0 => ?_)
        clear hK Kont
        try simp only [Act.put, List.setIfInBounds_toArray, List.set_cons_zero, List.set_cons_succ]
        clear hS
        have hS := hS0
        clear hS0
        refine take_w (i := 10) (v := ?_) (some 67) rfl (by kernel_rfl) rfl (fun _ _ _ h => h) (Or.inl ⟨by rfl, ?_⟩) hS ?_
        rotate_left
        · (intro wq hq; go_simp); first | done | with_reducible rfl
        try simp only [Act.put, List.setIfInBounds_toArray, List.set_cons_zero, List.set_cons_succ]
        replace hS := Till.list 10 hS
        refine ready_g (rs := [11]) (by kernel_rfl) (by simp) ?_
        refine AllReadyG.cons rfl (fun Kont hK => ?_) AllReadyG.nil
        go_simp
        have hby : ∀ z ∈ x.1 ++ (zs.take (n / 2)), 0 ≤ z ∧ z ≤ 255 := fun z hz => by
          rcases List.mem_append.1 hz with hz | hz
          · exact HV3.out.1.2.1 z hz
          · exact HV3.out.2.1.2.1 z hz
        have hRB : RB (Jn (AndNew I w3 w5) y) w5 (.slice a5 m5 c5) (x.1 ++ (zs.take (n / 2))) := by
          obtain ⟨a6, c6, e6, h1, -, h3, h4⟩ := ho5.bvn hby _ rfl
          rw [e6] at ho5 ⊢
          exact ⟨a6, _, c6, rfl, h1, h3, fun q hq => by
            have hq1 := h4 q hq
            have hq2 : q.block < w5.heap.size := by subst hq; exact (ho5.mono (Nat.zero_le _)).low0 rfl
            have hq3 := hH1.out.blk.lt
            exact ⟨.inr ⟨hq1, hq2⟩, by omega⟩⟩
        have hR5 := (hH1.out.still hbW).mono (I' := AndNew I w3 w5) (fun b hb => .inl hb)
        refine (rput_any hR5 (by have := HS8.out.2.1; omega) f hff (x.1 ++ (zs.take (n / 2)), x.2) hRB).mono ?_
        rintro e w6 ⟨rfl, hr, hk6⟩
        have HR6 := Lib.hid (And.intro hr (And.intro hk6 hbW))
        clear hr hk6 hbW hRB hR5 hby ho5 hb5
        refine hK.out _ _ (Or.inl (by kernel_rfl)) (fun hS0 => ?_)
        clear hK Kont
        try simp only [Act.put, List.setIfInBounds_toArray, List.set_cons_zero, List.set_cons_succ]
        clear hS
        have hS := hS0
        clear hS0
        refine done_g (by kernel_rfl) (NoPanic.normal ?_) _
        clear hS
        go_wp2_with fail
        go_ret
        rw [HC2.out]
        unfold appendedD
        rw [HF.out]
        simp only [if_pos HRm.out, HX.out]
        simp only [HZ.out]
        refine RDE.back (I1 := AndNew I w3 w5) (w1 := w5) ⟨rfl, HR6.out.1, HR6.out.2.1⟩ (HK.out.trans (Kp.of_new (Below.then HV3.out.2.2 HR6.out.2.2))) (fun b hb => ?_)
        have q1 := HK.out.size
        have q2 := HV3.out.2.2.size
        rcases hb with hb | ⟨e1, e2⟩
        · exact .inl hb
        · exact .inr ⟨by omega, e2⟩
      · clear hne34 h34
        go_wp2_with fail
        refine wp_region_noPanic ?_
        refine region_g 11 (Old w1) (by kernel_rfl) ((Old.refl w1).drew) (fun hS => ?_)
        refine take_w (i := 0) (v := ?_) (some 22) rfl (by kernel_rfl) rfl (fun _ _ _ h => h) (Or.inl ⟨by rfl, ?_⟩) hS ?_
        rotate_left
        · (intro wq hq; go_simp); first | done | with_reducible rfl
        try simp only [Act.put, List.setIfInBounds_toArray, List.set_cons_zero, List.set_cons_succ]
        replace hS := Till.list 0 hS
        refine take_w (i := 2) (v := ?_) (some 24) rfl (by kernel_rfl) rfl (fun _ _ _ h => h) (Or.inl ⟨by rfl, ?_⟩) hS ?_
        rotate_left
        · (intro wq hq; go_simp); first | done | with_reducible rfl
        try simp only [Act.put, List.setIfInBounds_toArray, List.set_cons_zero, List.set_cons_succ]
        replace hS := Till.list 2 hS
        refine take_w (i := 5) (v := ?_) (some 27) rfl (by kernel_rfl) rfl (fun _ _ _ h => h) (Or.inl ⟨by rfl, ?_⟩) hS ?_
        rotate_left
        · (intro wq hq; go_simp); first | done | with_reducible rfl
        try simp only [Act.put, List.setIfInBounds_toArray, List.set_cons_zero, List.set_cons_succ]
        replace hS := Till.list 5 hS
        refine take_w (i := 3) (v := ?_) (some 25) rfl (by kernel_rfl) rfl (fun _ _ _ h => h) (Or.inl ⟨by rfl, ?_⟩) hS ?_
        rotate_left
        · (intro wq hq; go_simp); first | done | with_reducible rfl
        try simp only [Act.put, List.setIfInBounds_toArray, List.set_cons_zero, List.set_cons_succ]
        replace hS := Till.list 3 hS
        refine take_w (i := 6) (v := ?_) (some 28) rfl (by kernel_rfl) rfl (fun _ _ _ h => h) (Or.inl ⟨by rfl, ?_⟩) hS ?_
        rotate_left
        · (intro wq hq; go_simp); first | done | with_reducible rfl
        try simp only [Act.put, List.setIfInBounds_toArray, List.set_cons_zero, List.set_cons_succ]
        replace hS := Till.list 6 hS
        refine take_w (i := 7) (v := ?_) (some 29) rfl (by kernel_rfl) rfl (fun _ _ _ h => h) (Or.inl ⟨by rfl, ?_⟩) hS ?_
        rotate_left
        · (intro wq hq; go_simp); first | done | with_reducible rfl
        try simp only [Act.put, List.setIfInBounds_toArray, List.set_cons_zero, List.set_cons_succ]
        replace hS := Till.list 7 hS
        refine take_n (i := 8) (v := ?_) (some 30) rfl (by kernel_rfl) rfl (fun _ _ _ h => h) (Or.inl ⟨by rfl, ?_⟩) hS ?_
        rotate_left
        · (intro wq hq; have q0 := hq.cell c0; go_simp); first | done | with_reducible rfl
        try simp only [Act.put, List.setIfInBounds_toArray, List.set_cons_zero, List.set_cons_succ]
        replace hS := Till.list 8 hS
        refine ready_g (rs := [1]) (by kernel_rfl) (by simp) ?_
        refine AllReadyG.cons rfl (fun Kont hK => ?_) AllReadyG.nil
        go_simp
        refine (rused_any (H1.out.still ((Below.refl _ _).drew)) HS8.out.1 (fun n hn => (HS8.out.2.2.2 n hn).2) HU.out).mono ?_
        rintro e w2 ⟨rfl, hb2⟩
        rw [HUe.out]
        refine hK.out _ _ (Or.inr (((hS.get (by kernel_rfl)).below hb2))) (fun hS0 => ?_)
        clear hK Kont
        try simp only [Act.put, List.setIfInBounds_toArray, List.set_cons_zero, List.set_cons_succ]
        clear hS
        have hS := hS0
        clear hS0
        refine take_w (i := 4) (v := ?_) (some 26) rfl (by kernel_rfl) rfl (fun _ _ _ h => h) (Or.inl ⟨by rfl, ?_⟩) hS ?_
        rotate_left
        · (intro wq hq; go_simp); first | done | with_reducible rfl
        try simp only [Act.put, List.setIfInBounds_toArray, List.set_cons_zero, List.set_cons_succ]
        replace hS := Till.list 4 hS
        refine take_w (i := 9) (v := ?_) (some 31) rfl (by kernel_rfl) rfl (fun _ _ _ h => h) (Or.inl ⟨by rfl, ?_⟩) hS ?_
        rotate_left
        · (intro wq hq; go_simp); first | done | with_reducible rfl
        try simp only [Act.put, List.setIfInBounds_toArray, List.set_cons_zero, List.set_cons_succ]
        replace hS := Till.list 9 hS
        refine take_w (i := 10) (v := ?_) (some 9) rfl (by kernel_rfl) rfl (fun _ _ _ h => h) (Or.inl ⟨by rfl, ?_⟩) hS ?_
        rotate_left
        · (intro wq hq; go_simp); first | done | with_reducible rfl
        try simp only [Act.put, List.setIfInBounds_toArray, List.set_cons_zero, List.set_cons_succ]
        replace hS := Till.list 10 hS
        refine done_g (by kernel_rfl) (NoPanic.normal ?_) _
        clear hS
        have hb2' : Below w1.heap.size w1 w2 := ⟨hb2.os, hb2.tape, hb2.output, hb2.size, hb2.block⟩
        clear hb2
        obtain ⟨A', C', b, off, Av, nv, cv, rfl, rfl, p0, p1, hnc', hbv, hAv, hJb⟩ := H1.out.files.at hff
        have c2 := H1.out.blk.cell 2 (v := .slice (some ⟨b, off, none⟩) M1.files.length C') rfl
        replace c2 := keepc c2 hb2'
        replace p0 := keepc p0 hb2'
        replace p1 := keepc p1 hb2'
        have hfi : (f : Int) < (M1.files.length : Int) := by omega
        have hlx := HLN.out f hff
        obtain ⟨x, hx⟩ : ∃ x, M1.files.getD f ([], 0) = x := ⟨_, rfl⟩
        rw [hx] at p1 hbv hlx
        have HX := Lib.hid (show flN M1 f = x from hx)
        have hxn : x.1.length = nv := hbv.1
        have HV2 := Lib.hid (And.intro (hbv.below hb2') (And.intro hAv hxn))
        have hnv5 : nv ≤ 5000000 := by omega
        clear hbv hAv hx hxn hlx
        go_upto_region 15 with fail
        have hD := Bk.new w2 #[.slice Av nv cv, .int .i64 (x.2 : Int)] 93
        have hw3 : Below w2.heap.size w2 (w2.alloc (.cells #[.slice Av nv cv, .int .i64 (x.2 : Int)] 93)) := Joins.below_alloc1 _ _
        have hH1 := Lib.hid ((H1.out.still hb2').still hw3)
        have HV3 := Lib.hid (And.intro (HV2.out.1.below hw3) (And.intro (BV.below (HV.out.below hb2') hw3) (Below.then hb2' hw3)))
        obtain ⟨g, hg⟩ : ∃ g, w2.heap.size = g := ⟨_, rfl⟩
        rw [hg] at hD ⊢
        generalize (w2.alloc (.cells #[.slice Av nv cv, .int .i64 (x.2 : Int)] 93)) = w3 at *
        have d0 := hD.cell 0 (v := .slice Av nv cv) rfl
        have d1 := hD.cell 1 (v := .int .i64 (x.2 : Int)) rfl
        clear c2 p0 p1 hw3 hg
        go_wp2_with fail
        refine wp_region_noPanic ?_
        refine region_g 11 (Ext (World.drew _)) (by kernel_rfl) (Ext.refl _) (fun hS => ?_)
        refine take_w (i := 0) (v := ?_) (some 57) rfl (by kernel_rfl) rfl (fun _ _ _ h => h) (Or.inl ⟨by rfl, ?_⟩) hS ?_
        rotate_left
        · (intro wq hq; go_simp); first | done | with_reducible rfl
        try simp only [Act.put, List.setIfInBounds_toArray, List.set_cons_zero, List.set_cons_succ]
        replace hS := Till.list 0 hS
        refine take_w (i := 1) (v := ?_) (some 58) rfl (by kernel_rfl) rfl (fun _ _ _ h => h) (Or.inl ⟨by rfl, ?_⟩) hS ?_
        rotate_left
        · (intro wq hq; go_simp); first | done | with_reducible rfl
        try simp only [Act.put, List.setIfInBounds_toArray, List.set_cons_zero, List.set_cons_succ]
        replace hS := Till.list 1 hS
        refine take_w (i := 3) (v := ?_) (some 60) rfl (by kernel_rfl) rfl (fun _ _ _ h => h) (Or.inl ⟨by rfl, ?_⟩) hS ?_
        rotate_left
        · (intro wq hq; go_simp); first | done | with_reducible rfl
        try simp only [Act.put, List.setIfInBounds_toArray, List.set_cons_zero, List.set_cons_succ]
        replace hS := Till.list 3 hS
        refine take_w (i := 6) (v := ?_) (some 63) rfl (by kernel_rfl) rfl (fun _ _ _ h => h) (Or.inl ⟨by rfl, ?_⟩) hS ?_
        rotate_left
        · (intro wq hq; go_simp); first | done | with_reducible rfl
        try simp only [Act.put, List.setIfInBounds_toArray, List.set_cons_zero, List.set_cons_succ]
        replace hS := Till.list 6 hS
        refine take_w (i := 8) (v := ?_) (some 65) rfl (by kernel_rfl) rfl (fun _ _ _ h => h) (Or.inl ⟨by rfl, ?_⟩) hS ?_
        rotate_left
        · (intro wq hq; go_simp); first | done | with_reducible rfl
        try simp only [Act.put, List.setIfInBounds_toArray, List.set_cons_zero, List.set_cons_succ]
        replace hS := Till.list 8 hS
        refine take_g (i := 4) (v := ?_) [7, 5, 4] (some 61) rfl (by kernel_rfl) rfl (fun _ _ _ h => h) (Or.inl ⟨by rfl, ?_⟩) hS ?_
        rotate_left
        · (intro wq hq; have q0 := hq _ _ _ d0; have q1 := hq _ _ _ d1; go_simp); first | done | with_reducible rfl
        try simp only [Act.put, List.setIfInBounds_toArray, List.set_cons_zero, List.set_cons_succ]
        replace hS := Till.list 4 hS
        refine take_g (i := 9) (v := ?_) [10, 9] (some 66) rfl (by kernel_rfl) rfl (fun _ _ _ h => h) (Or.inl ⟨by rfl, ?_⟩) hS ?_
        rotate_left
        · (intro wq hq; have q0 := hq _ _ _ d0; have q1 := hq _ _ _ d1; go_simp); first | done | with_reducible rfl
        try simp only [Act.put, List.setIfInBounds_toArray, List.set_cons_zero, List.set_cons_succ]
        replace hS := Till.list 9 hS
        refine ready_g (rs := [2]) (by kernel_rfl) (by simp) ?_
        refine AllReadyG.cons rfl (fun Kont hK => ?_) AllReadyG.nil
        go_simp
        refine hK.out _ _ (Or.inr ((hS.get (by kernel_rfl)).alloc _)) (fun hS0 => ?_)
        clear hK Kont
        try simp only [Act.put, List.setIfInBounds_toArray, List.set_cons_zero, List.set_cons_succ]
        clear hS
        have hS := hS0
        clear hS0
        refine ready_g (rs := [5]) (by kernel_rfl) (by simp) ?_
        refine AllReadyG.cons rfl (fun Kont hK => ?_) AllReadyG.nil
        refine want (by kernel_rfl) ?_
        refine wp_append_ow (some 62) rfl (.tmp 59) (.tmp 61) rfl w3.heap.size _ [] rfl (OW.empty w3.drew w3.heap.size (Nat.le_refl _) _ rfl) Av nv cv x.1 rfl (HV3.out.1.drew.alloc _) (by simp only [List.length_nil]; omega) (by simp) ?_
        intro v4 w4 ho4 hb4
        rw [List.nil_append] at ho4
        have hbW : Below w3.heap.size w3 w4 := ((Below.refl _ _).alloc (Nat.le_refl _) _).drew.trans hb4
        refine hK.out _ _ (Or.inr (((hS.get (by kernel_rfl)).low hb4 (Nat.le_refl _)))) (fun hS0 => ?_)
        clear hK Kont
        try simp only [Act.put, List.setIfInBounds_toArray, List.set_cons_zero, List.set_cons_succ]
        clear hS
        have hS := hS0
        clear hS0
        refine ready_g (rs := [7]) (by kernel_rfl) (by simp) ?_
        refine AllReadyG.cons rfl (fun Kont hK => ?_) AllReadyG.nil
        refine want (by kernel_rfl) ?_
        refine wp_append_ow (some 64) rfl (.tmp 62) (.tmp 63) rfl w3.heap.size _ x.1 rfl ho4 A n c zs rfl (HV3.out.2.1.below hbW) (by have := HV2.out.2.2; omega) hbW.size ?_
        intro v5 w5 ho5 hb5
        replace hbW := hbW.trans hb5
        clear ho4 hb4
        obtain ⟨a5, m5, c5, rfl⟩ := ho5.shape
        refine hK.out _ _ (Or.inr (((hS.get (by kernel_rfl)).low hb5 (Nat.le_refl _)))) (fun hS0 => ?_)
        clear hK Kont
        try simp only [Act.put, List.setIfInBounds_toArray, List.set_cons_zero, List.set_cons_succ]
        clear hS
        have hS := hS0
        clear hS0
        refine take_w (i := 10) (v := ?_) (some 67) rfl (by kernel_rfl) rfl (fun _ _ _ h => h) (Or.inl ⟨by rfl, ?_⟩) hS ?_
        rotate_left
        · (intro wq hq; go_simp); first | done | with_reducible rfl
        try simp only [Act.put, List.setIfInBounds_toArray, List.set_cons_zero, List.set_cons_succ]
        replace hS := Till.list 10 hS
        refine ready_g (rs := [11]) (by kernel_rfl) (by simp) ?_
        refine AllReadyG.cons rfl (fun Kont hK => ?_) AllReadyG.nil
        go_simp
        have hby : ∀ z ∈ x.1 ++ zs, 0 ≤ z ∧ z ≤ 255 := fun z hz => by
          rcases List.mem_append.1 hz with hz | hz
          · exact HV3.out.1.2.1 z hz
          · exact HV3.out.2.1.2.1 z hz
        have hRB : RB (Jn (AndNew I w3 w5) y) w5 (.slice a5 m5 c5) (x.1 ++ zs) := by
          obtain ⟨a6, c6, e6, h1, -, h3, h4⟩ := ho5.bvn hby _ rfl
          rw [e6] at ho5 ⊢
          exact ⟨a6, _, c6, rfl, h1, h3, fun q hq => by
            have hq1 := h4 q hq
            have hq2 : q.block < w5.heap.size := by subst hq; exact (ho5.mono (Nat.zero_le _)).low0 rfl
            have hq3 := hH1.out.blk.lt
            exact ⟨.inr ⟨hq1, hq2⟩, by omega⟩⟩
        have hR5 := (hH1.out.still hbW).mono (I' := AndNew I w3 w5) (fun b hb => .inl hb)
        refine (rput_any hR5 (by have := HS8.out.2.1; omega) f hff (x.1 ++ zs, x.2) hRB).mono ?_
        rintro e w6 ⟨rfl, hr, hk6⟩
        have HR6 := Lib.hid (And.intro hr (And.intro hk6 hbW))
        clear hr hk6 hbW hRB hR5 hby ho5 hb5
        refine hK.out _ _ (Or.inl (by kernel_rfl)) (fun hS0 => ?_)
        clear hK Kont
        try simp only [Act.put, List.setIfInBounds_toArray, List.set_cons_zero, List.set_cons_succ]
        clear hS
        have hS := hS0
        clear hS0
        refine done_g (by kernel_rfl) (NoPanic.normal ?_) _
        clear hS
        go_wp2_with fail
        go_ret
        rw [HC2.out]
        unfold appendedD
        rw [HF.out]
        simp only [if_pos HRm.out, HX.out]
        simp only [if_neg (show ¬ (0 : Int) = 33 by decide)]
        refine RDE.back (I1 := AndNew I w3 w5) (w1 := w5) ⟨rfl, HR6.out.1, HR6.out.2.1⟩ (HK.out.trans (Kp.of_new (Below.then HV3.out.2.2 HR6.out.2.2))) (fun b hb => ?_)
        have q1 := HK.out.size
        have q2 := HV3.out.2.2.size
        rcases hb with hb | ⟨e1, e2⟩
        · exact .inl hb
        · exact .inr ⟨by omega, e2⟩
    · have hdr : decide ((U : Int) + (n : Int) ≤ M1.quota) = false := decide_eq_false hroom
      have HRm := Lib.hid (show M1.quota < ((usedD M1 + zs.length : Nat) : Int) by rw [HUe.out, HZ.out]; omega)
      rcases ht2 with rfl | rfl
      · clear hne34 h34
        go_wp2_with fail
        refine wp_region_noPanic ?_
        refine region_g 11 (Old w1) (by kernel_rfl) ((Old.refl w1).drew) (fun hS => ?_)
        refine take_w (i := 0) (v := ?_) (some 22) rfl (by kernel_rfl) rfl (fun _ _ _ h => h) (Or.inl ⟨by rfl, ?_⟩) hS ?_
        rotate_left
        · (intro wq hq; go_simp); first | done | with_reducible rfl
        try simp only [Act.put, List.setIfInBounds_toArray, List.set_cons_zero, List.set_cons_succ]
        replace hS := Till.list 0 hS
        refine take_w (i := 2) (v := ?_) (some 24) rfl (by kernel_rfl) rfl (fun _ _ _ h => h) (Or.inl ⟨by rfl, ?_⟩) hS ?_
        rotate_left
        · (intro wq hq; go_simp); first | done | with_reducible rfl
        try simp only [Act.put, List.setIfInBounds_toArray, List.set_cons_zero, List.set_cons_succ]
        replace hS := Till.list 2 hS
        refine take_w (i := 5) (v := ?_) (some 27) rfl (by kernel_rfl) rfl (fun _ _ _ h => h) (Or.inl ⟨by rfl, ?_⟩) hS ?_
        rotate_left
        · (intro wq hq; go_simp); first | done | with_reducible rfl
        try simp only [Act.put, List.setIfInBounds_toArray, List.set_cons_zero, List.set_cons_succ]
        replace hS := Till.list 5 hS
        refine take_w (i := 3) (v := ?_) (some 25) rfl (by kernel_rfl) rfl (fun _ _ _ h => h) (Or.inl ⟨by rfl, ?_⟩) hS ?_
        rotate_left
        · (intro wq hq; go_simp); first | done | with_reducible rfl
        try simp only [Act.put, List.setIfInBounds_toArray, List.set_cons_zero, List.set_cons_succ]
        replace hS := Till.list 3 hS
        refine take_w (i := 6) (v := ?_) (some 28) rfl (by kernel_rfl) rfl (fun _ _ _ h => h) (Or.inl ⟨by rfl, ?_⟩) hS ?_
        rotate_left
        · (intro wq hq; go_simp); first | done | with_reducible rfl
        try simp only [Act.put, List.setIfInBounds_toArray, List.set_cons_zero, List.set_cons_succ]
        replace hS := Till.list 6 hS
        refine take_w (i := 7) (v := ?_) (some 29) rfl (by kernel_rfl) rfl (fun _ _ _ h => h) (Or.inl ⟨by rfl, ?_⟩) hS ?_
        rotate_left
        · (intro wq hq; go_simp); first | done | with_reducible rfl
        try simp only [Act.put, List.setIfInBounds_toArray, List.set_cons_zero, List.set_cons_succ]
        replace hS := Till.list 7 hS
        refine take_n (i := 8) (v := ?_) (some 30) rfl (by kernel_rfl) rfl (fun _ _ _ h => h) (Or.inl ⟨by rfl, ?_⟩) hS ?_
        rotate_left
        · (intro wq hq; have q0 := hq.cell c0; go_simp); first | done | with_reducible rfl
        try simp only [Act.put, List.setIfInBounds_toArray, List.set_cons_zero, List.set_cons_succ]
        replace hS := Till.list 8 hS
        refine ready_g (rs := [1]) (by kernel_rfl) (by simp) ?_
        refine AllReadyG.cons rfl (fun Kont hK => ?_) AllReadyG.nil
        go_simp
        refine (rused_any (H1.out.still ((Below.refl _ _).drew)) HS8.out.1 (fun n hn => (HS8.out.2.2.2 n hn).2) HU.out).mono ?_
        rintro e w2 ⟨rfl, hb2⟩
        rw [HUe.out]
        refine hK.out _ _ (Or.inr (((hS.get (by kernel_rfl)).below hb2))) (fun hS0 => ?_)
        clear hK Kont
        try simp only [Act.put, List.setIfInBounds_toArray, List.set_cons_zero, List.set_cons_succ]
        clear hS
        have hS := hS0
        clear hS0
        refine take_w (i := 4) (v := ?_) (some 26) rfl (by kernel_rfl) rfl (fun _ _ _ h => h) (Or.inl ⟨by rfl, ?_⟩) hS ?_
        rotate_left
        · (intro wq hq; go_simp); first | done | with_reducible rfl
        try simp only [Act.put, List.setIfInBounds_toArray, List.set_cons_zero, List.set_cons_succ]
        replace hS := Till.list 4 hS
        refine take_w (i := 9) (v := ?_) (some 31) rfl (by kernel_rfl) rfl (fun _ _ _ h => h) (Or.inl ⟨by rfl, ?_⟩) hS ?_
        rotate_left
        · (intro wq hq; go_simp); first | done | with_reducible rfl
        try simp only [Act.put, List.setIfInBounds_toArray, List.set_cons_zero, List.set_cons_succ]
        replace hS := Till.list 9 hS
        refine take_w (i := 10) (v := ?_) (some 9) rfl (by kernel_rfl) rfl (fun _ _ _ h => h) (Or.inl ⟨by rfl, ?_⟩) hS ?_
        rotate_left
        · (intro wq hq; go_simp); first | done | with_reducible rfl
        try simp only [Act.put, List.setIfInBounds_toArray, List.set_cons_zero, List.set_cons_succ]
        replace hS := Till.list 10 hS
        refine done_g (by kernel_rfl) (NoPanic.normal ?_) _
        clear hS
        have hb2' : Below w1.heap.size w1 w2 := ⟨hb2.os, hb2.tape, hb2.output, hb2.size, hb2.block⟩
        clear hb2
        go_wp2_with fail
        go_ret
        rw [HC2.out]
        unfold appendedD
        rw [HF.out]; simp only [if_neg (Int.not_le.2 HRm.out)]
        exact RDE.still8 (RDE.back (I1 := I) (w1 := w1) (w' := w1) ⟨rfl, ⟨_, _, _, _, _, H1.out.mono (fun b hb => .inl hb)⟩, Kp.refl _ _⟩ HK.out (fun b hb => .inl hb)) hb2'
      · clear hne34 h34
        go_wp2_with fail
        refine wp_region_noPanic ?_
        refine region_g 11 (Old w1) (by kernel_rfl) ((Old.refl w1).drew) (fun hS => ?_)
        refine take_w (i := 0) (v := ?_) (some 22) rfl (by kernel_rfl) rfl (fun _ _ _ h => h) (Or.inl ⟨by rfl, ?_⟩) hS ?_
        rotate_left
        · (intro wq hq; go_simp); first | done | with_reducible rfl
        try simp only [Act.put, List.setIfInBounds_toArray, List.set_cons_zero, List.set_cons_succ]
        replace hS := Till.list 0 hS
        refine take_w (i := 2) (v := ?_) (some 24) rfl (by kernel_rfl) rfl (fun _ _ _ h => h) (Or.inl ⟨by rfl, ?_⟩) hS ?_
        rotate_left
        · (intro wq hq; go_simp); first | done | with_reducible rfl
        try simp only [Act.put, List.setIfInBounds_toArray, List.set_cons_zero, List.set_cons_succ]
        replace hS := Till.list 2 hS
        refine take_w (i := 5) (v := ?_) (some 27) rfl (by kernel_rfl) rfl (fun _ _ _ h => h) (Or.inl ⟨by rfl, ?_⟩) hS ?_
        rotate_left
        · (intro wq hq; go_simp); first | done | with_reducible rfl
        try simp only [Act.put, List.setIfInBounds_toArray, List.set_cons_zero, List.set_cons_succ]
        replace hS := Till.list 5 hS
        refine take_w (i := 3) (v := ?_) (some 25) rfl (by kernel_rfl) rfl (fun _ _ _ h => h) (Or.inl ⟨by rfl, ?_⟩) hS ?_
        rotate_left
        · (intro wq hq; go_simp); first | done | with_reducible rfl
        try simp only [Act.put, List.setIfInBounds_toArray, List.set_cons_zero, List.set_cons_succ]
        replace hS := Till.list 3 hS
        refine take_w (i := 6) (v := ?_) (some 28) rfl (by kernel_rfl) rfl (fun _ _ _ h => h) (Or.inl ⟨by rfl, ?_⟩) hS ?_
        rotate_left
        · (intro wq hq; go_simp); first | done | with_reducible rfl
        try simp only [Act.put, List.setIfInBounds_toArray, List.set_cons_zero, List.set_cons_succ]
        replace hS := Till.list 6 hS
        refine take_w (i := 7) (v := ?_) (some 29) rfl (by kernel_rfl) rfl (fun _ _ _ h => h) (Or.inl ⟨by rfl, ?_⟩) hS ?_
        rotate_left
        · (intro wq hq; go_simp); first | done | with_reducible rfl
        try simp only [Act.put, List.setIfInBounds_toArray, List.set_cons_zero, List.set_cons_succ]
        replace hS := Till.list 7 hS
        refine take_n (i := 8) (v := ?_) (some 30) rfl (by kernel_rfl) rfl (fun _ _ _ h => h) (Or.inl ⟨by rfl, ?_⟩) hS ?_
        rotate_left
        · (intro wq hq; have q0 := hq.cell c0; go_simp); first | done | with_reducible rfl
        try simp only [Act.put, List.setIfInBounds_toArray, List.set_cons_zero, List.set_cons_succ]
        replace hS := Till.list 8 hS
        refine ready_g (rs := [1]) (by kernel_rfl) (by simp) ?_
        refine AllReadyG.cons rfl (fun Kont hK => ?_) AllReadyG.nil
        go_simp
        refine (rused_any (H1.out.still ((Below.refl _ _).drew)) HS8.out.1 (fun n hn => (HS8.out.2.2.2 n hn).2) HU.out).mono ?_
        rintro e w2 ⟨rfl, hb2⟩
        rw [HUe.out]
        refine hK.out _ _ (Or.inr (((hS.get (by kernel_rfl)).below hb2))) (fun hS0 => ?_)
        clear hK Kont
        try simp only [Act.put, List.setIfInBounds_toArray, List.set_cons_zero, List.set_cons_succ]
        clear hS
        have hS := hS0
        clear hS0
        refine take_w (i := 4) (v := ?_) (some 26) rfl (by kernel_rfl) rfl (fun _ _ _ h => h) (Or.inl ⟨by rfl, ?_⟩) hS ?_
        rotate_left
        · (intro wq hq; go_simp); first | done | with_reducible rfl
        try simp only [Act.put, List.setIfInBounds_toArray, List.set_cons_zero, List.set_cons_succ]
        replace hS := Till.list 4 hS
        refine take_w (i := 9) (v := ?_) (some 31) rfl (by kernel_rfl) rfl (fun _ _ _ h => h) (Or.inl ⟨by rfl, ?_⟩) hS ?_
        rotate_left
        · (intro wq hq; go_simp); first | done | with_reducible rfl
        try simp only [Act.put, List.setIfInBounds_toArray, List.set_cons_zero, List.set_cons_succ]
        replace hS := Till.list 9 hS
        refine take_w (i := 10) (v := ?_) (some 9) rfl (by kernel_rfl) rfl (fun _ _ _ h => h) (Or.inl ⟨by rfl, ?_⟩) hS ?_
        rotate_left
        · (intro wq hq; go_simp); first | done | with_reducible rfl
        try simp only [Act.put, List.setIfInBounds_toArray, List.set_cons_zero, List.set_cons_succ]
        replace hS := Till.list 10 hS
        refine done_g (by kernel_rfl) (NoPanic.normal ?_) _
        clear hS
        have hb2' : Below w1.heap.size w1 w2 := ⟨hb2.os, hb2.tape, hb2.output, hb2.size, hb2.block⟩
        clear hb2
        go_wp2_with fail
        go_ret
        rw [HC2.out]
        unfold appendedD
        rw [HF.out]; simp only [if_neg (Int.not_le.2 HRm.out)]
        exact RDE.still8 (RDE.back (I1 := I) (w1 := w1) (w' := w1) ⟨rfl, ⟨_, _, _, _, _, H1.out.mono (fun b hb => .inl hb)⟩, Kp.refl _ _⟩ HK.out (fun b hb => .inl hb)) hb2'
end
end Go.Proofs.Ytlagmjdldplblaa
