/-
  DiskTurns: for every two slices of bytes and every number with a slice of ints the statement's function returns true, and its arguments read as they did. No condition.
-/
import Derived.Test.YtlagmjdldplblaaBase
import Derived.Lib.SmallJoins
import Derived.Test.YtlagmjdldplblaaDiskF
import Derived.Test.YtlagmjdldplblaaRows
import Derived.WalkKit
import Derived.ProofKit
import Derived.OpenShut
import Derived.ShutString
import Derived.ChangeOld
import Derived.Below
/- How the statements' arguments come in: a number and ints in one struct. -/
namespace Go.Proofs.Ytlagmjdldplblaa
open Go.ChangeShapes Go.WideShapes Go.ChangeAt Go.RowKit
set_option linter.unusedVariables false
set_option maxRecDepth 4000

section
variable {H : Type} {enc : TypeId × Value → H} {w : World} {base fuel : Nat} {spare : Nat → Bool} {held : Bool}
theorem int8_of {t : TypeId} (ht : Try.prog.underlying t = some (.int .i64)) {c : Value} {y : DataW H × List MemPlace} (h : DataW.trod enc Try.prog w base spare held fuel t [c] = some y) : ∃ z : Int, c = .int .i64 z ∧ -9223372036854775808 ≤ z ∧ z ≤ 9223372036854775807 := by
  obtain ⟨z, hz, _, wz⟩ := DataW.trod_int ht h
  have := bounds_i64 wz
  exact ⟨z, by simpa using hz, this.1, this.2⟩
theorem open_left {r : Reach} {b0 : Nat} {v : Value} {d : DataW H} {p : List MemPlace} (hv : Value.okWide Try.prog w r b0 63 v) (h : DataW.Trod enc Try.prog w base spare held 63 v d p) :
    ∃ (x : Int) (A : Option Addr) (n c : Nat) (ts : List Int), v = .agg #[.int .i64 x, .slice A n c] ∧ IV w A n ts ∧ n ≤ c ∧ (-9223372036854775808 ≤ x ∧ x ≤ 9223372036854775807) ∧ Rgs ts := by
  obtain ⟨v0, v1, y0, y1, f, rfl, -, -, h0, h1⟩ := Joins.open_agg2 Try.underlying63 (by kernel_rfl) (by kernel_rfl) hv h
  obtain ⟨x, rfl, hx⟩ := int8_of Try.underlying3 h0
  obtain ⟨A, n, c, ts, hc, q1, q2, q3, q4, q5, q6⟩ := open_intsS Try.underlying29 (by kernel_rfl) Try.underlying3 h1
  simp only [List.cons.injEq, and_true] at hc
  subst hc
  exact ⟨x, A, n, c, ts, rfl, q5, q1, hx, q4⟩
theorem open_gint8 {r : Reach} {b0 : Nat} {v : Value} {d : DataW H} {p : List MemPlace} (hv : Value.okWide Try.prog w r b0 3 v) (h : DataW.Trod enc Try.prog w base spare held 3 v d p) : ∃ a : Int, v = .int .i64 a ∧ (-9223372036854775808 ≤ a ∧ a ≤ 9223372036854775807) := by
  obtain ⟨a, rfl, -, -, wa⟩ := open_int Try.underlying3 hv h
  exact ⟨a, rfl, bounds_i64 wa⟩
end
end Go.Proofs.Ytlagmjdldplblaa
/- The statement DiskTurns. -/
namespace Go.Proofs.Ytlagmjdldplblaa
open Go.ChangeShapes Go.WideShapes Go.ChangeAt Go.RowKit Go.WideMaps Go.Maps
set_option linter.unusedVariables false
set_option maxRecDepth 4000

theorem BV.ld {w0 w : World} {p k : Nat} {M : DK} {A : Option Addr} {n : Nat} {zs : List Int} (h : BV w0 A n zs) (hd : LD w0 w p k M) : BV w A n zs := h.below hd.2
set_option maxHeartbeats 4000000 in
theorem turns8_is (A B : Option Addr) (n m c d : Nat) (xs bs : List Int) (ch : Int) (T : Option Addr) (q r : Nat) (ts : List Int) (w : World) (hA : BV w A n xs) (hnc : n ≤ c) (hB : BV w B m bs) (hmd : m ≤ d) (hT : IV w T q ts) (hqr : q ≤ r) (hc : -9223372036854775808 ≤ ch ∧ ch ≤ 9223372036854775807) (hr : ∀ x ∈ ts, -9223372036854775808 ≤ x ∧ x ≤ maxI) :
    Calls Try.prog 8 #[.slice A n c, .slice B m d, .agg #[.int .i64 ch, .slice T q r]] w fun e w' => e = .returned (.bool true) ∧ Below w.heap.size w w' := by
  have hk : Below w.heap.size w (w.alloc (.cells #[.int .i64 ch, .slice T q r] 63)) := (Below.refl _ _).alloc (Nat.le_refl _) _
  have hBk := Bk.new w #[.int .i64 ch, .slice T q r] 63
  have hs := Lib.hid (shown8_is (w.alloc (.cells #[.int .i64 ch, .slice T q r] 63)))
  have HI := Lib.hid (And.intro (hA.below hk) (And.intro (hB.below hk) (SV.below hT hk)))
  have HK := Lib.hid (And.intro hk hBk)
  clear hA hB hT hk hBk
  go_enter Try.func8, Try.ntmps8
  go_wp2_with fail
  refine hs.out.mono ?_
  rintro e w1 ⟨rfl, hb1⟩
  obtain ⟨m1, z1, hz1, hl1, hc1, h100, hv1, hlo1, hf1⟩ := few_l (HI.out.1.below hb1) hnc
  obtain ⟨m2, z2, hz2, hl2, hc2, h200, hv2, hlo2, hf2⟩ := few_l (HI.out.2.1.below hb1) hmd
  obtain ⟨m3, z3, hz3, hl3, hv3, hlo3, hf3⟩ := some_l (SV.below HI.out.2.2 hb1) hqr
  have hr3 : ∀ x ∈ z3, -9223372036854775808 ≤ x ∧ x ≤ maxI := fun x hx => hr x (by rw [hz3] at hx; exact List.mem_of_mem_take hx)
  have hcl0 := (HK.out.2.below hb1).cell 0 (v := .int .i64 ch) rfl
  have hcl1 := (HK.out.2.below hb1).cell 1 (v := .slice T q r) rfl
  have H1 := Lib.hid (And.intro hv1 (And.intro hlo1 (And.intro hv2 (And.intro hlo2 (And.intro hv3 (And.intro hlo3 hr3))))))
  have HF := Lib.hid (And.intro hf1 (And.intro hf2 (And.intro hf3 (Below.then HK.out.1 hb1))))
  have HC := Lib.hid (And.intro hcl0 hcl1)
  have HL := Lib.hid (And.intro hl1 hl2)
  clear hb1 HI HK hs hv1 hv2 hv3 hlo1 hlo2 hlo3 hr3 hf1 hf2 hf3 hz1 hz2 hz3 hcl0 hcl1 hr hl1 hl2
  go_wp2_with fail
  refine (new_l w1 1000 (by unfold maxI; omega)).mono ?_
  rintro e w2 ⟨p, rfl, hL⟩
  have h2 := Lib.hid hL
  clear hL
  go_wp2_with fail
  refine (HF.out.1 w2 h2.out.2).mono ?_
  rintro e w3 ⟨rfl, e3⟩
  subst e3
  go_wp2_with fail
  refine (HF.out.2.1 w3 h2.out.2).mono ?_
  rintro e w4 ⟨rfl, e4⟩
  subst e4
  go_wp2_with fail
  refine (create_l h2.out (by omega) nF (by decide)).mono ?_
  rintro e w5 hL
  obtain ⟨rfl, hL⟩ := hL
  have h5 := Lib.hid hL
  clear hL
  go_wp2_with fail
  refine (append_l h5.out (by omega) nF (by decide) A m1 c z1 (H1.out.1.ld h5.out) hc1 (by omega) H1.out.2.1).mono ?_
  rintro e w6 hL
  obtain ⟨rfl, hL⟩ := hL
  have h6 := Lib.hid hL
  clear hL
  go_wp2_with fail
  refine (sync_l h6.out (by omega) nF (by decide)).mono ?_
  rintro e w7 hL
  obtain ⟨rfl, hL⟩ := hL
  have h7 := Lib.hid hL
  clear hL
  go_wp2_with fail
  refine (syncDir_l h7.out (by omega)).mono ?_
  rintro e w8 hL
  obtain ⟨rfl, hL⟩ := hL
  have h8 := Lib.hid hL
  clear hL
  go_wp2_with fail
  refine (create_l h8.out (by omega) nN (by decide)).mono ?_
  rintro e w9 hL
  obtain ⟨rfl, hL⟩ := hL
  have h9 := Lib.hid hL
  clear hL
  go_wp2_with fail
  refine (append_l h9.out (by omega) nN (by decide) B m2 d z2 (H1.out.2.2.1.ld h9.out) hc2 (by omega) H1.out.2.2.2.1).mono ?_
  rintro e w10 hL
  obtain ⟨rfl, hL⟩ := hL
  have h10 := Lib.hid hL
  clear hL
  go_wp2_with fail
  refine (sync_l h10.out (by omega) nN (by decide)).mono ?_
  rintro e w11 hL
  obtain ⟨rfl, hL⟩ := hL
  have h11 := Lib.hid hL
  clear hL
  go_wp2_with fail
  refine (rename_l h11.out (by omega) nN nF (by decide)).mono ?_
  intro e w12 hL
  rw [turns_made (by rw [HL.out.1]; exact h100) (by rw [HL.out.2]; exact h200)] at hL
  obtain ⟨rfl, hL⟩ := hL
  have h12 := Lib.hid hL
  clear hL h5 h6 h7 h8 h9 h10 h11
  go_wp2_with fail
  have d0 := keepc HC.out.1 h12.out.2
  have d1 := keepc HC.out.2 h12.out.2
  refine wp_region_noPanic ?_
  refine region_g 8 (Old w12) (by kernel_rfl) ((Old.refl w12).drew) (fun hS => ?_)
  refine take_w (i := 0) (v := ?_) (some 47) rfl (by kernel_rfl) rfl (fun _ _ _ h => h) (Or.inl ⟨by rfl, ?_⟩) hS ?_
  rotate_left
  · (intro wq hq; go_simp); first | done | with_reducible rfl
  try simp only [Act.put, List.setIfInBounds_toArray, List.set_cons_zero, List.set_cons_succ]
  replace hS := Till.list 0 hS
  refine take_w (i := 1) (v := ?_) (some 48) rfl (by kernel_rfl) rfl (fun _ _ _ h => h) (Or.inl ⟨by rfl, ?_⟩) hS ?_
  rotate_left
  · (intro wq hq; go_simp); first | done | with_reducible rfl
  try simp only [Act.put, List.setIfInBounds_toArray, List.set_cons_zero, List.set_cons_succ]
  replace hS := Till.list 1 hS
  refine take_w (i := 3) (v := ?_) (some 50) rfl (by kernel_rfl) rfl (fun _ _ _ h => h) (Or.inl ⟨by rfl, ?_⟩) hS ?_
  rotate_left
  · (intro wq hq; go_simp); first | done | with_reducible rfl
  try simp only [Act.put, List.setIfInBounds_toArray, List.set_cons_zero, List.set_cons_succ]
  replace hS := Till.list 3 hS
  refine take_n (i := 2) (v := ?_) (some 49) rfl (by kernel_rfl) rfl (fun _ _ _ h => h) (Or.inl ⟨by rfl, ?_⟩) hS ?_
  rotate_left
  · (intro wq hq; have r0 := hq.cell d0; have r1 := hq.cell d1; go_simp); first | done | with_reducible rfl
  try simp only [Act.put, List.setIfInBounds_toArray, List.set_cons_zero, List.set_cons_succ]
  replace hS := Till.list 2 hS
  refine take_n (i := 4) (v := ?_) (some 51) rfl (by kernel_rfl) rfl (fun _ _ _ h => h) (Or.inl ⟨by rfl, ?_⟩) hS ?_
  rotate_left
  · (intro wq hq; have r0 := hq.cell d0; have r1 := hq.cell d1; go_simp); first | done | with_reducible rfl
  try simp only [Act.put, List.setIfInBounds_toArray, List.set_cons_zero, List.set_cons_succ]
  replace hS := Till.list 4 hS
  refine ready_g (rs := [5]) (by kernel_rfl) (by simp) ?_
  refine AllReadyG.cons rfl (fun Kont hK => ?_) AllReadyG.nil
  go_simp
  refine (HF.out.2.2.1 _ h12.out.2.drew).mono ?_
  rintro e w13 ⟨rfl, e13⟩
  subst e13
  refine hK.out _ _ (Or.inr ((hS.get (by kernel_rfl)))) (fun hS0 => ?_)
  clear hK Kont
  try simp only [Act.put, List.setIfInBounds_toArray, List.set_cons_zero, List.set_cons_succ]
  clear hS
  have hS := hS0
  clear hS0
  refine ready_g (rs := [6]) (by kernel_rfl) (by simp) ?_
  refine AllReadyG.cons rfl (fun Kont hK => ?_) AllReadyG.nil
  go_simp
  refine (crash_l h12.out.drew (by omega) ch T m3 r z3 (SV.below (SV.below H1.out.2.2.2.2.1 h12.out.2) ((Below.refl _ _).drew)) (by omega) H1.out.2.2.2.2.2.2).mono ?_
  rintro e w13 ⟨x, rfl, hx, hp⟩
  refine hK.out _ _ (Or.inr (((hS.get (by kernel_rfl)).below hx.2))) (fun hS0 => ?_)
  clear hK Kont
  try simp only [Act.put, List.setIfInBounds_toArray, List.set_cons_zero, List.set_cons_succ]
  clear hS
  have hS := hS0
  clear hS0
  refine take_w (i := 7) (v := ?_) (some 10) rfl (by kernel_rfl) rfl (fun _ _ _ h => h) (Or.inl ⟨by rfl, ?_⟩) hS ?_
  rotate_left
  · (intro wq hq; go_simp); first | done | with_reducible rfl
  try simp only [Act.put, List.setIfInBounds_toArray, List.set_cons_zero, List.set_cons_succ]
  replace hS := Till.list 7 hS
  refine done_g (by kernel_rfl) (NoPanic.normal ?_) _
  clear hS
  have hx13 := Lib.hid hx
  have HB13 := Lib.hid (hp.2)
  replace d0 := keepc HC.out.1 hp.2
  clear hx hp d1 h12
  have hbz1 := H1.out.1.2.1
  have hbz2 := H1.out.2.2.1.2.1
  obtain ⟨hf1, hf2⟩ := turns_found z1 z2 ch z3
  by_cases h0 : ch ≤ 0
  · rw [if_pos (show ch ≤ 1 by omega)] at hf1
    rw [if_neg (show ¬ ch = 1 by omega)] at hf2
    have HQ := Lib.hid (And.intro hf1 hf2)
    have hm : min (max ch 0) 2 = 0 := by omega
    clear hf1 hf2 h0
    go_wp2_with fail
    refine (read_l hx13.out (by omega) nF (by decide)).mono ?_
    intro e w14 hr1
    rw [HQ.out.1] at hr1
    obtain ⟨v1, rfl, hv1, hb14⟩ := hr1
    obtain ⟨a1, k1, rfl, -, -, hbv1, -⟩ := hv1.bvn hbz1 _ rfl
    have H14 := Lib.hid (And.intro hbv1 (hx13.out.below hb14))
    have hB14 := Lib.hid (HB13.out.trans (hb14.mono HB13.out.size))
    have hC14 := (Old.refl w13).below hb14
    replace d0 := hC14.cell d0
    clear hv1 hb14 hbv1
    go_wp2_with fail
    refine (read_l H14.out.2 (by omega) nN (by decide)).mono ?_
    intro e w15 hr2
    rw [HQ.out.2] at hr2
    obtain ⟨v2, rfl, hv2, hb15⟩ := hr2
    obtain ⟨a2, k2, rfl, -, -, hbv2, -⟩ := hv2.bvn (by simp) _ rfl
    have hB15 := Lib.hid (hB14.out.trans (hb15.mono hB14.out.size))
    have f1 := conv_any (H14.out.1.below hb15) k1
    have f2 := conv_any hbv2 k2
    have f3 := conv_any (H1.out.1.below hB15.out) c
    have f4 := conv_any (H1.out.2.2.1.below hB15.out) d
    replace d0 := ((Old.refl w14).below hb15).cell d0
    clear hv2 hb15 hbv2
    go_wp2_with fail
    go_ret
    exact ⟨by simp, HF.out.2.2.2.trans (hB15.out.mono HF.out.2.2.2.size)⟩
  · by_cases h1 : ch = 1
    · subst h1
      rw [if_pos (show (1 : Int) ≤ 1 by omega)] at hf1
      rw [if_pos rfl] at hf2
      have HQ := Lib.hid (And.intro hf1 hf2)
      clear hf1 hf2 h0
      go_wp2_with fail
      refine (read_l hx13.out (by omega) nF (by decide)).mono ?_
      intro e w14 hr1
      rw [HQ.out.1] at hr1
      obtain ⟨v1, rfl, hv1, hb14⟩ := hr1
      obtain ⟨a1, k1, rfl, -, -, hbv1, -⟩ := hv1.bvn hbz1 _ rfl
      have H14 := Lib.hid (And.intro hbv1 (hx13.out.below hb14))
      have hB14 := Lib.hid (HB13.out.trans (hb14.mono HB13.out.size))
      have hC14 := (Old.refl w13).below hb14
      replace d0 := hC14.cell d0
      clear hv1 hb14 hbv1
      go_wp2_with fail
      refine (read_l H14.out.2 (by omega) nN (by decide)).mono ?_
      intro e w15 hr2
      rw [HQ.out.2] at hr2
      obtain ⟨v2, rfl, hv2, hb15⟩ := hr2
      obtain ⟨a2, k2, rfl, -, -, hbv2, -⟩ := hv2.bvn hbz2 _ rfl
      have hB15 := Lib.hid (hB14.out.trans (hb15.mono hB14.out.size))
      have f1 := conv_any (H14.out.1.below hb15) k1
      have f2 := conv_any hbv2 k2
      have f3 := conv_any (H1.out.1.below hB15.out) c
      have f4 := conv_any (H1.out.2.2.1.below hB15.out) d
      replace d0 := ((Old.refl w14).below hb15).cell d0
      clear hv2 hb15 hbv2
      go_wp2_with fail
      go_ret
      exact ⟨by simp, HF.out.2.2.2.trans (hB15.out.mono HF.out.2.2.2.size)⟩
    · rw [if_neg (show ¬ ch ≤ 1 by omega)] at hf1
      rw [if_neg h1] at hf2
      have HQ := Lib.hid (And.intro hf1 hf2)
      have hm : min (max ch 0) 2 = 2 := by omega
      clear hf1 hf2 h0 h1
      go_wp2_with fail
      refine (read_l hx13.out (by omega) nF (by decide)).mono ?_
      intro e w14 hr1
      rw [HQ.out.1] at hr1
      obtain ⟨v1, rfl, hv1, hb14⟩ := hr1
      obtain ⟨a1, k1, rfl, -, -, hbv1, -⟩ := hv1.bvn hbz2 _ rfl
      have H14 := Lib.hid (And.intro hbv1 (hx13.out.below hb14))
      have hB14 := Lib.hid (HB13.out.trans (hb14.mono HB13.out.size))
      have hC14 := (Old.refl w13).below hb14
      replace d0 := hC14.cell d0
      clear hv1 hb14 hbv1
      go_wp2_with fail
      refine (read_l H14.out.2 (by omega) nN (by decide)).mono ?_
      intro e w15 hr2
      rw [HQ.out.2] at hr2
      obtain ⟨v2, rfl, hv2, hb15⟩ := hr2
      obtain ⟨a2, k2, rfl, -, -, hbv2, -⟩ := hv2.bvn (by simp) _ rfl
      have hB15 := Lib.hid (hB14.out.trans (hb15.mono hB14.out.size))
      have f1 := conv_any (H14.out.1.below hb15) k1
      have f2 := conv_any hbv2 k2
      have f3 := conv_any (H1.out.1.below hB15.out) c
      have f4 := conv_any (H1.out.2.2.1.below hB15.out) d
      replace d0 := ((Old.refl w14).below hb15).cell d0
      clear hv2 hb15 hbv2
      go_wp2_with fail
      go_ret
      exact ⟨by simp, HF.out.2.2.2.trans (hB15.out.mono HF.out.2.2.2.size)⟩
end Go.Proofs.Ytlagmjdldplblaa
/-
  DiskTurns: for every two slices of bytes and every number with a slice of ints the statement's function returns true, and its arguments read as they did. No condition.
-/
namespace Go.Proofs.Ytlagmjdldplblaa.diskTurns
open Go.ChangeShapes Go.WideShapes Go.ChangeAt Go.RowKit
set_option linter.unusedVariables false
set_option maxRecDepth 4000

set_option maxRecDepth 100000 in
theorem lifted (os : Os) (started : os.Started) (H : Type) (enc : TypeId × Value → H) :
    ReturnsInHanded {} Try.checked os 8 .any (Rows.diskTurnsSpec.pre6 enc Try.prog Try.f8 Rows.diskTurnsRow.domain false) (Rows.diskTurnsSpec.post enc Try.prog Try.f8 false true false false) := by
  refine returnsInHanded_of_change (C := Try.checked) own started (by kernel_rfl) Try.func8
    (ChangeSpec.witness6 (enc := enc) (C := Try.checked) false ⟨#[], #[.slice none 0 0, .slice none 0 0, .agg #[.int .i64 0, .slice none 0 0]], []⟩ 8 (by kernel_rfl) (by kernel_rfl) (by kernel_rfl) (by kernel_rfl)) ?_
  intro W base args ds gs before hval0 hW hcnd _
  have hval : ∀ (j : Nat) t v, Try.f8.params[j]? = some t → args[j]? = some v → Value.okWide Try.prog W .any base t v := hval0
  have hW' := hW
  obtain ⟨p, q, hA0, hV, rfl, hfz, hnd⟩ := hW
  have hA : DataW.TrodAll enc Try.prog W 0 (fun _ => true) true Try.f8.params.toList args.toList ds p := hA0
  rw [Try.params8] at hA hval
  obtain ⟨v0, vs0, d0, ds0, p0, q0, hargs0, rfl, rfl, h0, r0⟩ := trodAll_cons hA
  obtain ⟨v1, vs1, d1, ds1, p1, q1, hargs1, hds1, hq1, h1, r1⟩ := trodAll_cons r0
  obtain ⟨v2, vs2, d2, ds2, p2, q2, hargs2, hds2, hq2, h2, r2⟩ := trodAll_cons r1
  obtain ⟨hn1, hn2, hn3⟩ := trodAll_nil r2
  subst hn2 hn3
  subst hds2 hq2
  subst hds1 hq1
  obtain rfl : args = #[v0, v1, v2] := by cases args; simp_all
  obtain ⟨rfl, rfl⟩ := trodVars_none hV
  have rd0 := h0
  have lt0 : ∀ x ∈ p0, x.block < W.heap.size := by obtain ⟨m, hm⟩ := rd0; exact DataW.trod_lt m _ _ _ hm
  obtain ⟨A0, n0, c0, z0, rfl, W0, L0⟩ := open_bytes (hval 0 28 v0 rfl rfl) h0
  have rd1 := h1
  have lt1 : ∀ x ∈ p1, x.block < W.heap.size := by obtain ⟨m, hm⟩ := rd1; exact DataW.trod_lt m _ _ _ hm
  obtain ⟨A1, n1, c1, z1, rfl, W1, L1⟩ := open_bytes (hval 1 28 v1 rfl rfl) h1
  have rd2 := h2
  have lt2 : ∀ x ∈ p2, x.block < W.heap.size := by obtain ⟨m, hm⟩ := rd2; exact DataW.trod_lt m _ _ _ hm
  obtain ⟨x2, A2, n2, c2, t2, rfl, W2, L2, B2, R2⟩ := open_left (hval 2 63 v2 rfl rfl) h2
  clear hA0 hval0
  refine (turns8_is A0 A1 n0 n1 c0 c1 z0 z1 x2 A2 n2 c2 t2 W W0 L0 W1 L1 W2 L2 B2 R2).mono fun e W' ⟨he, bel⟩ => ?_
  subst he
  exact ⟨_, rfl, _, _, _, [], _, [], hW', trodAll_mk1 (shut_bool Try.underlying4 _), (trodAll_cons_mk (Below.trod laidOut (by kernel_rfl) (of_decide_eq_true (by kernel_rfl)) rd0 bel lt0) (trodAll_cons_mk (Below.trod laidOut (by kernel_rfl) (of_decide_eq_true (by kernel_rfl)) rd1 bel lt1) (trodAll_cons_mk (Below.trod laidOut (by kernel_rfl) (of_decide_eq_true (by kernel_rfl)) rd2 bel lt2) trodAll_mk0))), rfl, bel.frame _, fun h => by cases h⟩

theorem over : Rows.diskTurnsRow.holds Try.pinned (OpenSpec.ofChange Rows.diskTurnsSpec) :=
  OpenClaim.holds_of_wide 8 Try.f8 rfl rfl rfl rfl rfl rfl rfl ⟨rfl, rfl, rfl, rfl, rfl⟩ rfl rfl rfl rfl rfl (by kernel_rfl) Try.func8 (by kernel_rfl)
    (of_decide_eq_true (by kernel_rfl)) (by unfold Func.isWrapper; first | (rw [if_pos (by decide +kernel)]; kernel_rfl) | (rw [if_neg (by decide +kernel)]; exact ⟨rfl, rfl⟩))
    (fun os started H enc _ => lifted os started H enc)
end Go.Proofs.Ytlagmjdldplblaa.diskTurns
namespace Go.Proofs.Ytlagmjdldplblaa
theorem diskTurns_holds : Rows.DiskTurnsSaid := diskTurns.over
end Go.Proofs.Ytlagmjdldplblaa
