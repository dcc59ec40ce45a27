/- The document's own answers for layer 3: Read. -/
import Derived.Test.YtoebghfjpkkegaaDoorV3v
import Derived.Deep.DeepCutAuto
namespace Go.Proofs.YtoebghfjpkkegaaDoor
open Go.ChangeShapes Go.WideShapes Go.ChangeAt Go.RowKit
set_option linter.unusedVariables false

/-- what was guessed is right, if s is how a value is written -/
def Guess (t : Int) (s : ByteArray) (n : Int) (T : ByteArray) (ok : Bool) : Prop := Rg n ∧ ∀ n' s', fitsB t n' s' = true → Rg n' → textL t n' s' = nums s → ok = true ∧ n = n' ∧ T = s'
theorem rest_nums (s : ByteArray) (h : 1 ≤ s.size) : nums (s.extract 1 s.size) = (nums s).drop 1 := by
  rw [nums_extract, List.take_of_length_le]
  simp [nums_len]
theorem first_of {s : ByteArray} {c : Int} {r : List Int} (h : nums s = c :: r) : (nums s).getD 0 0 = c ∧ (nums s).drop 1 = r := by rw [h]; exact ⟨rfl, rfl⟩
/-- numbers that begin with a sign -/
theorem guess_neg {t : Int} {s : ByteArray} (ht : t ≠ 3) (hc : (nums s).getD 0 0 = 45) {x : Int} {ok : Bool} (hx : 0 ≤ x ∧ x < 18446744073709551616)
    (hw : ∀ u : Nat, u < 18446744073709551616 → (nums s).drop 1 = digits u → ok = true ∧ x = u) : Guess t s (wrap64 (IntKind.u64.wrap (-x))) ⟨#[]⟩ ok := by
  refine ⟨by rw [wrap64]; constructor <;> omega, fun n' s' hf hq h => ?_⟩
  have nodig : ∀ u : Nat, nums s ≠ digits u := fun u hu => by
    have h1 := digits_pos u
    have h2 := digits_bytes u ((digits u).getD 0 0) (getD_mem (by omega))
    rw [← hu, hc] at h2; omega
  have hk : t = 1 ∨ t = 2 := by
    unfold fitsB at hf
    by_cases a1 : t = 1 ∨ t = 2
    · exact a1
    · rw [if_neg a1, if_neg ht] at hf; cases hf
  rw [textL_is hf] at h
  rcases hk with rfl | rfl
  · rw [if_pos rfl, intS] at h
    by_cases hn : n' < 0
    · rw [if_pos hn] at h
      obtain ⟨e1, e2⟩ := hw n'.natAbs (by omega) (first_of h.symm).2
      refine ⟨e1, ?_, (fits_empty (.inl rfl) hf).symm⟩
      rw [e2, wrap64, IntKind.wrap_u64]; omega
    · rw [if_neg hn] at h; exact absurd h.symm (nodig _)
  · rw [if_neg (by decide), if_pos rfl] at h; exact absurd h.symm (nodig _)
/-- numbers that don't -/
theorem guess_pos {t : Int} {s : ByteArray} (ht : t ≠ 3) (hc : s.size = 0 ∨ (nums s).getD 0 0 ≠ 45) {x : Int} {ok : Bool} (hx : 0 ≤ x ∧ x < 18446744073709551616)
    (hw : ∀ u : Nat, u < 18446744073709551616 → nums s = digits u → ok = true ∧ x = u) : Guess t s (wrap64 x) ⟨#[]⟩ ok := by
  refine ⟨by rw [wrap64]; constructor <;> omega, fun n' s' hf hq h => ?_⟩
  have hk : t = 1 ∨ t = 2 := by
    unfold fitsB at hf
    by_cases a1 : t = 1 ∨ t = 2
    · exact a1
    · rw [if_neg a1, if_neg ht] at hf; cases hf
  rw [textL_is hf] at h
  rcases hk with rfl | rfl
  · rw [if_pos rfl, intS] at h
    by_cases hn : n' < 0
    · rw [if_pos hn] at h
      rcases hc with hc | hc
      · rw [← nums_len, ← h] at hc; simp at hc
      · exact absurd (first_of h.symm).1 hc
    · rw [if_neg hn] at h
      obtain ⟨e1, e2⟩ := hw n'.toNat (by omega) h.symm
      refine ⟨e1, ?_, (fits_empty (.inl rfl) hf).symm⟩
      rw [e2, wrap64]; omega
  · rw [if_neg (by decide), if_pos rfl] at h
    obtain ⟨e1, e2⟩ := hw _ (by rw [IntKind.wrap_u64]; omega) h.symm
    refine ⟨e1, ?_, (fits_empty (.inr rfl) hf).symm⟩
    rw [e2, wrap64, IntKind.wrap_u64]; omega
theorem guess_text {s T : ByteArray} {ok : Bool} (hw : ∀ z, (∀ x ∈ z, 0 ≤ x ∧ x ≤ 255) → nums s = textS z → ok = true ∧ nums T = z) : Guess 3 s 0 T ok := by
  refine ⟨by omega, fun n' s' hf hq h => ?_⟩
  have e0 : n' = 0 := by have := hf; simp [fitsB] at this; exact this.1
  rw [textL_is hf, if_neg (by decide), if_neg (by decide)] at h
  obtain ⟨e1, e2⟩ := hw (nums s') (nums_bytes s') h.symm
  exact ⟨e1, e0.symm, nums_inj e2⟩
theorem tail_slice (s : ByteArray) (h : 1 ≤ s.size) (W : World) : (Instr.slice 9 (.string s) (some (.int .i64 1)) none none).run Tryd.prog W = .ok (.string (s.extract 1 s.size)) W := by
  have h1 : (1 : Int) ≤ s.size := by omega
  go_simp
theorem Fr.set {w W : World} {g b i : Nat} (h : Fr w W g) (hg : g ≠ b) (v : Value) : Fr w (W.setCell ⟨b, i, none⟩ v) g :=
  ⟨h.1.set hg v, by rw [World.frozen?_setCell]; exact h.2.1, by rw [World.frozen?_setCell]; exact h.2.2.1, h.2.2.2⟩
set_option maxHeartbeats 8000000 in
theorem rread_any (t : Int) (s : ByteArray) (w : World) (hmax : s.size ≤ 200) : Calls Tryd.prog 13 #[.int .i64 t, .string s] w (RdR t s w) := by
  go_enter Tryd.func13, Tryd.ntmps13
  go_upto_if 15 with fail
  have hs1 : (w.alloc (.cells #[.int .i64 0, .string ⟨#[]⟩] 23)).heap.size = w.heap.size + 1 := by simp
  have fr4 : Fr w ((w.alloc (.cells #[.int .i64 0, .string ⟨#[]⟩] 23)).alloc (.cells #[.int .i64 0, .string ⟨#[]⟩] 23)) w.heap.size := (Fr.new (Below.refl w.heap.size w)).below (Joins.below_alloc1 _ _)
  have fr6 : Fr w ((w.alloc (.cells #[.int .i64 0, .string ⟨#[]⟩] 23)).alloc (.cells #[.int .i64 0, .string ⟨#[]⟩] 23)) (w.heap.size + 1) := by
    have h := Fr.new (w := w) (W := w.alloc (.cells #[.int .i64 0, .string ⟨#[]⟩] 23)) (Joins.below_alloc1 _ _)
    rw [hs1] at h; exact h
  have hw0 : Below w.heap.size w ((w.alloc (.cells #[.int .i64 0, .string ⟨#[]⟩] 23)).alloc (.cells #[.int .i64 0, .string ⟨#[]⟩] 23)) := Joins.below_alloc2 _ _ _
  clear hs1
  have hne : w.heap.size ≠ w.heap.size + 1 := by omega
  generalize (w.alloc (.cells #[.int .i64 0, .string ⟨#[]⟩] 23)).alloc (.cells #[.int .i64 0, .string ⟨#[]⟩] 23) = W at *
  generalize w.heap.size + 1 = b6 at *
  go_cut [7] (fun o wx => ∃ n T ok, o = .bool ok ∧ Guess t s n T ok ∧ Bx wx b6 n T ∧ Fr w wx w.heap.size ∧ Below w.heap.size w wx)
  case first =>
    by_cases h3 : t = 3
    · subst h3
      go_wp2_with fail
      refine (rtextin_any s _ hmax).mono ?_
      rintro e w1 ⟨hb1, T, ok, rfl, hu⟩
      have HU := Lib.hid hu
      have fr4 := fr4.below hb1
      have fr6 := fr6.below hb1
      have hw1 := Below.then hw0 hb1
      clear hu hb1
      obtain ⟨⟨z0, z1⟩, f0, f1, -⟩ := id fr6
      go_wp2_with fail
      go_meet
      exact ⟨0, T, ok, rfl, guess_text HU.out, fr6.1.put _ _, (fr4.set hne _).set hne _, (hw1.setCell fr6.2.2.2 _).setCell fr6.2.2.2 _⟩
    · have h3b : (t == 3) = false := by simp [h3]
      obtain ⟨⟨z0, z1⟩, f0, f1, -⟩ := id fr6
      by_cases hz : s.size = 0
      · have hl : ¬ (0 < (s.size : Int)) := by omega
        have HZ := Lib.hid hz
        clear hz
        go_wp2_with fail
        refine (whole_any s _ hmax).mono ?_
        rintro e w1 ⟨rfl, x, ok, rfl, hx, hu⟩
        have HU := Lib.hid hu
        have HX := Lib.hid hx
        clear hu hx
        go_wp2_with fail
        go_meet
        exact ⟨_, ⟨#[]⟩, ok, rfl, guess_pos h3 (.inl HZ.out) HX.out HU.out, fr6.1.put _ _, (fr4.set hne _).set hne _, (hw0.setCell fr6.2.2.2 _).setCell fr6.2.2.2 _⟩
      · have hl : 0 < (s.size : Int) := by omega
        have hi0 : ∀ W : World, (Instr.index 9 (.string s) (.int .i64 0)).run Tryd.prog W = .ok (.int .u8 ((nums s).getD 0 0)) W := index_is s 0 0 rfl (by omega)
        have hts := tail_slice s (by omega)
        have hrn := rest_nums s (by omega)
        have hrs : (s.extract 1 s.size).size ≤ 200 := by rw [← nums_len, hrn, List.length_drop, nums_len]; omega
        have HRN := Lib.hid hrn
        clear hrn
        by_cases hc : (nums s).getD 0 0 = 45
        · have HC := Lib.hid hc
          rw [hc] at hi0
          clear hc
          generalize s.extract 1 s.size = r at *
          go_wp2_with fail
          refine (whole_any r _ hrs).mono ?_
          rintro e w1 ⟨rfl, x, ok, rfl, hx, hu⟩
          have HU := Lib.hid hu
          have HX := Lib.hid hx
          clear hu hx
          go_wp2_with fail
          go_meet
          exact ⟨_, ⟨#[]⟩, ok, rfl, guess_neg h3 HC.out HX.out (by rw [← HRN.out]; exact HU.out), fr6.1.put _ _, (fr4.set hne _).set hne _, (hw0.setCell fr6.2.2.2 _).setCell fr6.2.2.2 _⟩
        · have HC0 := Lib.hid hc
          clear hts HRN hrs
          obtain ⟨c, hcc⟩ : ∃ c, (nums s).getD 0 0 = c := ⟨_, rfl⟩
          rw [hcc] at hi0 hc
          clear hcc
          have hcb : (c == 45) = false := by simp [hc]
          go_wp2_with fail
          refine (whole_any s _ hmax).mono ?_
          rintro e w1 ⟨rfl, x, ok, rfl, hx, hu⟩
          have HU := Lib.hid hu
          have HX := Lib.hid hx
          clear hu hx
          go_wp2_with fail
          go_meet
          exact ⟨_, ⟨#[]⟩, ok, rfl, guess_pos h3 (.inr HC0.out) HX.out HU.out, fr6.1.put _ _, (fr4.set hne _).set hne _, (hw0.setCell fr6.2.2.2 _).setCell fr6.2.2.2 _⟩
  case rest =>
    obtain ⟨n, T, ok, rfl, hg, hbx, fr, hw⟩ := hcut
    have HG := Lib.hid hg
    have q := hg.1
    clear hg fr4 fr6 hw0
    obtain ⟨y0, y1⟩ := id hbx
    go_wp2_with fail
    refine (rtext_any t n T _ q.1 q.2).mono ?_
    rintro e w2 ⟨rfl, hb2⟩
    have hbx := hbx.below hb2
    have fr2 := fr.below hb2
    have hw2 := Below.then hw hb2
    clear y0 y1 fr hw hb2
    obtain ⟨y0, y1⟩ := id hbx
    obtain ⟨⟨z0, z1⟩, f0, f1, -⟩ := id fr2
    by_cases hgood : ok = true ∧ strOfNums (textL t n T) = s ∧ s.size ≠ 0
    · obtain ⟨rfl, heq, hs0⟩ := hgood
      have heq2 : ((strOfNums (textL t n T)).toList == s.toList) = true := by rw [heq]; simp
      have hse : s.toList.isEmpty = false := by rw [empty_is]; exact decide_eq_false hs0
      have HEQ := Lib.hid heq
      have HS0 := Lib.hid hs0
      clear heq hs0
      go_wp2_with fail
      (try simp only [Exit.inBlock, Exit.then])
      refine bodyPost_ret (res_vv2 rfl _ _ rfl (fr2.1.put _ _)) rfl ?_
      have hfit : fitsB t n T = true := by
        cases hf : fitsB t n T
        · have h := HEQ.out
          rw [textL_not hf] at h
          exact absurd (by rw [← h]; rfl) HS0.out
        · rfl
      refine ⟨(hw2.setCell fr2.2.2.2 _).setCell fr2.2.2.2 _, _, _, _, rfl, .inl ⟨rfl, hfit, q, ?_⟩⟩
      have hk : t = 1 ∨ t = 2 ∨ t = 3 := by
        unfold fitsB at hfit
        by_cases a1 : t = 1 ∨ t = 2
        · omega
        · rw [if_neg a1] at hfit
          by_cases a3 : t = 3
          · omega
          · rw [if_neg a3] at hfit; cases hfit
      rw [← HEQ.out, nums_str (textL_bytes hk hfit)]
    · have hbad : Hid (∀ n' s', fitsB t n' s' = true → Rg n' → textL t n' s' ≠ nums s) := Lib.hid (fun n' s' hf hq ht => hgood (by
        obtain ⟨e0, e1, e2⟩ := HG.out.2 n' s' hf hq ht
        subst e1 e2
        refine ⟨e0, (str_of_text ht).symm, fun h0 => ?_⟩
        have hk : t = 1 ∨ t = 2 ∨ t = 3 := by
          unfold fitsB at hf
          by_cases a1 : t = 1 ∨ t = 2
          · omega
          · rw [if_neg a1] at hf
            by_cases a3 : t = 3
            · omega
            · rw [if_neg a3] at hf; cases hf
        have hl := congrArg List.length ht
        rw [nums_len, h0] at hl
        rcases (by omega : (t = 1 ∨ t = 2) ∨ t = 3) with h2 | rfl
        · have := (textL_one h2 hf).2.1; omega
        · have := (textL_three hf).1; omega))
      have hways : ok = false ∨ (ok = true ∧ ((strOfNums (textL t n T)).toList == s.toList) = false) ∨ (ok = true ∧ ((strOfNums (textL t n T)).toList == s.toList) = true ∧ s.toList.isEmpty = true) := by
        cases ok
        · exact .inl rfl
        · cases hb : ((strOfNums (textL t n T)).toList == s.toList)
          · exact .inr (.inl ⟨rfl, rfl⟩)
          · refine .inr (.inr ⟨rfl, rfl, ?_⟩)
            cases he : s.toList.isEmpty
            · rw [empty_is] at he
              exact absurd ⟨rfl, toList_inj (beq_iff_eq.1 hb), of_decide_eq_false he⟩ hgood
            · rfl
      clear hgood
      rcases hways with rfl | ⟨rfl, hq1⟩ | ⟨rfl, hq1, hq2⟩ <;>
      · go_wp2_with fail
        (try simp only [Exit.inBlock, Exit.then])
        refine bodyPost_ret (res_vv2 rfl _ _ rfl (fr2.1.put _ _)) rfl ?_
        exact ⟨(hw2.setCell fr2.2.2.2 _).setCell fr2.2.2.2 _, _, _, _, rfl, .inr ⟨rfl, rfl, rfl, hbad.out⟩⟩
end Go.Proofs.YtoebghfjpkkegaaDoor
