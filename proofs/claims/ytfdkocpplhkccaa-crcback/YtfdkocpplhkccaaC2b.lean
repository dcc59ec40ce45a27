/- CrcBack: the walk. -/
import Derived.Test.YtfdkocpplhkccaaC2q
namespace Go.Proofs.Ytfdkocpplhkccaa
open Go.ChangeShapes Go.WideShapes Go.ChangeAt Go.RowKit
set_option linter.unusedVariables false

theorem bytes_append {a b : List Int} (ha : ∀ z ∈ a, 0 ≤ z ∧ z ≤ 255) (hb : ∀ z ∈ b, 0 ≤ z ∧ z ≤ 255) : ∀ z ∈ a ++ b, 0 ≤ z ∧ z ≤ 255 := by
  intro z hz
  rcases List.mem_append.1 hz with h | h
  · exact ha z h
  · exact hb z h

set_option maxHeartbeats 2000000 in
theorem crcBack_walk (a b : Option Addr) (na ca nb cb : Nat) (A B : List Int) (t : Int) (w : World) (hA : BV w a na A) (hB : BV w b nb B) (hca : na ≤ ca) (hcb : nb ≤ cb) (ht0 : 0 ≤ t) (ht1 : t ≤ 65535) :
    Calls Try.prog 4 #[.slice a na ca, .slice b nb cb, .int .u16 t] w fun e w' => e = .returned (.bool true) ∧ Below w.heap.size w w' := by
  have hL := hA.take (min na 300) (by omega)
  have hM := hB.take (min nb 300) (by omega)
  obtain ⟨m, L, hm, hLe⟩ : ∃ m L, m = min na 300 ∧ L = A.take (min na 300) := ⟨_, _, rfl, rfl⟩
  obtain ⟨j, M, hj, hMe⟩ : ∃ m L, m = min nb 300 ∧ L = B.take (min nb 300) := ⟨_, _, rfl, rfl⟩
  rw [← hLe, ← hm] at hL
  rw [← hMe, ← hj] at hM
  have hm3 : m ≤ 300 := by omega
  have hj3 : j ≤ 300 := by omega
  have hmc : m ≤ ca := by omega
  have HM : Hid (m = min na 300) := hm
  have HJ : Hid (j = min nb 300) := hj
  clear hm hLe hj hMe
  have hLl := hL.1
  have hMl := hM.1
  have hLb := hL.2.1
  have hMb := hM.2.1
  have hfl := frameL_len L
  have hFb := frameL_bytes hLb
  have hp10 := pv_len10 (x := (L.length : Int)) (by omega)
  have hp1 := pv_pos (L.length : Int)
  have HU1 : Hid (unf (frameL L ++ M) = (L, ((frameL L).length : Int), 0)) := unf_frame L M (by omega)
  have HU2 : ∀ r, r < (frameL L).length → unf ((frameL L).take r) = ([], 0, 10) := fun r hr => unf_part L r (by omega) hr
  generalize hF : frameL L = F at *
  have HF : Hid (frameL L = F) := hF
  clear hF
  obtain ⟨N, hN⟩ : ∃ N, F.length = N := ⟨_, rfl⟩
  rw [hN] at HU1 HU2 hfl
  have hN5 : 5 ≤ N := by omega
  have hN3 : N ≤ 314 := by omega
  have hN5' : ¬ (N : Int) < 5 := by omega
  have hr0 : 0 ≤ t % (N : Int) := Int.emod_nonneg _ (by omega)
  have hr1 : t % (N : Int) < (N : Int) := Int.emod_lt_of_pos _ (by omega)
  have HR : Hid (unf (F.take (t % (N : Int)).toNat) = ([], 0, 10)) := HU2 _ (by omega)
  have HN : Hid (F.length = N) := hN
  have HFM : Hid ((F ++ M).length = N + j) := by show _ = _; rw [List.length_append, hN, hMl]
  have hFMb := bytes_append hFb hMb
  clear hp10 hp1 HU2 hfl hN
  have hN0 : ((N : Int) == 0) = false := by rw [beq_eq_false_iff_ne]; omega
  go_enter Try.func4, Try.ntmps4
  go_wp2_with (go_at_call 9; refine (shown2_is _).mono ?_; rintro e w0 ⟨rfl, hb0⟩)
  have hs0 := hb0.size
  have hA0 := hA.below hb0
  have hL0 := hL.below hb0
  refine (short2_is hA0 hca HM.out).mono ?_
  rintro e w' ⟨rfl, rfl⟩
  have hcv := conv_any hL0 ca
  go_wp2_with fail
  refine (frame_any _ _ _ _ _ hL0 (by omega)).mono ?_
  rintro e w1 ⟨v1, rfl, ho1, hb1⟩
  rw [HF.out] at ho1
  obtain ⟨a1, c1, rfl, hc1, -, hF1, -⟩ := ho1.bvn hFb N HN.out
  have hb1' : Below w.heap.size w w1 := hb0.trans (hb1.mono hs0)
  clear ho1 hb1 hcv hA0 hL0
  have hs1 := hb1'.size
  have hB1 := hB.below hb1'
  have hM1 := hM.below hb1'
  go_wp2_with (at_builtin; refine append_ow rfl (.tmp 27) (.tmp 28) rfl w1.heap.size _ [] rfl (OW.empty _ _ (Nat.le_refl _) _ rfl) _ N _ F rfl (hF1.alloc _) (by simp only [List.length_nil]; omega) (by rw [heap_alloc]; omega) ?_; intro v2 w2 ho2 hb2; rw [List.nil_append] at ho2)
  have hk2 : Below w1.heap.size w1 w2 := ((Below.refl _ _).alloc (Nat.le_refl _) _).trans hb2
  have hB2 := hB1.below hk2
  have hM2 := hM1.below hk2
  have hs2 := hk2.size
  refine (short2_is hB2 hcb HJ.out).mono ?_
  rintro e w' ⟨rfl, rfl⟩
  go_wp2_with (at_builtin; refine append_ow rfl (.tmp 29) (.tmp 31) rfl w1.heap.size _ F rfl ho2 _ j _ M rfl hM2 (by rw [HN.out]; omega) hs2 ?_; intro v3 w3 ho3 hb3; obtain ⟨a3, c3, rfl, hc3, -, hFM3, -⟩ := ho3.bvn hFMb _ HFM.out)
  have hk3 := hk2.trans hb3
  have hF3 := hF1.below hk3
  clear ho2 hb2 hk2 hB1 hM1 hB2 hM2 hs2 hb3 ho3
  refine (unframe_any _ _ _ _ _ hFM3 hc3 (by omega)).mono ?_
  rintro e w4 ⟨v4, rfl, ho4, hb4⟩
  rw [HU1.out] at ho4
  rw [HU1.out]
  obtain ⟨a4, c4, rfl, -, -, hX4, -⟩ := ho4.bvn hLb m hLl
  have hk4 : Below w1.heap.size w1 w4 := hk3.trans (hb4.mono hk3.size)
  have hF4 := hF1.below hk4
  clear hk3 hF3 hb4 ho4 hFM3
  have hsl := fun wx => slice_hi a1 N c1 (t % (N : Int)) hr0 (by omega) wx
  have hP4 := hF4.take (t % (N : Int)).toNat (by omega)
  go_wp2_with fail
  refine (unframe_any _ _ _ _ _ hP4 (by omega) (by omega)).mono ?_
  rintro e w5 ⟨v5, rfl, ho5, hb5⟩
  rw [HR.out] at ho5
  rw [HR.out]
  obtain ⟨a5, c5, rfl, -, -, hX5, -⟩ := ho5.bvn (by simp) 0 rfl
  have hk5 : Below w1.heap.size w1 w5 := hk4.trans (hb5.mono hk4.size)
  have hb6 : Below w.heap.size w w5 := hb1'.trans (hk5.mono hs1)
  have hX6 := conv_any (hX4.below hb5) c4
  have hL6 := conv_any (hL.below hb6) ca
  clear hk4 hF4 hb5 ho5 hP4 hk5 hX4 hX5 hF1 hb1' hs1 hA hB hL hM
  go_wp2_with fail
  go_ret
  exact ⟨rfl, hb6⟩
end Go.Proofs.Ytfdkocpplhkccaa
