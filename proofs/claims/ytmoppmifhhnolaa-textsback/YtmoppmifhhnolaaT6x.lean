/- TextsBack: the walk. -/
import Derived.Test.YtmoppmifhhnolaaT6v
import Derived.Test.YtmoppmifhhnolaaT6d
import Derived.Test.YtmoppmifhhnolaaT6w
namespace Go.Proofs.Ytmoppmifhhnolaa
open Go.ChangeShapes Go.WideShapes Go.ChangeAt Go.RowKit
set_option linter.unusedVariables false

theorem putT_len {l : List ByteArray} {N : Nat} (hl : l.length = N) (hN : N ≤ 60) : 2 ≤ (putT l).length ∧ (putT l).length ≤ (eachL l).length + 2 := by
  have := bodyT_len l
  rw [putT, hl, pv_small (by omega), List.length_append, List.length_singleton]
  omega
set_option maxHeartbeats 4000000 in
theorem back6_is (A0 : Option Addr) (n0 C0 : Nat) (l0 : List ByteArray) (nn : Int) (hnn : 0 ≤ nn ∧ nn ≤ 65535) (x : Int) (hx : 0 ≤ x ∧ x ≤ 255) (w : World) (hv0 : TV w A0 n0 l0) :
    Calls Try.prog 4 #[.slice A0 n0 C0, .int .u16 nn, .int .u8 x] w fun e w' => e = .returned (.bool true) ∧ Below w.heap.size w w' := by
  go_enter Try.func4, Try.ntmps4
  go_wp2_with fail
  refine (shown6_is _).mono ?_
  rintro e w0 ⟨rfl, hb1⟩
  have hv1 := hv0.below hb1
  go_wp2_with fail
  refine (few6_any A0 n0 C0 l0 _ hv1).mono ?_
  rintro e w1 ⟨A, N, C, l, rfl, hNC, hN, hv, hf, -, hb2⟩
  replace hb1 := Below.then hb1 hb2
  clear hv0 hv1 hb2
  have hlen := TV.len hv
  have HL := Lib.hid hlen
  have hpl := putT_len hlen hN
  have hok : OkT l := ⟨by omega, hf⟩
  have hpb := putT_bytes (l := l) (by omega)
  have HPB := Lib.hid hpb
  have hel := eachL_len210 hf.sm
  rw [hlen] at hel
  obtain ⟨L, hL⟩ : ∃ L, (putT l).length = L := ⟨_, rfl⟩
  obtain ⟨E, hE⟩ : ∃ E, (eachL l).length = E := ⟨_, rfl⟩
  rw [hL, hE] at hpl
  rw [hE] at hel
  have HPL := Lib.hid hL
  have HEL := Lib.hid hE
  clear hlen hL hE hpb
  have o0 : OS 1 (w1.alloc (.cells #[] 9)) w1.heap.size (.slice (some ⟨w1.heap.size, 0, none⟩) 0 0) 0 [] := OS.lit (k := 1) w1 w1.heap.size (Nat.le_refl _) [] 0 9 rfl (by simp) (by simp) _ rfl
  have hw1 : Below w1.heap.size w1 (w1.alloc (.cells #[] 9)) := Joins.below_alloc1 _ _
  go_wp2_with (at_builtin; refine append_os2 el_texts rfl (.tmp 21) (.tmp 22) rfl w1.heap.size _ 0 [] rfl o0 A N C (tcells l) rfl (hv.alloc _) (by omega) (by omega) (by simp) ?_; intro v2 w2 ho2 hb2 _ _; have hw2 := hw1.trans hb2; rw [Nat.zero_add, List.nil_append] at ho2; obtain ⟨Ao, Co, rfl, hCo, -, vo, -, -⟩ := ho2.sv)
  replace hv := hv.below hw2
  replace hb1 := Below.then hb1 hw2
  clear o0 hw1 ho2 hb2 hw2
  refine (putT_any A N C l _ hv hf.sm (by omega)).mono ?_
  rintro e w3 ⟨vb, rfl, ob, hb3⟩
  obtain ⟨ab, cb, rfl, hcb, -, bb, -⟩ := ob.bvn HPB.out L HPL.out
  replace hv := hv.below hb3
  replace vo := vo.below hb3
  replace hb1 := Below.then hb1 hb3
  clear ob hb3
  have i1 : ¬ (L : Int) < 2 := by omega
  go_wp2_with fail
  refine (each_any A N C l _ hv hf.sm (by omega)).mono ?_
  rintro e w3' ⟨ve, rfl, oe, hb3⟩
  obtain ⟨ae, ce, rfl, -, -, -, -⟩ := oe.bvn (eachL_bytes l) E HEL.out
  replace hv := hv.below hb3
  replace vo := vo.below hb3
  replace bb := bb.below hb3
  replace hb1 := Below.then hb1 hb3
  clear oe hb3
  have i2 : ¬ (E : Int) + 2 < (L : Int) := by omega
  go_wp2_with fail
  refine (takeT_any ab L cb _ _ bb hcb).mono ?_
  rintro e w4 he
  obtain ⟨A4, N4, C4, rfl, hN4, hv4, hb4⟩ := TakeT.yes he hok
  replace hv := hv.below hb4
  replace vo := vo.below hb4
  replace bb := bb.below hb4
  replace hb1 := Below.then hb1 hb4
  clear he hb4
  go_wp2_with fail
  refine (same6_any A4 N4 C4 l Ao N Co l _ hv4 vo (by omega) (by omega)).mono ?_
  rw [decide_eq_true rfl]
  rintro e w5 ⟨rfl, hb5⟩
  replace hv := hv.below hb5
  replace vo := vo.below hb5
  replace bb := bb.below hb5
  replace hb1 := Below.then hb1 hb5
  clear hb5 hv4
  go_wp2_with fail
  refine (same6_any A N C l Ao N Co l _ hv vo (by omega) (by omega)).mono ?_
  rw [decide_eq_true rfl]
  rintro e w6 ⟨rfl, hb6⟩
  replace bb := bb.below hb6
  replace hb1 := Below.then hb1 hb6
  clear hb6 hv vo
  obtain ⟨jj, hjq, hjL⟩ : ∃ jj : Nat, nn % (L : Int) = (jj : Int) ∧ jj < L := ⟨(nn % (L : Int)).toNat, by rw [Int.toNat_of_nonneg (Int.emod_nonneg _ (by omega))], by have := Int.emod_lt_of_pos nn (show (0 : Int) < (L : Int) by omega); have := Int.emod_nonneg nn (show (L : Int) ≠ 0 by omega); omega⟩
  have hL1 : (1 : Int) ≤ (L : Int) := by omega
  have hjLi : (jj : Int) ≤ (L : Int) := by omega
  have hjc : jj ≤ cb := by omega
  have bp := bb.take jj (by omega)
  have HN := Lib.hid (partT_no hok (j := jj) (by rw [HPL.out]; exact hjL))
  go_wp2_with fail
  try rw [hjq]
  clear hjq
  refine (takeT_any ab jj cb _ _ bp (by omega)).mono ?_
  rintro e w7 he
  obtain ⟨rfl, hb7⟩ := TakeT.no he HN.out
  replace bb := bb.below hb7
  replace hb1 := Below.then hb1 hb7
  clear he hb7 bp HN
  have HM := Lib.hid (moreT_no hok (r := [x]) (by simp))
  have hw7 : Below w7.heap.size w7 (w7.alloc (.cells #[] 5)) := Joins.below_alloc1 _ _
  have bb7 := bb.alloc (.cells #[] 5)
  go_wp2_with (at_builtin; first | (refine append_ow rfl (.tmp 61) (.tmp 62) rfl w7.heap.size _ [] rfl (OW.empty w7 w7.heap.size (Nat.le_refl _) _ rfl) ab L cb _ rfl bb7 (by simp; omega) (by simp) ?_; intro v8 w8 ho8 hb8; have hw8 := hw7.trans hb8; have hs8 := hw8.size) | (refine append_ow rfl (.tmp 63) (.tmp 65) rfl w7.heap.size _ _ rfl (ho8.alloc _) _ 1 1 _ rfl (BV.one1 _ x hx.1 hx.2) (by rw [List.nil_append, HPL.out]; omega) (by simp; omega) ?_; intro v9 w9 ho9 hb9; have hw9 := (hw8.alloc hs8 _).trans hb9))
  rw [List.nil_append] at ho9
  have hby : ∀ z ∈ putT l ++ [x], 0 ≤ z ∧ z ≤ 255 := fun z hz => (List.mem_append.1 hz).elim (HPB.out z) (fun h => by rw [List.mem_singleton.1 h]; exact hx)
  obtain ⟨a9, c9, rfl, hc9, -, bb9, -⟩ := ho9.bvn hby (L + 1) (by rw [List.length_append, HPL.out]; rfl)
  replace hb1 := Below.then hb1 hw9
  clear ho8 hb8 hw8 hs8 ho9 hb9 hw9 hw7 bb7 bb
  refine (takeT_any a9 (L + 1) c9 _ _ bb9 hc9).mono ?_
  rintro e w10 he
  obtain ⟨rfl, hb10⟩ := TakeT.no he HM.out
  replace hb1 := Below.then hb1 hb10
  clear he hb10 bb9
  go_wp2_with fail
  go_ret
  exact ⟨rfl, hb1⟩
end Go.Proofs.Ytmoppmifhhnolaa
