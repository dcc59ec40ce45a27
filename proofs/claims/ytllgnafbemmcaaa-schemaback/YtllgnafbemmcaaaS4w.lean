/- SchemaBack: the walk. -/
import Derived.Test.YtllgnafbemmcaaaS4u
import Derived.Test.YtllgnafbemmcaaaS4s
namespace Go.Proofs.Ytllgnafbemmcaaa
open Go.ChangeShapes Go.WideShapes Go.ChangeAt Go.RowKit
set_option linter.unusedVariables false

theorem put_long {ts : List Int} {k m g : Int} (h : checkB ts k m g = true) : 5 ≤ (putS ts k m g).length ∧ (putS ts k m g).length ≤ 680 := by
  obtain ⟨q1, q2, q3, q4, q5, q6, q7, q8, q9⟩ := check_is h
  have h1 := joinN_len (schemaN ts k m g)
  have h2 : (schemaN ts k m g).length = ts.length + 4 := by simp [schemaN]
  have up : ∀ l : List Int, U64s l → (joinN l).length ≤ 10 * l.length := by
    intro l
    induction l with
    | nil => intro _; simp [joinN]
    | cons x l ih =>
      intro hl
      have := ih (fun y hy => hl y (List.mem_cons_of_mem _ hy))
      have := pv_len10 (x := x) (by have := hl x (List.mem_cons_self ..); omega)
      rw [joinN, List.length_append, List.length_cons]; omega
  have h3 := up _ (schemaN_u64 h)
  rw [putS]; omega
/-- a part of a schema's bytes is none -/
theorem part_no {ts : List Int} {k m g : Int} (h : checkB ts k m g = true) {j : Nat} (hj : j < (putS ts k m g).length) : NoS ((putS ts k m g).take j) := by
  intro us k' m' g' hc hp
  have := putS_more hc h (r := (putS ts k m g).drop j) (by rw [hp, List.take_append_drop])
  have hl := congrArg List.length this
  rw [List.length_drop] at hl
  simp only [List.length_nil] at hl; omega
/-- and more behind it neither -/
theorem more_no {ts : List Int} {k m g : Int} (h : checkB ts k m g = true) {r : List Int} (hr : r ≠ []) : NoS (putS ts k m g ++ r) := by
  intro us k' m' g' hc hp
  exact hr (putS_more h hc hp.symm)
theorem TakeE.no {w w' : World} {zs : List Int} {e : Ending} (h : TakeE w w' zs e) (hn : NoS zs) : e = .returned (.tuple #[SS none 0 0 0 0 0, .int .i64 10]) ∧ Below w.heap.size w w' := by
  rcases h with ⟨A, N, C, ts, k, m, g, _, hc, hp, _⟩ | ⟨he, _, hb⟩
  · exact absurd hp (hn _ _ _ _ hc)
  · exact ⟨he, hb⟩
theorem TakeE.yes {w w' : World} {ts : List Int} {k m g : Int} {e : Ending} (h : TakeE w w' (putS ts k m g) e) (hc : checkB ts k m g = true) :
    ∃ (A : Option Addr) (N C : Nat), e = .returned (.tuple #[SS A N C k m g, .int .i64 0]) ∧ IV w' A N ts ∧ Below w.heap.size w w' := by
  rcases h with ⟨A, N, C, us, k', m', g', he, hc', hp, ho, hb⟩ | ⟨_, hn, _⟩
  · obtain ⟨rfl, rfl, rfl, rfl⟩ := putS_inj hc' hc hp
    exact ⟨A, N, C, he, ho, hb⟩
  · exact absurd rfl (hn _ _ _ _ hc)
theorem bs2 {a b : List Int} (ha : ∀ z ∈ a, 0 ≤ z ∧ z ≤ 255) (hb : ∀ z ∈ b, 0 ≤ z ∧ z ≤ 255) : ∀ z ∈ [] ++ a ++ b, 0 ≤ z ∧ z ≤ 255 := by
  intro z hz
  rw [List.nil_append] at hz
  exact (List.mem_append.1 hz).elim (ha z) (hb z)
set_option maxRecDepth 20000 in
set_option maxHeartbeats 4000000 in
theorem back_is {l0 l1 l2 l3 l4 l5 l6 l7 n keys mode grain : Int} (h : ShW l0 l1 l2 l3 l4 l5 l6 l7 n keys mode grain) (nn : Int) (hnn : 0 ≤ nn ∧ nn ≤ 65535) (Ra : Option Addr) (na ca : Nat) (zb : List Int) (w : World)
    (ha : BV w Ra na zb) (hna : na ≤ ca) :
    Calls Try.prog 6 #[ShV l0 l1 l2 l3 l4 l5 l6 l7 n keys mode grain, .int .u16 nn, .slice Ra na ca] w fun e w' => e = .returned (.bool true) ∧ Below w.heap.size w w' := by
  have t := Bk.new w (shC l0 l1 l2 l3 l4 l5 l6 l7 n keys mode grain) 43
  go_enter Try.func6, Try.ntmps6
  go_wp2_with fail
  refine (shown4_is _).mono ?_
  rintro e w1 ⟨rfl, hb1⟩
  have t1 := t.below hb1
  have hw1 := after1 hb1
  have ha1 := ha.below hw1
  clear t hb1 ha
  obtain ⟨⟨x0, x1, x2, x3⟩, ⟨x4, x5, x6, x7⟩, ⟨x8, x9, x10, x11⟩⟩ := t1.shape
  go_wp2_with fail
  refine (made_good h _).mono ?_
  rintro e w2 ⟨A, N, C, K, m, g, ts, rfl, hk, hN, ho, hb2⟩
  clear x0 x1 x2 x3 x4 x5 x6 x7 x8 x9 x10 x11 t1
  obtain ⟨A', C', hA, hC1, hC2, hv, -⟩ := ho.sv
  cases hA
  have hkk := Lib.hid (MadeG.keys hk)
  have hlt := Lib.hid (IV.len hv)
  have hx := Sx.new w2 A N C K m g 24
  have ha2 := (ha1.below hb2).alloc (.cells #[.slice A N C, .int .i64 K, .int .i64 m, .int .i64 g] 24)
  have hv2 := hv.alloc (.cells #[.slice A N C, .int .i64 K, .int .i64 m, .int .i64 g] 24)
  have hw2 := (Below.then hw1 hb2).alloc (by have := (Below.then hw1 hb2).size; omega) (.cells #[.slice A N C, .int .i64 K, .int .i64 m, .int .i64 g] 24)
  clear ho hv ha1 hb2 hw1
  obtain ⟨c0, c1, c2, c3⟩ := id hx
  go_wp2_with fail
  clear c0 c1 c2 c3
  generalize w2.alloc (.cells #[.slice A N C, .int .i64 K, .int .i64 m, .int .i64 g] 24) = w3 at *
  generalize w2.heap.size = b6 at *
  refine (put_any A N C ts K m g _ hv2 hk).mono ?_
  rintro e w4 ⟨vb, rfl, ob, hb4⟩
  obtain ⟨hlo, hhi⟩ := put_long hk
  obtain ⟨L, hL⟩ : ∃ L, (putS ts K m g).length = L := ⟨_, rfl⟩
  obtain ⟨ab, cb, rfl, hcb, hcm, bb, -⟩ := ob.bvn (put_bytes hk) L hL
  rw [hL] at hlo hhi
  have HL := Lib.hid hL
  have HK := Lib.hid hk
  clear hL ob hk
  replace hx := hx.below hb4
  replace hv2 := hv2.below hb4
  replace ha2 := ha2.below hb4
  replace hw2 := Below.then hw2 hb4
  clear hb4
  have hN1 : N ≤ maxLen := few_max (by omega)
  have hLi : ¬ (L : Int) < 5 := by omega
  go_wp2_with fail
  refine (take_any ab L cb _ _ bb hcb (by omega)).mono ?_
  rintro e w5 he
  obtain ⟨A5, N5, C5, rfl, hv5, hb5⟩ := TakeE.yes he HK.out
  clear he
  replace hx := hx.below hb5
  replace hv2 := hv2.below hb5
  replace ha2 := ha2.below hb5
  replace bb := bb.below hb5
  replace hw2 := Below.then hw2 hb5
  clear hb5
  replace hx := hx.alloc (.cells #[.slice A5 N5 C5, .int .i64 K, .int .i64 m, .int .i64 g] 24)
  replace hv2 := hv2.alloc (.cells #[.slice A5 N5 C5, .int .i64 K, .int .i64 m, .int .i64 g] 24)
  replace ha2 := ha2.alloc (.cells #[.slice A5 N5 C5, .int .i64 K, .int .i64 m, .int .i64 g] 24)
  replace bb := bb.alloc (.cells #[.slice A5 N5 C5, .int .i64 K, .int .i64 m, .int .i64 g] 24)
  replace hv5 := hv5.alloc (.cells #[.slice A5 N5 C5, .int .i64 K, .int .i64 m, .int .i64 g] 24)
  have hy := Sx.new w5 A5 N5 C5 K m g 24
  have hs5 := hw2.size
  replace hw2 := hw2.alloc hs5 (.cells #[.slice A5 N5 C5, .int .i64 K, .int .i64 m, .int .i64 g] 24)
  obtain ⟨c0, c1, c2, c3⟩ := id hx
  obtain ⟨d0, d1, d2, d3⟩ := id hy
  have hN5 : N5 ≤ maxLen := few_max (by have := IV.len hv5; have := hkk.out; omega)
  go_wp2_with fail
  clear c0 c1 c2 c3 d0 d1 d2 d3 hy
  generalize w5.alloc (.cells #[.slice A5 N5 C5, .int .i64 K, .int .i64 m, .int .i64 g] 24) = w6 at *
  refine (same_any A N C ts K m g A5 N5 C5 ts K m g _ hv2 hv5 hN1 hN5).mono ?_
  rw [show sameS ts K m g ts K m g = true from decide_eq_true ⟨rfl, rfl, rfl, rfl⟩]
  rintro e w7 ⟨rfl, hb7⟩
  replace ha2 := ha2.below hb7
  replace bb := bb.below hb7
  replace hw2 := Below.then hw2 hb7
  clear hb7 hx hv2 hv5
  obtain ⟨jj, hjq, hjL⟩ : ∃ jj : Nat, nn % (L : Int) = (jj : Int) ∧ jj < L := ⟨(nn % (L : Int)).toNat, by rw [Int.toNat_of_nonneg (Int.emod_nonneg _ (by omega))], by have := Int.emod_lt_of_pos nn (show (0 : Int) < (L : Int) by omega); have := Int.emod_nonneg nn (show (L : Int) ≠ 0 by omega); omega⟩
  have hL1 : (1 : Int) ≤ (L : Int) := by omega
  have hjLi : (jj : Int) ≤ (L : Int) := by omega
  have hjc : jj ≤ cb := by omega
  have bp := bb.take jj (by omega)
  have HN := Lib.hid (part_no HK.out (j := jj) (by rw [HL.out]; exact hjL))
  go_wp2_with fail
  try rw [hjq]
  clear hjq
  refine (take_any ab jj cb _ _ bp (by omega) (by omega)).mono ?_
  rintro e w8 he
  obtain ⟨rfl, hb8⟩ := TakeE.no he HN.out
  clear he bp HN
  replace ha2 := ha2.below hb8
  replace bb := bb.below hb8
  replace hw2 := Below.then hw2 hb8
  clear hb8
  replace ha2 := ha2.alloc (.cells nil4 24)
  replace bb := bb.alloc (.cells nil4 24)
  have hs8 := hw2.size
  replace hw2 := hw2.alloc hs8 (.cells nil4 24)
  have hB : w.heap.size ≤ (w8.alloc (.cells nil4 24)).heap.size := hw2.size
  by_cases h100 : na ≤ 100
  · have h100i : ¬ (100 : Int) < (na : Int) := by omega
    have hbz := Lib.hid ha2.2.1
    have hbl := Lib.hid ha2.1
    have hM : na ≤ 100 := h100
    go_wp2_with (first | (refine append_ow rfl (.tmp 50) (.tmp 51) rfl _ _ [] rfl (OW.empty (w8.alloc (.cells nil4 24)) (w8.alloc (.cells nil4 24)).heap.size (Nat.le_refl _) (w8.heap.size + 1) (by simp)) ab L cb _ rfl (bb.alloc _) (by simp; omega) (by simp) ?_; intro v9 w9 ho9 hb9; have hb9w := ((Below.refl (w8.alloc (.cells nil4 24)).heap.size (w8.alloc (.cells nil4 24))).alloc (Nat.le_refl _) _).trans hb9; have ha9 := ha2.below hb9w) | (refine append_ow rfl (.tmp 52) (.tmp 53) rfl _ _ _ rfl ho9 _ na _ zb rfl ha9 (by rw [List.nil_append, HL.out]; omega) (Nat.le_trans (by simp) hb9.size) ?_; intro v10 w10 ho10 hb10; obtain ⟨a10, c10, rfl, hc10, hm10, bb10, -⟩ := ho10.bvn (bs2 (put_bytes HK.out) hbz.out) (L + na) (by rw [List.nil_append, List.length_append, HL.out, hbl.out])))
    rw [List.nil_append] at bb10
    have hw10 := hw2.trans ((hb9w.trans hb10).mono hB)
    clear ho9 ho10 hb9 hb10 hb9w ha9 hw2 hB hs8
    refine (take_any a10 (L + na) c10 _ _ bb10 hc10 (by omega)).mono ?_
    rintro e w11 he
    by_cases h0 : zb = []
    · rw [h0, List.append_nil] at he
      obtain ⟨A11, N11, C11, rfl, -, hb11⟩ := TakeE.yes he HK.out
      have hw11 := Below.then hw10 hb11
      have h1 : na = 0 := by rw [← hbl.out, h0]; rfl
      clear he hb11 hw10 bb10 bb ha2
      first | (exfalso; omega) | (subst h1; go_wp2_with fail; go_ret; exact ⟨rfl, hw11.alloc hw11.size _⟩)
    · obtain ⟨rfl, hb11⟩ := TakeE.no he (more_no HK.out h0)
      have hw11 := Below.then hw10 hb11
      have h1n : 0 < na := Nat.pos_of_ne_zero (fun h => h0 (List.eq_nil_of_length_eq_zero (by rw [hbl.out]; exact h)))
      have h1 : (0 : Int) < (na : Int) := by omega
      clear he hb11 hw10 bb10 bb ha2
      go_wp2_with fail
      go_ret
      exact ⟨rfl, hw11.alloc hw11.size _⟩
  · have h100i : (100 : Int) < (na : Int) := by omega
    have h100c : 100 ≤ ca := by omega
    replace ha2 := ha2.take 100 (by omega)
    have hbz := Lib.hid ha2.2.1
    have hbl := Lib.hid ha2.1
    have hM : 100 ≤ 100 := by omega
    go_wp2_with (first | (refine append_ow rfl (.tmp 50) (.tmp 51) rfl _ _ [] rfl (OW.empty (w8.alloc (.cells nil4 24)) (w8.alloc (.cells nil4 24)).heap.size (Nat.le_refl _) (w8.heap.size + 1) (by simp)) ab L cb _ rfl (bb.alloc _) (by simp; omega) (by simp) ?_; intro v9 w9 ho9 hb9; have hb9w := ((Below.refl (w8.alloc (.cells nil4 24)).heap.size (w8.alloc (.cells nil4 24))).alloc (Nat.le_refl _) _).trans hb9; have ha9 := ha2.below hb9w) | (refine append_ow rfl (.tmp 52) (.tmp 53) rfl _ _ _ rfl ho9 _ 100 _ (zb.take 100) rfl ha9 (by rw [List.nil_append, HL.out]; omega) (Nat.le_trans (by simp) hb9.size) ?_; intro v10 w10 ho10 hb10; obtain ⟨a10, c10, rfl, hc10, hm10, bb10, -⟩ := ho10.bvn (bs2 (put_bytes HK.out) hbz.out) (L + 100) (by rw [List.nil_append, List.length_append, HL.out, hbl.out])))
    rw [List.nil_append] at bb10
    have hw10 := hw2.trans ((hb9w.trans hb10).mono hB)
    clear ho9 ho10 hb9 hb10 hb9w ha9 hw2 hB hs8
    refine (take_any a10 (L + 100) c10 _ _ bb10 hc10 (by omega)).mono ?_
    rintro e w11 he
    by_cases h0 : (zb.take 100) = []
    · rw [h0, List.append_nil] at he
      obtain ⟨A11, N11, C11, rfl, -, hb11⟩ := TakeE.yes he HK.out
      have hw11 := Below.then hw10 hb11
      have h1 : 100 = 0 := by rw [← hbl.out, h0]; rfl
      clear he hb11 hw10 bb10 bb ha2
      first | (exfalso; omega) | (subst h1; go_wp2_with fail; go_ret; exact ⟨rfl, hw11.alloc hw11.size _⟩)
    · obtain ⟨rfl, hb11⟩ := TakeE.no he (more_no HK.out h0)
      have hw11 := Below.then hw10 hb11
      have h1n : 0 < 100 := Nat.pos_of_ne_zero (fun h => h0 (List.eq_nil_of_length_eq_zero (by rw [hbl.out]; exact h)))
      have h1 : (0 : Int) < (100 : Int) := by omega
      clear he hb11 hw10 bb10 bb ha2
      go_wp2_with fail
      go_ret
      exact ⟨rfl, hw11.alloc hw11.size _⟩
end Go.Proofs.Ytllgnafbemmcaaa
