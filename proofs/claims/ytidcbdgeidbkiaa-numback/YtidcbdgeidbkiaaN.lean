/- NumBack: the walk. -/
import Derived.Test.YtidcbdgeidbkiaaK
namespace Go.Proofs.Ytidcbdgeidbkiaa
open Go.ChangeShapes Go.WideShapes Go.ChangeAt Go.RowKit
set_option linter.unusedVariables false

theorem nil_of {w : World} {a : Option Addr} {len cap : Nat} {zs : List Int}
    (h : (a = none ∧ len = 0 ∧ cap = 0 ∧ zs = []) ∨ ∃ x, a = some x ∧ len ≤ cap ∧ cap ≤ maxLen ∧ zs.length = cap ∧ (∀ i, i < zs.length → w.cell? (x.add i) = some (.int .u8 (zs.getD i 0))) ∧ ∀ n ∈ zs, (Lit.int .u8 n).wf = true) : a = none → cap = 0 := by
  rcases h with ⟨rfl, rfl, rfl, rfl⟩ | ⟨x, rfl, _⟩
  · exact fun _ => rfl
  · intro h; cases h

set_option maxHeartbeats 1000000 in
theorem numBack_walk (x : Int) (a : Option Addr) (n cap : Nat) (zs : List Int) (t : Int) (w : World) (hx0 : 0 ≤ x) (hx1 : x ≤ 18446744073709551615) (hv : BV w a n zs) (hcap : n ≤ cap) (hnil : a = none → cap = 0) (ht0 : 0 ≤ t) (ht1 : t ≤ 255) :
    Calls Try.prog 4 #[.int .u64 x, .slice a n cap, .int .u8 t] w fun e w' => e = .returned (.bool true) ∧ Below w.heap.size w w' := by
  have hp1 := pv_pos x
  have hp10 := pv_len10 (x := x) (by omega)
  have hl := hv.1
  obtain ⟨m, L, hm, hLe⟩ : ∃ m L, m = min n 40 ∧ L = zs.take (min n 40) := ⟨_, _, rfl, rfl⟩
  have hL := hv.take (min n 40) (by omega)
  rw [← hLe, ← hm] at hL
  have hLl := hL.1
  have hm40 : m ≤ 40 := by omega
  have HM : Hid (m = min n 40) := hm
  have t1 : ¬ ((pv x).length : Int) < 1 := by omega
  have t2 : ¬ (10 : Int) < ((pv x).length : Int) := by omega
  clear hm hLe hl hLl
  have hfacts : ∀ W, W = ((w.alloc (pvObj 300)).alloc (pvObj x)).alloc (p64Obj x) → Below w.heap.size w W ∧ BV W (some ⟨w.heap.size + 1, 0, none⟩) (pv x).length (pv x) ∧ BV W (some ⟨w.heap.size + 1 + 1, 0, none⟩) 8 (w8 x) := by
    rintro W rfl
    refine ⟨(((Below.refl _ _).alloc (Nat.le_refl _) _).alloc (by rw [heap_alloc]; omega) _).alloc (by rw [heap_alloc, heap_alloc]; omega) _, ?_, ?_⟩
    · have := (BV.pv (w.alloc (pvObj 300)) hx0).alloc (p64Obj x)
      rw [heap_alloc] at this; exact this
    · have := BV.w8 x ((w.alloc (pvObj 300)).alloc (pvObj x))
      rw [heap_alloc, heap_alloc] at this; exact this
  have HF : Hid _ := hfacts
  have hlenL := hL.1
  obtain ⟨N2, hN2⟩ : ∃ N, (pv x ++ L).length = N := ⟨_, rfl⟩
  obtain ⟨N3, hN3⟩ : ∃ N, (w8 x ++ L).length = N := ⟨_, rfl⟩
  have hN38 : 8 ≤ N3 := by rw [← hN3, List.length_append, w8_len]; omega
  have HN2 : Hid (_ = _) := hN2
  have HN3 : Hid (_ = _) := hN3
  have hbp : ∀ z ∈ pv x ++ L, 0 ≤ z ∧ z ≤ 255 := by
    intro z hz; rcases List.mem_append.1 hz with h | h
    · exact pv_bytes hx0 z h
    · exact hL.2.1 z h
  have hbq : ∀ z ∈ w8 x ++ L, 0 ≤ z ∧ z ≤ 255 := by
    intro z hz; rcases List.mem_append.1 hz with h | h
    · exact w8_bytes x z h
    · exact hL.2.1 z h
  have HBP : Hid _ := hbp
  have HBQ : Hid _ := hbq
  clear hfacts hN2 hN3 hbp hbq
  go_enter Try.func4, Try.ntmps4
  go_wp2_with (first | (go_at_call 9; refine (shown_any _).mono ?_; rintro e w' ⟨rfl, rfl⟩) | (go_at_call 15; refine (putvar_any x _ hx0 hx1).mono ?_; rintro e w' ⟨rfl, rfl⟩) | (go_at_call 17; refine (put64_any x _ hx0 hx1).mono ?_; rintro e W ⟨rfl, hW⟩; obtain ⟨hb3, hBp, hBq⟩ := HF.out _ hW; clear hW) | (at_builtin; refine append_bv rfl (.tmp 37) (.tmp 38) rfl W.heap.size _ [] rfl (OB.empty W _ (Nat.le_refl _) _ rfl) _ _ _ (pv x) rfl (hBp.alloc _) (by intro h; cases h) (by simp only [List.length_nil]; omega) (by rw [heap_alloc]; omega) ?_; intro v1 w4 ho1 hb4))
  have ho1' : OB w4 W.heap.size v1 (pv x) := by simpa using ho1
  have hb4' : Below W.heap.size W w4 := ((Below.refl _ _).alloc (Nat.le_refl _) _).trans hb4
  clear ho1 hb4
  refine (short_is ((hv.below hb3).below hb4') hcap HM.out).mono ?_
  rintro e w4 ⟨rfl, rfl⟩
  go_wp2_with (at_builtin; refine append_bv rfl (.tmp 39) (.tmp 41) rfl W.heap.size _ (pv x) rfl ho1' _ _ _ L rfl ((hL.below hb3).below hb4') hnil (by omega) hb4'.size ?_; intro v2 w5 ho2 hb5; obtain ⟨a2, c2, rfl, hc2, hB2, hlo2⟩ := ho2.bvn HBP.out N2 HN2.out)
  have hb5' : Below W.heap.size W w5 := hb4'.trans hb5
  have hr := varR_put x L hx0 hx1
  have hr1 : (varR (pv x ++ L)).1 = x := by rw [hr]
  have hr2 : (varR (pv x ++ L)).2 = ((pv x).length : Int) := by rw [hr]
  clear ho1' hb4' hb5 ho2 hr
  refine (var_any _ _ _ _ _ hB2).mono ?_
  rintro e w5 ⟨rfl, rfl⟩
  clear hB2
  have hz5 : OB (w5.alloc (.cells #[] 5)) w5.heap.size (.slice (some ⟨w5.heap.size, 0, none⟩) 0 0) [] := OB.empty w5 _ (Nat.le_refl _) _ rfl
  go_wp2_with (at_builtin; refine append_bv rfl (.tmp 47) (.tmp 48) rfl w5.heap.size _ [] rfl hz5 _ _ _ (w8 x) rfl ((hBq.below hb5').alloc _) (by intro h; cases h) (by rw [w8_len]; simp only [List.length_nil]; omega) (by rw [heap_alloc]; omega) ?_; intro v3 w6 ho3 hb6)
  have ho3' : OB w6 w5.heap.size v3 (w8 x) := by simpa using ho3
  have hb6' : Below w5.heap.size w5 w6 := ((Below.refl _ _).alloc (Nat.le_refl _) _).trans hb6
  clear ho3 hb6 hz5
  have hbw : Below w.heap.size w w6 := hb3.trans ((hb5'.mono hb3.size).trans (hb6'.mono (Nat.le_trans hb3.size hb5'.size)))
  refine (short_is (hv.below hbw) hcap HM.out).mono ?_
  rintro e w6 ⟨rfl, rfl⟩
  go_wp2_with (at_builtin; refine append_bv rfl (.tmp 49) (.tmp 51) rfl w5.heap.size _ (w8 x) rfl ho3' _ _ _ L rfl (hL.below hbw) hnil (by rw [w8_len]; omega) hb6'.size ?_; intro v4 w7 ho4 hb7; obtain ⟨a4, c4, rfl, hc4, hB4, hlo4⟩ := ho4.bvn HBQ.out N3 HN3.out)
  have hb7' : Below w5.heap.size w5 w7 := hb6'.trans hb7
  refine (get64_many _ _ _ _ _ hB4 hN38).mono ?_
  rintro e w8' ⟨rfl, hb8⟩
  have hb8' : Below w5.heap.size w5 w8' := hb7'.trans (hb8.mono hb7'.size)
  rw [acc8_put x L hx0 hx1]
  have hBp8 := (hBp.below hb5').below hb8'
  have hBq8 := (hBq.below hb5').below hb8'
  have hbw8 : Below w.heap.size w w8' := hb3.trans ((hb5'.mono hb3.size).trans (hb8'.mono (Nat.le_trans hb3.size hb5'.size)))
  clear ho3' hb6' hbw ho4 hb7 hB4 hb7' hb8 hb8' hBp hBq hb5' hv hL HF HBP HBQ hb3 hlo2 hlo4
  have hr0 : 0 ≤ t % ((pv x).length : Int) := Int.emod_nonneg _ (by omega)
  have hr1' : t % ((pv x).length : Int) < ((pv x).length : Int) := Int.emod_lt_of_pos _ (by omega)
  have hr10 : t % ((pv x).length : Int) ≤ 10 := by omega
  have hq0 : 0 ≤ t % 8 := by omega
  have hq1 : t % 8 ≤ 8 := by omega
  go_wp2_with fail
  have hpart := varR_part x (t % ((pv x).length : Int)).toNat hx0 hx1 (by omega)
  have hBr := hBp8.take (t % ((pv x).length : Int)).toNat (by omega)
  have hBs := hBq8.take (t % 8).toNat (by omega)
  refine (var_any _ _ _ _ _ hBr).mono ?_
  rintro e w8' ⟨rfl, rfl⟩
  rw [hpart]
  go_wp2_with fail
  refine (get64_few _ _ _ _ _ hBs (by omega)).mono ?_
  rintro e w9 ⟨rfl, hb9⟩
  have hbw9 : Below w.heap.size w w9 := hbw8.trans (hb9.mono hbw8.size)
  clear hBr hBs hpart hb9 hBp8 hBq8
  go_wp2
  go_ret
  exact ⟨rfl, hbw9⟩
end Go.Proofs.Ytidcbdgeidbkiaa
