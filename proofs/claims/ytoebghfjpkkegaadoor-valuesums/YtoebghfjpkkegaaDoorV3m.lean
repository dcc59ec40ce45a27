/- ValueSums: the walk. -/
import Derived.Test.YtoebghfjpkkegaaDoorV3f
import Derived.Deep.DeepCutAuto
namespace Go.Proofs.YtoebghfjpkkegaaDoor
open Go.ChangeShapes Go.WideShapes Go.ChangeAt Go.RowKit
set_option linter.unusedVariables false

set_option maxHeartbeats 4000000 in
theorem valueSums_walk (t n0 n1 n2 : Int) (s0 s1 s2 : ByteArray) (w : World) (h0 : 0 ≤ t) (h1 : t ≤ 255) (r0 : -9223372036854775808 ≤ n0 ∧ n0 ≤ 9223372036854775807) (r1 : -9223372036854775808 ≤ n1 ∧ n1 ≤ 9223372036854775807) (r2 : -9223372036854775808 ≤ n2 ∧ n2 ≤ 9223372036854775807) (htab : Tab w) :
    Calls Tryd.prog 6 #[.int .u8 t, .agg #[.int .i64 n0, .string s0, .int .i64 n1, .string s1, .int .i64 n2, .string s2]] w fun e w' => e = .returned (.bool true) ∧ Below w.heap.size w w' := by
  go_enter Tryd.func6, Tryd.ntmps6
  go_wp2_with fail
  refine (shown3_is _ (htab.alloc _)).mono ?_
  rintro e w1 ⟨rfl, hb1⟩
  have c0 := ar_cell hb1 0 (v := .int .i64 n0) rfl
  have c1 := ar_cell hb1 1 (v := .string s0) rfl
  have c2 := ar_cell hb1 2 (v := .int .i64 n1) rfl
  have c3 := ar_cell hb1 3 (v := .string s1) rfl
  have c4 := ar_cell hb1 4 (v := .int .i64 n2) rfl
  have c5 := ar_cell hb1 5 (v := .string s2) rfl
  have hw1 := after1 hb1
  clear hb1 htab
  go_wp2_with fail
  refine (kind_any t _ h0 h1).mono ?_
  rintro e w1 ⟨rfl, rfl⟩
  have hk := kind_of t h0
  generalize 1 + t % 3 = k at *
  go_wp2_with fail
  refine (fit_any k n0 s0 _).mono ?_
  rintro e w2 ⟨rfl, hb2⟩
  have hf0 := Lib.hid (fit_fits (n := n0) (s := s0) hk)
  have q0 := fitN_range (k := k) r0
  generalize fitN k n0 = an at *
  generalize fitS k s0 = sa at *
  have d2 := keepc c2 hb2
  have d3 := keepc c3 hb2
  have d4 := keepc c4 hb2
  have d5 := keepc c5 hb2
  have hw2 := Below.then hw1 hb2
  clear c0 c1 c2 c3 c4 c5 hw1 hb2
  have e2 := keepo d2
  have e3 := keepo d3
  go_wp2_with fail
  refine (fit_any k n1 s1 _).mono ?_
  rintro e w3 ⟨rfl, hb3⟩
  have hf1 := Lib.hid (fit_fits (n := n1) (s := s1) hk)
  have q1 := fitN_range (k := k) r1
  generalize fitN k n1 = bn at *
  generalize fitS k s1 = sb at *
  have xa := (Bx.new w2 an sa 23).below hb3
  have c4 := keepc (cell_alloc w2 _ d4) hb3
  have c5 := keepc (cell_alloc w2 _ d5) hb3
  have hw3 := Below.then hw2 (after1 hb3)
  clear d2 d3 d4 d5 e2 e3 hw2 hb3
  have e4 := keepo c4
  have e5 := keepo c5
  go_wp2_with fail
  refine (fit_any k n2 s2 _).mono ?_
  rintro e w4 ⟨rfl, hb4⟩
  have hf2 := Lib.hid (fit_fits (n := n2) (s := s2) hk)
  have q2 := fitN_range (k := k) r2
  generalize fitN k n2 = cn at *
  generalize fitS k s2 = sc at *
  have xb := (Bx.new w3 bn sb 23).below hb4
  have xa := (xa.alloc (.cells #[.int .i64 bn, .string sb] 23)).below hb4
  have hw4 := Below.then hw3 (after1 hb4)
  clear c4 c5 e4 e5 hw3 hb4
  have tr : Tri w (w4.alloc (.cells #[.int .i64 cn, .string sc] 23)) w2.heap.size an sa w3.heap.size bn sb w4.heap.size cn sc := ⟨xa.alloc _, xb.alloc _, Bx.new _ _ _ _, Below.then hw4 (Joins.below_alloc1 _ _)⟩
  clear xa xb hw4
  have H1 := Lib.hid (add_assoc hk hf0.out hf1.out hf2.out)
  go_wp2_with fail
  generalize w2.heap.size = ba at *
  generalize w3.heap.size = bb at *
  generalize w4.alloc (.cells #[.int .i64 cn, .string sc] 23) = W at *
  generalize w4.heap.size = bc at *
  clear xa
  go_cut [10] (fun p wx => ∃ g, p = .pointer (some ⟨g, 0, none⟩) ∧ Bx wx g (addN k (addN k an sa bn sb) (addS k an sa bn sb) cn sc) (addS k (addN k an sa bn sb) (addS k an sa bn sb) cn sc) ∧ Tri w wx ba an sa bb bn sb bc cn sc)
  case first =>
    refine wp_region_noPanic ?_
    refine wp_region_held_drew (S := fun W => Tri w W ba an sa bb bn sb bc cn sc) (by kernel_rfl) (tr.drew) (fun hS => ?_)
    refine take_at (i := 0) (v := ?_) (some 27) rfl (by kernel_rfl) (by kernel_rfl) (by kernel_rfl) rfl (fun _ _ _ h => h) (Or.inl ⟨by rfl, ?_⟩) hS ?_
    rotate_left
    · (intro wq hq; go_simp); first | done | with_reducible rfl
    try simp only [Act.put, List.setIfInBounds_toArray, List.set_cons_zero, List.set_cons_succ]
    refine take_at (i := 1) (v := ?_) (some 28) rfl (by kernel_rfl) (by kernel_rfl) (by kernel_rfl) rfl (fun _ _ _ h => h) (Or.inl ⟨by rfl, ?_⟩) hS ?_
    rotate_left
    · (intro wq hq; go_simp); first | done | with_reducible rfl
    try simp only [Act.put, List.setIfInBounds_toArray, List.set_cons_zero, List.set_cons_succ]
    refine take_at (i := 2) (v := ?_) (some 29) rfl (by kernel_rfl) (by kernel_rfl) (by kernel_rfl) rfl (fun _ _ _ h => h) (Or.inl ⟨by rfl, ?_⟩) hS ?_
    rotate_left
    · (intro wq hq; obtain ⟨p0, p1⟩ := hq.1; go_simp); first | done | with_reducible rfl
    try simp only [Act.put, List.setIfInBounds_toArray, List.set_cons_zero, List.set_cons_succ]
    refine take_at (i := 3) (v := ?_) (some 30) rfl (by kernel_rfl) (by kernel_rfl) (by kernel_rfl) rfl (fun _ _ _ h => h) (Or.inl ⟨by rfl, ?_⟩) hS ?_
    rotate_left
    · (intro wq hq; obtain ⟨p0, p1⟩ := hq.2.1; go_simp); first | done | with_reducible rfl
    try simp only [Act.put, List.setIfInBounds_toArray, List.set_cons_zero, List.set_cons_succ]
    refine take_at (i := 5) (v := ?_) (some 32) rfl (by kernel_rfl) (by kernel_rfl) (by kernel_rfl) rfl (fun _ _ _ h => h) (Or.inl ⟨by rfl, ?_⟩) hS ?_
    rotate_left
    · (intro wq hq; obtain ⟨p0, p1⟩ := hq.2.2.1; go_simp); first | done | with_reducible rfl
    try simp only [Act.put, List.setIfInBounds_toArray, List.set_cons_zero, List.set_cons_succ]
    refine wpAnyH_ready (rs := [4, 7]) (by kernel_rfl) (by simp) ?_
    refine (AllReadyH.cons rfl (fun K hK => ?_) (AllReadyH.cons rfl (fun K hK => ?_) AllReadyH.nil))
    · skip
      go_simp
      refine (add_any k an bn sa sb _).mono ?_
      rintro e w5 ⟨rfl, hb5⟩
      have tr5 := tr.drew.below hb5
      refine hK.out _ _ (tr5) (fun hS0 => ?_)
      clear hK K
      try simp only [Act.put, List.setIfInBounds_toArray, List.set_cons_zero, List.set_cons_succ]
      clear hS
      have hS := hS0
      clear hS0
      refine wpAnyH_ready (rs := [6, 7]) (by kernel_rfl) (by simp) ?_
      refine (AllReadyH.cons rfl (fun K hK => ?_) (AllReadyH.cons rfl (fun K hK => ?_) AllReadyH.nil))
      · skip
        go_simp
        refine (add_any k _ cn _ sc _).mono ?_
        rintro e w6 ⟨rfl, hb6⟩
        have tr6 := tr5.below hb6
        refine hK.out _ _ (tr6) (fun hS0 => ?_)
        clear hK K
        try simp only [Act.put, List.setIfInBounds_toArray, List.set_cons_zero, List.set_cons_succ]
        clear hS
        have hS := hS0
        clear hS0
        refine wpAnyH_ready (rs := [7]) (by kernel_rfl) (by simp) ?_
        refine AllReadyH.cons rfl (fun K hK => ?_) AllReadyH.nil
        go_simp
        have tr7 := tr6.alloc (.cells #[.int .i64 0, .string ⟨#[]⟩] 23)
        refine hK.out _ _ (tr7) (fun hS0 => ?_)
        clear hK K
        try simp only [Act.put, List.setIfInBounds_toArray, List.set_cons_zero, List.set_cons_succ]
        clear hS
        have hS := hS0
        clear hS0
        refine wpAnyH_ready (rs := [8]) (by kernel_rfl) (by simp) ?_
        refine AllReadyH.cons rfl (fun K hK => ?_) AllReadyH.nil
        go_simp
        refine hK.out _ _ (tr6.alloc _) (fun hS0 => ?_)
        clear hK K
        try simp only [Act.put, List.setIfInBounds_toArray, List.set_cons_zero, List.set_cons_succ]
        clear hS
        have hS := hS0
        clear hS0
        refine wpAnyH_done (by kernel_rfl) (NoPanic.normal ?_) _
        go_wp2_with fail
        go_meet
        exact ⟨_, rfl, Bx.new _ _ _ _, tr6.alloc _⟩
      · skip
        go_simp
        have fr := Fr.new tr5.2.2.2
        have ne := tr5.ne
        have tr6 := tr5.alloc (.cells #[.int .i64 0, .string ⟨#[]⟩] 23)
        refine hK.out _ _ (tr6) (fun hS0 => ?_)
        clear hK K
        try simp only [Act.put, List.setIfInBounds_toArray, List.set_cons_zero, List.set_cons_succ]
        clear hS
        have hS := hS0
        clear hS0
        refine wpAnyH_ready (rs := [6]) (by kernel_rfl) (by simp) ?_
        refine AllReadyH.cons rfl (fun K hK => ?_) AllReadyH.nil
        go_simp
        refine (add_any k _ cn _ sc _).mono ?_
        rintro e w6 ⟨rfl, hb6⟩
        have tr7 := tr6.below hb6
        have fr7 := fr.below hb6
        refine hK.out _ _ (tr7) (fun hS0 => ?_)
        clear hK K
        try simp only [Act.put, List.setIfInBounds_toArray, List.set_cons_zero, List.set_cons_succ]
        clear hS
        have hS := hS0
        clear hS0
        obtain ⟨⟨z0, z1⟩, f0, f1, -⟩ := id fr7
        refine wpAnyH_ready (rs := [8]) (by kernel_rfl) (by simp) ?_
        refine AllReadyH.cons rfl (fun K hK => ?_) AllReadyH.nil
        go_simp
        refine hK.out _ _ (tr7.put fr7 ne.1 ne.2.1 ne.2.2 _ _) (fun hS0 => ?_)
        clear hK K
        try simp only [Act.put, List.setIfInBounds_toArray, List.set_cons_zero, List.set_cons_succ]
        clear hS
        have hS := hS0
        clear hS0
        refine wpAnyH_done (by kernel_rfl) (NoPanic.normal ?_) _
        go_wp2_with fail
        go_meet
        exact ⟨_, rfl, fr7.1.put _ _, tr7.put fr7 ne.1 ne.2.1 ne.2.2 _ _⟩
    · skip
      go_simp
      have fr : Fr w (W.drew.alloc (.cells #[.int .i64 0, .string ⟨#[]⟩] 23)) W.heap.size := Fr.new tr.drew.2.2.2
      have ne := tr.ne
      have tr5 := tr.drew.alloc (.cells #[.int .i64 0, .string ⟨#[]⟩] 23)
      refine hK.out _ _ (tr5) (fun hS0 => ?_)
      clear hK K
      try simp only [Act.put, List.setIfInBounds_toArray, List.set_cons_zero, List.set_cons_succ]
      clear hS
      have hS := hS0
      clear hS0
      refine wpAnyH_ready (rs := [4]) (by kernel_rfl) (by simp) ?_
      refine AllReadyH.cons rfl (fun K hK => ?_) AllReadyH.nil
      go_simp
      refine (add_any k an bn sa sb _).mono ?_
      rintro e w5 ⟨rfl, hb5⟩
      have tr6 := tr5.below hb5
      have fr6 := fr.below hb5
      refine hK.out _ _ (tr6) (fun hS0 => ?_)
      clear hK K
      try simp only [Act.put, List.setIfInBounds_toArray, List.set_cons_zero, List.set_cons_succ]
      clear hS
      have hS := hS0
      clear hS0
      refine wpAnyH_ready (rs := [6]) (by kernel_rfl) (by simp) ?_
      refine AllReadyH.cons rfl (fun K hK => ?_) AllReadyH.nil
      go_simp
      refine (add_any k _ cn _ sc _).mono ?_
      rintro e w6 ⟨rfl, hb6⟩
      have tr7 := tr6.below hb6
      have fr7 := fr6.below hb6
      refine hK.out _ _ (tr7) (fun hS0 => ?_)
      clear hK K
      try simp only [Act.put, List.setIfInBounds_toArray, List.set_cons_zero, List.set_cons_succ]
      clear hS
      have hS := hS0
      clear hS0
      obtain ⟨⟨z0, z1⟩, f0, f1, -⟩ := id fr7
      refine wpAnyH_ready (rs := [8]) (by kernel_rfl) (by simp) ?_
      refine AllReadyH.cons rfl (fun K hK => ?_) AllReadyH.nil
      go_simp
      refine hK.out _ _ (tr7.put fr7 ne.1 ne.2.1 ne.2.2 _ _) (fun hS0 => ?_)
      clear hK K
      try simp only [Act.put, List.setIfInBounds_toArray, List.set_cons_zero, List.set_cons_succ]
      clear hS
      have hS := hS0
      clear hS0
      refine wpAnyH_done (by kernel_rfl) (NoPanic.normal ?_) _
      go_wp2_with fail
      go_meet
      exact ⟨_, rfl, fr7.1.put _ _, tr7.put fr7 ne.1 ne.2.1 ne.2.2 _ _⟩
  case rest =>
    obtain ⟨g1, rfl, x1, tr⟩ := hcut
    rw [H1.out.1, H1.out.2] at x1
    have tr : Qua w wc ba an sa bb bn sb bc cn sc g1 (addN k an sa (addN k bn sb cn sc) (addS k bn sb cn sc)) (addS k an sa (addN k bn sb cn sc) (addS k bn sb cn sc)) := ⟨tr, x1⟩
    clear x1
    go_wp2_with fail
    go_cut [11] (fun p wx => ∃ g, p = .pointer (some ⟨g, 0, none⟩) ∧ Bx wx g (addN k an sa (addN k bn sb cn sc) (addS k bn sb cn sc)) (addS k an sa (addN k bn sb cn sc) (addS k bn sb cn sc)) ∧ Qua w wx ba an sa bb bn sb bc cn sc g1 (addN k an sa (addN k bn sb cn sc) (addS k bn sb cn sc)) (addS k an sa (addN k bn sb cn sc) (addS k bn sb cn sc)))
    case first =>
      refine wp_region_noPanic ?_
      refine wp_region_held_drew (S := fun W => Qua w W ba an sa bb bn sb bc cn sc g1 (addN k an sa (addN k bn sb cn sc) (addS k bn sb cn sc)) (addS k an sa (addN k bn sb cn sc) (addS k bn sb cn sc))) (by kernel_rfl) (tr.drew) (fun hS => ?_)
      refine take_at (i := 0) (v := ?_) (some 34) rfl (by kernel_rfl) (by kernel_rfl) (by kernel_rfl) rfl (fun _ _ _ h => h) (Or.inl ⟨by rfl, ?_⟩) hS ?_
      rotate_left
      · (intro wq hq; go_simp); first | done | with_reducible rfl
      try simp only [Act.put, List.setIfInBounds_toArray, List.set_cons_zero, List.set_cons_succ]
      refine take_at (i := 1) (v := ?_) (some 35) rfl (by kernel_rfl) (by kernel_rfl) (by kernel_rfl) rfl (fun _ _ _ h => h) (Or.inl ⟨by rfl, ?_⟩) hS ?_
      rotate_left
      · (intro wq hq; obtain ⟨p0, p1⟩ := hq.1.1; go_simp); first | done | with_reducible rfl
      try simp only [Act.put, List.setIfInBounds_toArray, List.set_cons_zero, List.set_cons_succ]
      refine take_at (i := 2) (v := ?_) (some 36) rfl (by kernel_rfl) (by kernel_rfl) (by kernel_rfl) rfl (fun _ _ _ h => h) (Or.inl ⟨by rfl, ?_⟩) hS ?_
      rotate_left
      · (intro wq hq; go_simp); first | done | with_reducible rfl
      try simp only [Act.put, List.setIfInBounds_toArray, List.set_cons_zero, List.set_cons_succ]
      refine take_at (i := 3) (v := ?_) (some 37) rfl (by kernel_rfl) (by kernel_rfl) (by kernel_rfl) rfl (fun _ _ _ h => h) (Or.inl ⟨by rfl, ?_⟩) hS ?_
      rotate_left
      · (intro wq hq; obtain ⟨p0, p1⟩ := hq.1.2.1; go_simp); first | done | with_reducible rfl
      try simp only [Act.put, List.setIfInBounds_toArray, List.set_cons_zero, List.set_cons_succ]
      refine take_at (i := 4) (v := ?_) (some 38) rfl (by kernel_rfl) (by kernel_rfl) (by kernel_rfl) rfl (fun _ _ _ h => h) (Or.inl ⟨by rfl, ?_⟩) hS ?_
      rotate_left
      · (intro wq hq; obtain ⟨p0, p1⟩ := hq.1.2.2.1; go_simp); first | done | with_reducible rfl
      try simp only [Act.put, List.setIfInBounds_toArray, List.set_cons_zero, List.set_cons_succ]
      refine wpAnyH_ready (rs := [5, 7]) (by kernel_rfl) (by simp) ?_
      refine (AllReadyH.cons rfl (fun K hK => ?_) (AllReadyH.cons rfl (fun K hK => ?_) AllReadyH.nil))
      · skip
        go_simp
        refine (add_any k bn cn sb sc _).mono ?_
        rintro e w5 ⟨rfl, hb5⟩
        have tr5 := tr.drew.below hb5
        refine hK.out _ _ (tr5) (fun hS0 => ?_)
        clear hK K
        try simp only [Act.put, List.setIfInBounds_toArray, List.set_cons_zero, List.set_cons_succ]
        clear hS
        have hS := hS0
        clear hS0
        refine wpAnyH_ready (rs := [6, 7]) (by kernel_rfl) (by simp) ?_
        refine (AllReadyH.cons rfl (fun K hK => ?_) (AllReadyH.cons rfl (fun K hK => ?_) AllReadyH.nil))
        · skip
          go_simp
          refine (add_any k an _ sa _ _).mono ?_
          rintro e w6 ⟨rfl, hb6⟩
          have tr6 := tr5.below hb6
          refine hK.out _ _ (tr6) (fun hS0 => ?_)
          clear hK K
          try simp only [Act.put, List.setIfInBounds_toArray, List.set_cons_zero, List.set_cons_succ]
          clear hS
          have hS := hS0
          clear hS0
          refine wpAnyH_ready (rs := [7]) (by kernel_rfl) (by simp) ?_
          refine AllReadyH.cons rfl (fun K hK => ?_) AllReadyH.nil
          go_simp
          have tr7 := tr6.alloc (.cells #[.int .i64 0, .string ⟨#[]⟩] 23)
          refine hK.out _ _ (tr7) (fun hS0 => ?_)
          clear hK K
          try simp only [Act.put, List.setIfInBounds_toArray, List.set_cons_zero, List.set_cons_succ]
          clear hS
          have hS := hS0
          clear hS0
          refine wpAnyH_ready (rs := [8]) (by kernel_rfl) (by simp) ?_
          refine AllReadyH.cons rfl (fun K hK => ?_) AllReadyH.nil
          go_simp
          refine hK.out _ _ (tr6.alloc _) (fun hS0 => ?_)
          clear hK K
          try simp only [Act.put, List.setIfInBounds_toArray, List.set_cons_zero, List.set_cons_succ]
          clear hS
          have hS := hS0
          clear hS0
          refine wpAnyH_done (by kernel_rfl) (NoPanic.normal ?_) _
          go_wp2_with fail
          go_meet
          exact ⟨_, rfl, Bx.new _ _ _ _, tr6.alloc _⟩
        · skip
          go_simp
          have fr := Fr.new tr5.1.2.2.2
          have ne := tr5.ne
          have tr6 := tr5.alloc (.cells #[.int .i64 0, .string ⟨#[]⟩] 23)
          refine hK.out _ _ (tr6) (fun hS0 => ?_)
          clear hK K
          try simp only [Act.put, List.setIfInBounds_toArray, List.set_cons_zero, List.set_cons_succ]
          clear hS
          have hS := hS0
          clear hS0
          refine wpAnyH_ready (rs := [6]) (by kernel_rfl) (by simp) ?_
          refine AllReadyH.cons rfl (fun K hK => ?_) AllReadyH.nil
          go_simp
          refine (add_any k an _ sa _ _).mono ?_
          rintro e w6 ⟨rfl, hb6⟩
          have tr7 := tr6.below hb6
          have fr7 := fr.below hb6
          refine hK.out _ _ (tr7) (fun hS0 => ?_)
          clear hK K
          try simp only [Act.put, List.setIfInBounds_toArray, List.set_cons_zero, List.set_cons_succ]
          clear hS
          have hS := hS0
          clear hS0
          obtain ⟨⟨z0, z1⟩, f0, f1, -⟩ := id fr7
          refine wpAnyH_ready (rs := [8]) (by kernel_rfl) (by simp) ?_
          refine AllReadyH.cons rfl (fun K hK => ?_) AllReadyH.nil
          go_simp
          refine hK.out _ _ (tr7.put fr7 ne _ _) (fun hS0 => ?_)
          clear hK K
          try simp only [Act.put, List.setIfInBounds_toArray, List.set_cons_zero, List.set_cons_succ]
          clear hS
          have hS := hS0
          clear hS0
          refine wpAnyH_done (by kernel_rfl) (NoPanic.normal ?_) _
          go_wp2_with fail
          go_meet
          exact ⟨_, rfl, fr7.1.put _ _, tr7.put fr7 ne _ _⟩
      · skip
        go_simp
        have fr : Fr w (wc.drew.alloc (.cells #[.int .i64 0, .string ⟨#[]⟩] 23)) wc.heap.size := Fr.new tr.drew.1.2.2.2
        have ne := tr.ne
        have tr5 := tr.drew.alloc (.cells #[.int .i64 0, .string ⟨#[]⟩] 23)
        refine hK.out _ _ (tr5) (fun hS0 => ?_)
        clear hK K
        try simp only [Act.put, List.setIfInBounds_toArray, List.set_cons_zero, List.set_cons_succ]
        clear hS
        have hS := hS0
        clear hS0
        refine wpAnyH_ready (rs := [5]) (by kernel_rfl) (by simp) ?_
        refine AllReadyH.cons rfl (fun K hK => ?_) AllReadyH.nil
        go_simp
        refine (add_any k bn cn sb sc _).mono ?_
        rintro e w5 ⟨rfl, hb5⟩
        have tr6 := tr5.below hb5
        have fr6 := fr.below hb5
        refine hK.out _ _ (tr6) (fun hS0 => ?_)
        clear hK K
        try simp only [Act.put, List.setIfInBounds_toArray, List.set_cons_zero, List.set_cons_succ]
        clear hS
        have hS := hS0
        clear hS0
        refine wpAnyH_ready (rs := [6]) (by kernel_rfl) (by simp) ?_
        refine AllReadyH.cons rfl (fun K hK => ?_) AllReadyH.nil
        go_simp
        refine (add_any k an _ sa _ _).mono ?_
        rintro e w6 ⟨rfl, hb6⟩
        have tr7 := tr6.below hb6
        have fr7 := fr6.below hb6
        refine hK.out _ _ (tr7) (fun hS0 => ?_)
        clear hK K
        try simp only [Act.put, List.setIfInBounds_toArray, List.set_cons_zero, List.set_cons_succ]
        clear hS
        have hS := hS0
        clear hS0
        obtain ⟨⟨z0, z1⟩, f0, f1, -⟩ := id fr7
        refine wpAnyH_ready (rs := [8]) (by kernel_rfl) (by simp) ?_
        refine AllReadyH.cons rfl (fun K hK => ?_) AllReadyH.nil
        go_simp
        refine hK.out _ _ (tr7.put fr7 ne _ _) (fun hS0 => ?_)
        clear hK K
        try simp only [Act.put, List.setIfInBounds_toArray, List.set_cons_zero, List.set_cons_succ]
        clear hS
        have hS := hS0
        clear hS0
        refine wpAnyH_done (by kernel_rfl) (NoPanic.normal ?_) _
        go_wp2_with fail
        go_meet
        exact ⟨_, rfl, fr7.1.put _ _, tr7.put fr7 ne _ _⟩
    case rest =>
      clear tr
      obtain ⟨g2, rfl, x2, tq, x1⟩ := hcut
      by_cases h3 : k = 3
      · subst h3
        have e1 := addN_t hf1.out hf2.out
        have e2 := addN_t hf0.out hf2.out
        rw [e1.1, e1.2, e2.1, e2.2] at x1 x2
        have hw := tq.2.2.2
        obtain ⟨p0, p1⟩ := x1
        obtain ⟨p2, p3⟩ := x2
        obtain ⟨p4, p5⟩ := tq.2.2.1
        clear tq e1 e2 H1
        go_wp2_with fail
        go_ret
        exact ⟨rfl, hw⟩
      · have hk' : k = 1 ∨ k = 2 := by omega
        generalize addN k an sa (addN k bn sb cn sc) (addS k bn sb cn sc) = X at *
        generalize addS k an sa (addN k bn sb cn sc) (addS k bn sb cn sc) = Y at *
        obtain ⟨p0, p1⟩ := x1
        obtain ⟨p2, p3⟩ := x2
        have e1 := addN_n hk' hf0.out hf1.out
        have e2 := addN_n hk' hf1.out hf0.out
        rw [Int.add_comm bn an] at e2
        have e3 := add_zero hk' hf0.out q0
        have h3b : (k == 3) = false := by simp [h3]
        have E1 := Lib.hid e1
        have E2 := Lib.hid e2
        have E3 := Lib.hid e3
        clear e1 e2 e3 H1
        go_wp2_with fail
        refine wp_region_noPanic ?_
        refine wp_region_held_drew (S := fun W => Tri w W ba an sa bb bn sb bc cn sc) (by kernel_rfl) (tq.drew) (fun hS => ?_)
        refine take_at (i := 0) (v := ?_) (some 52) rfl (by kernel_rfl) (by kernel_rfl) (by kernel_rfl) rfl (fun _ _ _ h => h) (Or.inl ⟨by rfl, ?_⟩) hS ?_
        rotate_left
        · (intro wq hq; go_simp); first | done | with_reducible rfl
        try simp only [Act.put, List.setIfInBounds_toArray, List.set_cons_zero, List.set_cons_succ]
        refine take_at (i := 1) (v := ?_) (some 53) rfl (by kernel_rfl) (by kernel_rfl) (by kernel_rfl) rfl (fun _ _ _ h => h) (Or.inl ⟨by rfl, ?_⟩) hS ?_
        rotate_left
        · (intro wq hq; go_simp); first | done | with_reducible rfl
        try simp only [Act.put, List.setIfInBounds_toArray, List.set_cons_zero, List.set_cons_succ]
        refine take_at (i := 2) (v := ?_) (some 54) rfl (by kernel_rfl) (by kernel_rfl) (by kernel_rfl) rfl (fun _ _ _ h => h) (Or.inl ⟨by rfl, ?_⟩) hS ?_
        rotate_left
        · (intro wq hq; go_simp); first | done | with_reducible rfl
        try simp only [Act.put, List.setIfInBounds_toArray, List.set_cons_zero, List.set_cons_succ]
        refine take_at (i := 3) (v := ?_) (some 55) rfl (by kernel_rfl) (by kernel_rfl) (by kernel_rfl) rfl (fun _ _ _ h => h) (Or.inl ⟨by rfl, ?_⟩) hS ?_
        rotate_left
        · (intro wq hq; obtain ⟨p0, p1⟩ := hq.1; go_simp); first | done | with_reducible rfl
        try simp only [Act.put, List.setIfInBounds_toArray, List.set_cons_zero, List.set_cons_succ]
        refine take_at (i := 4) (v := ?_) (some 56) rfl (by kernel_rfl) (by kernel_rfl) (by kernel_rfl) rfl (fun _ _ _ h => h) (Or.inl ⟨by rfl, ?_⟩) hS ?_
        rotate_left
        · (intro wq hq; obtain ⟨p0, p1⟩ := hq.2.1; go_simp); first | done | with_reducible rfl
        try simp only [Act.put, List.setIfInBounds_toArray, List.set_cons_zero, List.set_cons_succ]
        refine take_at (i := 6) (v := ?_) (some 58) rfl (by kernel_rfl) (by kernel_rfl) (by kernel_rfl) rfl (fun _ _ _ h => h) (Or.inl ⟨by rfl, ?_⟩) hS ?_
        rotate_left
        · (intro wq hq; go_simp); first | done | with_reducible rfl
        try simp only [Act.put, List.setIfInBounds_toArray, List.set_cons_zero, List.set_cons_succ]
        refine take_at (i := 7) (v := ?_) (some 59) rfl (by kernel_rfl) (by kernel_rfl) (by kernel_rfl) rfl (fun _ _ _ h => h) (Or.inl ⟨by rfl, ?_⟩) hS ?_
        rotate_left
        · (intro wq hq; obtain ⟨p0, p1⟩ := hq.2.1; go_simp); first | done | with_reducible rfl
        try simp only [Act.put, List.setIfInBounds_toArray, List.set_cons_zero, List.set_cons_succ]
        refine take_at (i := 8) (v := ?_) (some 60) rfl (by kernel_rfl) (by kernel_rfl) (by kernel_rfl) rfl (fun _ _ _ h => h) (Or.inl ⟨by rfl, ?_⟩) hS ?_
        rotate_left
        · (intro wq hq; obtain ⟨p0, p1⟩ := hq.1; go_simp); first | done | with_reducible rfl
        try simp only [Act.put, List.setIfInBounds_toArray, List.set_cons_zero, List.set_cons_succ]
        refine wpAnyH_ready (rs := [5]) (by kernel_rfl) (by simp) ?_
        refine AllReadyH.cons rfl (fun K hK => ?_) AllReadyH.nil
        go_simp
        refine (add_any k an bn sa sb _).mono ?_
        rw [E1.out.1, E1.out.2]
        rintro e w5 ⟨rfl, hb5⟩
        have tr5 := tq.drew.below hb5
        refine hK.out _ _ (tr5) (fun hS0 => ?_)
        clear hK K
        try simp only [Act.put, List.setIfInBounds_toArray, List.set_cons_zero, List.set_cons_succ]
        clear hS
        have hS := hS0
        clear hS0
        refine wpAnyH_ready (rs := [9]) (by kernel_rfl) (by simp) ?_
        refine AllReadyH.cons rfl (fun K hK => ?_) AllReadyH.nil
        go_simp
        refine (add_any k bn an sb sa _).mono ?_
        rw [E2.out.1, E2.out.2]
        rintro e w6 ⟨rfl, hb6⟩
        have tr6 := tr5.below hb6
        refine hK.out _ _ (tr6) (fun hS0 => ?_)
        clear hK K
        try simp only [Act.put, List.setIfInBounds_toArray, List.set_cons_zero, List.set_cons_succ]
        clear hS
        have hS := hS0
        clear hS0
        refine take_at (i := 10) (v := ?_) (some 62) rfl (by kernel_rfl) (by kernel_rfl) (by kernel_rfl) rfl (fun _ _ _ h => h) (Or.inl ⟨by rfl, ?_⟩) hS ?_
        rotate_left
        · (intro wq hq; go_simp); first | done | with_reducible rfl
        try simp only [Act.put, List.setIfInBounds_toArray, List.set_cons_zero, List.set_cons_succ]
        refine take_at (i := 11) (v := ?_) (some 63) rfl (by kernel_rfl) (by kernel_rfl) (by kernel_rfl) rfl (fun _ _ _ h => h) (Or.inl ⟨by rfl, ?_⟩) hS ?_
        rotate_left
        · (intro wq hq; go_simp); first | done | with_reducible rfl
        try simp only [Act.put, List.setIfInBounds_toArray, List.set_cons_zero, List.set_cons_succ]
        refine take_at (i := 12) (v := ?_) (some 64) rfl (by kernel_rfl) (by kernel_rfl) (by kernel_rfl) rfl (fun _ _ _ h => h) (Or.inl ⟨by rfl, ?_⟩) hS ?_
        rotate_left
        · (intro wq hq; go_simp); first | done | with_reducible rfl
        try simp only [Act.put, List.setIfInBounds_toArray, List.set_cons_zero, List.set_cons_succ]
        refine take_at (i := 13) (v := ?_) (some 65) rfl (by kernel_rfl) (by kernel_rfl) (by kernel_rfl) rfl (fun _ _ _ h => h) (Or.inl ⟨by rfl, ?_⟩) hS ?_
        rotate_left
        · (intro wq hq; go_simp); first | done | with_reducible rfl
        try simp only [Act.put, List.setIfInBounds_toArray, List.set_cons_zero, List.set_cons_succ]
        refine take_at (i := 14) (v := ?_) (some 66) rfl (by kernel_rfl) (by kernel_rfl) (by kernel_rfl) rfl (fun _ _ _ h => h) (Or.inl ⟨by rfl, ?_⟩) hS ?_
        rotate_left
        · (intro wq hq; obtain ⟨p0, p1⟩ := hq.1; go_simp); first | done | with_reducible rfl
        try simp only [Act.put, List.setIfInBounds_toArray, List.set_cons_zero, List.set_cons_succ]
        refine take_at (i := 15) (v := ?_) (some 67) rfl (by kernel_rfl) (by kernel_rfl) (by kernel_rfl) rfl (fun _ _ _ h => h) (Or.inl ⟨by rfl, ?_⟩) hS ?_
        rotate_left
        · (intro wq hq; obtain ⟨p0, p1⟩ := hq.2.1; go_simp); first | done | with_reducible rfl
        try simp only [Act.put, List.setIfInBounds_toArray, List.set_cons_zero, List.set_cons_succ]
        refine take_at (i := 18) (v := ?_) (some 70) rfl (by kernel_rfl) (by kernel_rfl) (by kernel_rfl) rfl (fun _ _ _ h => h) (Or.inl ⟨by rfl, ?_⟩) hS ?_
        rotate_left
        · (intro wq hq; go_simp); first | done | with_reducible rfl
        try simp only [Act.put, List.setIfInBounds_toArray, List.set_cons_zero, List.set_cons_succ]
        refine take_at (i := 19) (v := ?_) (some 71) rfl (by kernel_rfl) (by kernel_rfl) (by kernel_rfl) rfl (fun _ _ _ h => h) (Or.inl ⟨by rfl, ?_⟩) hS ?_
        rotate_left
        · (intro wq hq; obtain ⟨p0, p1⟩ := hq.1; go_simp); first | done | with_reducible rfl
        try simp only [Act.put, List.setIfInBounds_toArray, List.set_cons_zero, List.set_cons_succ]
        refine take_at (i := 20) (v := ?_) (some 72) rfl (by kernel_rfl) (by kernel_rfl) (by kernel_rfl) rfl (fun _ _ _ h => h) (Or.inl ⟨by rfl, ?_⟩) hS ?_
        rotate_left
        · (intro wq hq; go_simp); first | done | with_reducible rfl
        try simp only [Act.put, List.setIfInBounds_toArray, List.set_cons_zero, List.set_cons_succ]
        refine take_at (i := 21) (v := ?_) (some 73) rfl (by kernel_rfl) (by kernel_rfl) (by kernel_rfl) rfl (fun _ _ _ h => h) (Or.inl ⟨by rfl, ?_⟩) hS ?_
        rotate_left
        · (intro wq hq; obtain ⟨p0, p1⟩ := hq.2.1; go_simp); first | done | with_reducible rfl
        try simp only [Act.put, List.setIfInBounds_toArray, List.set_cons_zero, List.set_cons_succ]
        refine take_at (i := 22) (v := ?_) (some 74) rfl (by kernel_rfl) (by kernel_rfl) (by kernel_rfl) rfl (fun _ _ _ h => h) (Or.inl ⟨by rfl, ?_⟩) hS ?_
        rotate_left
        · (intro wq hq; go_simp); first | done | with_reducible rfl
        try simp only [Act.put, List.setIfInBounds_toArray, List.set_cons_zero, List.set_cons_succ]
        refine wpAnyH_ready (rs := [16]) (by kernel_rfl) (by simp) ?_
        refine AllReadyH.cons rfl (fun K hK => ?_) AllReadyH.nil
        go_simp
        refine (add_any k an bn sa sb _).mono ?_
        rw [E1.out.1, E1.out.2]
        rintro e w7 ⟨rfl, hb7⟩
        have tr7 := tr6.below hb7
        refine hK.out _ _ (tr7) (fun hS0 => ?_)
        clear hK K
        try simp only [Act.put, List.setIfInBounds_toArray, List.set_cons_zero, List.set_cons_succ]
        clear hS
        have hS := hS0
        clear hS0
        refine take_at (i := 17) (v := ?_) (some 69) rfl (by kernel_rfl) (by kernel_rfl) (by kernel_rfl) rfl (fun _ _ _ h => h) (Or.inl ⟨by rfl, ?_⟩) hS ?_
        rotate_left
        · (intro wq hq; have hfl := field0 (wrap64 (an + bn)) ⟨#[]⟩; go_simp); first | done | with_reducible rfl
        try simp only [Act.put, List.setIfInBounds_toArray, List.set_cons_zero, List.set_cons_succ]
        refine take_at (i := 23) (v := ?_) (some 75) rfl (by kernel_rfl) (by kernel_rfl) (by kernel_rfl) rfl (fun _ _ _ h => h) (Or.inl ⟨by rfl, ?_⟩) hS ?_
        rotate_left
        · (intro wq hq; have hwr := wrap_64 (an + bn); go_simp); first | done | with_reducible rfl
        try simp only [Act.put, List.setIfInBounds_toArray, List.set_cons_zero, List.set_cons_succ]
        refine take_at (i := 24) (v := ?_) (some 76) rfl (by kernel_rfl) (by kernel_rfl) (by kernel_rfl) rfl (fun _ _ _ h => h) (Or.inl ⟨by rfl, ?_⟩) hS ?_
        rotate_left
        · (intro wq hq; go_simp); first | done | with_reducible rfl
        try simp only [Act.put, List.setIfInBounds_toArray, List.set_cons_zero, List.set_cons_succ]
        refine take_at (i := 25) (v := ?_) (some 77) rfl (by kernel_rfl) (by kernel_rfl) (by kernel_rfl) rfl (fun _ _ _ h => h) (Or.inl ⟨by rfl, ?_⟩) hS ?_
        rotate_left
        · (intro wq hq; go_simp); first | done | with_reducible rfl
        try simp only [Act.put, List.setIfInBounds_toArray, List.set_cons_zero, List.set_cons_succ]
        refine take_at (i := 26) (v := ?_) (some 78) rfl (by kernel_rfl) (by kernel_rfl) (by kernel_rfl) rfl (fun _ _ _ h => h) (Or.inl ⟨by rfl, ?_⟩) hS ?_
        rotate_left
        · (intro wq hq; go_simp); first | done | with_reducible rfl
        try simp only [Act.put, List.setIfInBounds_toArray, List.set_cons_zero, List.set_cons_succ]
        refine take_at (i := 27) (v := ?_) (some 79) rfl (by kernel_rfl) (by kernel_rfl) (by kernel_rfl) rfl (fun _ _ _ h => h) (Or.inl ⟨by rfl, ?_⟩) hS ?_
        rotate_left
        · (intro wq hq; obtain ⟨p0, p1⟩ := hq.1; go_simp); first | done | with_reducible rfl
        try simp only [Act.put, List.setIfInBounds_toArray, List.set_cons_zero, List.set_cons_succ]
        refine take_at (i := 28) (v := ?_) (some 80) rfl (by kernel_rfl) (by kernel_rfl) (by kernel_rfl) rfl (fun _ _ _ h => h) (Or.inl ⟨by rfl, ?_⟩) hS ?_
        rotate_left
        · (intro wq hq; go_simp); first | done | with_reducible rfl
        try simp only [Act.put, List.setIfInBounds_toArray, List.set_cons_zero, List.set_cons_succ]
        refine take_at (i := 30) (v := ?_) (some 82) rfl (by kernel_rfl) (by kernel_rfl) (by kernel_rfl) rfl (fun _ _ _ h => h) (Or.inl ⟨by rfl, ?_⟩) hS ?_
        rotate_left
        · (intro wq hq; obtain ⟨p0, p1⟩ := hq.1; go_simp); first | done | with_reducible rfl
        try simp only [Act.put, List.setIfInBounds_toArray, List.set_cons_zero, List.set_cons_succ]
        refine wpAnyH_ready (rs := [29]) (by kernel_rfl) (by simp) ?_
        refine AllReadyH.cons rfl (fun K hK => ?_) AllReadyH.nil
        go_simp
        refine (add_any k an 0 sa ⟨#[]⟩ _).mono ?_
        rw [E3.out.1, E3.out.2]
        rintro e w8 ⟨rfl, hb8⟩
        have tr8 := tr7.below hb8
        refine hK.out _ _ (tr8) (fun hS0 => ?_)
        clear hK K
        try simp only [Act.put, List.setIfInBounds_toArray, List.set_cons_zero, List.set_cons_succ]
        clear hS
        have hS := hS0
        clear hS0
        refine take_at (i := 31) (v := ?_) (some 83) rfl (by kernel_rfl) (by kernel_rfl) (by kernel_rfl) rfl (fun _ _ _ h => h) (Or.inl ⟨by rfl, ?_⟩) hS ?_
        rotate_left
        · (intro wq hq; go_simp); first | done | with_reducible rfl
        try simp only [Act.put, List.setIfInBounds_toArray, List.set_cons_zero, List.set_cons_succ]
        refine take_at (i := 32) (v := ?_) (some 84) rfl (by kernel_rfl) (by kernel_rfl) (by kernel_rfl) rfl (fun _ _ _ h => h) (Or.inl ⟨by rfl, ?_⟩) hS ?_
        rotate_left
        · (intro wq hq; go_simp); first | done | with_reducible rfl
        try simp only [Act.put, List.setIfInBounds_toArray, List.set_cons_zero, List.set_cons_succ]
        refine take_at (i := 33) (v := ?_) (some 4) rfl (by kernel_rfl) (by kernel_rfl) (by kernel_rfl) rfl (fun _ _ _ h => h) (Or.inl ⟨by rfl, ?_⟩) hS ?_
        rotate_left
        · (intro wq hq; go_simp); first | done | with_reducible rfl
        try simp only [Act.put, List.setIfInBounds_toArray, List.set_cons_zero, List.set_cons_succ]
        refine wpAnyH_done (by kernel_rfl) (NoPanic.normal ?_) _
        go_wp2_with fail
        go_ret
        exact ⟨rfl, tr8.2.2.2⟩
end Go.Proofs.YtoebghfjpkkegaaDoor
