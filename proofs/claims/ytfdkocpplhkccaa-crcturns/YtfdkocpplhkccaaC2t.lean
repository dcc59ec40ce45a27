/- CrcTurns: the walk. -/
import Derived.Test.YtfdkocpplhkccaaC2q
namespace Go.Proofs.Ytfdkocpplhkccaa
open Go.ChangeShapes Go.WideShapes Go.ChangeAt Go.RowKit
set_option linter.unusedVariables false

/-- a byte of what is owned is written -/
theorem OW.set {w : World} {base g n cap : Nat} {bs : List Int} (h : OW w base (.slice (some ⟨g, 0, none⟩) n cap) bs) (i : Nat) (c : Int) (hi : i < n) : OW (w.setCell ⟨g, i, none⟩ (.int .u8 c)) base (.slice (some ⟨g, 0, none⟩) n cap) (bs.set i c) := by
  rcases h with ⟨h, _⟩ | ⟨g', cap', cur, T, hv, hg, hh, hl, hm, hs, ht⟩
  · cases h
  · cases hv
    refine .inr ⟨g, cap, cur.setIfInBounds i (.int .u8 c), T, by rw [List.length_set], hg, ?_, by rw [List.length_set]; exact hl, hm, by simpa using hs, ?_⟩
    · rw [setCell_eq_setRow w g i cur T (0, 0) _ hh]
      exact setRow_heap w g cur _ T _ hh
    · rw [List.length_set, Array.toList_setIfInBounds, List.take_set, ht, List.map_set]
theorem OW.own {w : World} {base g n cap : Nat} {bs : List Int} (h : OW w base (.slice (some ⟨g, 0, none⟩) n cap) bs) : base ≤ g ∧ bs.length = n := by
  rcases h with ⟨h, _⟩ | ⟨g', cap', cur, T, hv, hg, _⟩
  · cases h
  · cases hv; exact ⟨hg, rfl⟩
theorem OW.free {w : World} {base g n cap : Nat} {bs : List Int} (h : OW w base (.slice (some ⟨g, 0, none⟩) n cap) bs) (i : Nat) : w.frozen? ⟨g, i, none⟩ = false := by
  rcases h with ⟨h, _⟩ | ⟨g', cap', cur, T, hv, hg, hh, _⟩
  · cases h
  · cases hv; simp [World.frozen?, hh]
theorem OW.at {w : World} {base g n cap : Nat} {bs : List Int} (h : OW w base (.slice (some ⟨g, 0, none⟩) n cap) bs) (i : Nat) (hi : i < n) : w.cell? ⟨g, i, none⟩ = some (.int .u8 (bs.getD i 0)) := by
  rcases h with ⟨h, _⟩ | ⟨g', cap', cur, T, hv, hg, hh, hl, hm, hs, ht⟩
  · cases h
  · cases hv
    have e : cur[i]? = some (.int .u8 (bs.getD i 0)) := by
      have h1 : (cur.toList.take bs.length)[i]? = some (.int .u8 (bs.getD i 0)) := by rw [ht]; simp [hi]
      rw [List.getElem?_take_of_lt hi] at h1
      simpa using h1
    simp only [World.cell?, hh, e]; rfl
theorem OW.slice_of {w : World} {base : Nat} {v : Value} {bs : List Int} (h : OW w base v bs) (n : Nat) (hn : bs.length = n) (h0 : 0 < n) : ∃ g cap, v = .slice (some ⟨g, 0, none⟩) n cap ∧ n ≤ cap ∧ base ≤ g := by
  subst hn
  rcases h with ⟨_, rfl⟩ | ⟨g, cap, cur, T, rfl, hg, _, hl, _⟩
  · simp at h0
  · exact ⟨g, cap, rfl, hl, hg⟩
theorem OW.one (w : World) (x : Int) (base : Nat) (hb : base ≤ w.heap.size) (g : Nat) (hg : g = w.heap.size) : OW (w.alloc (.cells #[.int .u8 x] 5)) base (.slice (some ⟨g, 0, none⟩) 1 1) [x] := by
  subst hg
  exact .inr ⟨w.heap.size, 1, _, 5, rfl, hb, heap_alloc_new _ _, Nat.le_refl _, by unfold maxLen; omega, rfl, rfl⟩

/-- what is known of the bytes within the frame when i bits have been looked at -/
structure Turned (X D : List Int) (bit i m : Nat) (nn : Bool) : Prop where
  len : D.length = X.length
  bytes : ∀ z ∈ D, 0 ≤ z ∧ z ≤ 255
  lt : m < 2 ^ i
  num : numOf D = numOf X ^^^ m * 2 ^ bit
  flag : nn = true ↔ m = 0
  same : m = 0 → D = X
theorem Turned.start (X : List Int) (bit : Nat) (h : ∀ z ∈ X, 0 ≤ z ∧ z ≤ 255) : Turned X X bit 0 0 true := ⟨rfl, h, by simp, by simp, by simp, fun _ => rfl⟩
theorem Turned.pass {X D : List Int} {bit i m : Nat} {nn : Bool} (h : Turned X D bit i m nn) : Turned X D bit (i + 1) m nn :=
  ⟨h.len, h.bytes, Nat.lt_of_lt_of_le h.lt (Nat.pow_le_pow_right (by omega) (by omega)), h.num, h.flag, h.same⟩
theorem pow_split (Z : Nat) : 2 ^ (Z % 8) * 2 ^ (8 * (Z / 8)) = 2 ^ Z := by rw [← Nat.pow_add]; congr 1; omega
theorem byte_bit (Z : Nat) : 2 ^ (Z % 8) < 256 := by
  have : 2 ^ (Z % 8) ≤ 2 ^ 7 := Nat.pow_le_pow_right (by omega) (by omega)
  omega
theorem Turned.turn {X D : List Int} {bit i m : Nat} {nn : Bool} (h : Turned X D bit i m nn) (c : Int) (hc : c = D.getD ((bit + i) / 8) 0) (hb : bit + i < 8 * X.length) :
    Turned X (D.set ((bit + i) / 8) ((c.toNat ^^^ 2 ^ ((bit + i) % 8) : Nat) : Int)) bit (i + 1) (m ^^^ 2 ^ i) false := by
  have hl := h.len
  have hm := h.lt
  have hne : m ^^^ 2 ^ i ≠ 0 := fun e => by have := xor_eq_zero e; omega
  have hcb : 0 ≤ c ∧ c ≤ 255 := by apply h.bytes; rw [hc]; simp [show (bit + i) / 8 < D.length from by omega]
  have hp : 2 ^ i < 2 ^ (i + 1) := Nat.pow_lt_pow_right (by omega) (by omega)
  refine ⟨by rw [List.length_set, hl], ?_, Nat.xor_lt_two_pow (by omega) hp, ?_, by simp [hne], fun e => absurd e hne⟩
  · intro z hz
    rcases List.mem_or_eq_of_mem_set hz with hz | rfl
    · exact h.bytes z hz
    · have := xor_lt8 (show c.toNat < 256 by omega) (byte_bit (bit + i)); omega
  · rw [numOf_set D ((bit + i) / 8) _ (2 ^ ((bit + i) % 8)) (by omega) (by rw [Int.toNat_natCast, hc]), h.num, pow_split, mul_xor, Nat.xor_assoc, ← Nat.pow_add, Nat.add_comm i bit]
theorem Turned.told {X D : List Int} {bit i m : Nat} {nn : Bool} (h : Turned X D bit i m nn) (hi : i ≤ 32) (hb : bit ≤ 8 * X.length) (hm : m ≠ 0) : crcN X ≠ crcN D := by
  intro e
  rw [crcN_eq h.len.symm, h.num, ← Nat.xor_assoc, Nat.xor_self, Nat.zero_xor] at e
  have : 2 ^ i ≤ 2 ^ 32 := Nat.pow_le_pow_right (by omega) hi
  exact hm (burst _ bit m hb (Nat.lt_of_lt_of_le h.lt this) e)
theorem set_behind (P D : List Int) (K q : Nat) (c : Int) (h : P.length = K) : (P ++ D).set (K + q) c = P ++ D.set q c := by
  subst h
  rw [List.set_append_right _ _ (by omega)]; congr 2; omega
theorem get_behind (P D : List Int) (K q : Nat) (h : P.length = K) : (P ++ D).getD (K + q) 0 = D.getD q 0 := by
  subst h
  simp [List.getD, List.getElem?_append_right]

theorem mask_bit (M : Nat) (hM : M < 4294967296) (i : Nat) (hi : i < 32) : bits BinOp.and IntKind.u32 ((M : Int) / 2 ^ i) 1 = ((M / 2 ^ i % 2 : Nat) : Int) := by
  have h : M / 2 ^ i < 4294967296 := Nat.lt_of_le_of_lt (Nat.div_le_self _ _) hM
  have := u32_low (M / 2 ^ i) h
  rw [← this]
  simp
theorem one_shl (r : Nat) (hr : r < 8) : IntKind.u8.wrap (2 ^ r) = ((2 ^ r : Nat) : Int) := by
  have : 2 ^ r ≤ 2 ^ 7 := Nat.pow_le_pow_right (by omega) (by omega)
  have e : (2 : Int) ^ r = ((2 ^ r : Nat) : Int) := by simp
  rw [e, IntKind.wrap_u8']
  clear e
  generalize 2 ^ r = y at *
  omega
theorem u8_turn (c : Int) (r : Nat) (hr : r < 8) (h0 : 0 ≤ c) (h1 : c ≤ 255) : bits BinOp.xor IntKind.u8 c (2 ^ r) = ((c.toNat ^^^ 2 ^ r : Nat) : Int) := by
  have : 2 ^ r ≤ 2 ^ 7 := Nat.pow_le_pow_right (by omega) (by omega)
  have e : (2 : Int) ^ r = ((2 ^ r : Nat) : Int) := by simp
  rw [e]
  clear e
  generalize 2 ^ r = y at *
  rw [u8_xor c _ h0 (by omega) (by omega) (by omega), Int.toNat_natCast]

set_option maxHeartbeats 2000000 in
theorem crcTurns_walk (a : Option Addr) (n cap : Nat) (A : List Int) (t mk : Int) (w : World) (hA : BV w a n A) (hca : n ≤ cap) (ht0 : 0 ≤ t) (ht1 : t ≤ 65535) (hm0 : 0 ≤ mk) (hm1 : mk ≤ 4294967295) :
    Calls Try.prog 5 #[.slice a n cap, .int .u16 t, .int .u32 mk] w fun e w' => e = .returned (.bool true) ∧ Below w.heap.size w w' := by
  have hL := hA.take (min n 300) (by omega)
  obtain ⟨m, L, hm, hLe⟩ : ∃ m L, m = min n 300 ∧ L = A.take (min n 300) := ⟨_, _, rfl, rfl⟩
  rw [← hLe, ← hm] at hL
  have hm3 : m ≤ 300 := by omega
  have HM : Hid (m = min n 300) := hm
  clear hm hLe
  have hXb : ∀ z ∈ [7] ++ L, 0 ≤ z ∧ z ≤ 255 := by
    intro z hz
    rcases List.mem_append.1 hz with h | h
    · simp at h; omega
    · exact hL.2.1 z h
  obtain ⟨nb, hnb⟩ : ∃ nb, nb = m + 1 := ⟨_, rfl⟩
  have hXl : ([7] ++ L).length = nb := by rw [List.length_append, hL.1, hnb]; simp; omega
  have hnb1 : 1 ≤ nb := by omega
  have hnb3 : nb ≤ 301 := by omega
  clear hnb
  obtain ⟨X, hX⟩ : ∃ X, X = [7] ++ L := ⟨_, rfl⟩
  rw [← hX] at hXb hXl
  have HX : Hid (X = [7] ++ L) := hX
  have HXl : Hid (X.length = nb) := hXl
  clear hX
  have hFb := frameL_bytes hXb
  have hp10 := pv_len10 (x := (X.length : Int)) (by omega)
  have hp1 := pv_pos (X.length : Int)
  obtain ⟨P, hP⟩ : ∃ P, P = pv (X.length : Int) ++ sealL X := ⟨_, rfl⟩
  obtain ⟨K, hK⟩ : ∃ K, P.length = K := ⟨_, rfl⟩
  have hPK : K = (pv (X.length : Int)).length + 4 := by rw [← hK, hP, List.length_append, sealL_len]
  have hF : frameL X = P ++ X := by rw [frameL, hP]
  have HF : Hid (frameL X = P ++ X) := hF
  have HPD : Hid (P = pv (X.length : Int) ++ sealL X) := hP
  have HK : Hid (P.length = K) := hK
  have hK5 : 5 ≤ K := by omega
  have hK14 : K ≤ 14 := by omega
  obtain ⟨N, hNe⟩ : ∃ N, N = K + nb := ⟨_, rfl⟩
  have hN : (frameL X).length = N := by rw [hF, List.length_append, hK, hXl, hNe]
  have HN : Hid ((frameL X).length = N) := hN
  have hNs : (N : Int) - (nb : Int) = (K : Int) := by omega
  have HNe : Hid (N = K + nb) := hNe
  have hN3 : N ≤ 315 := by omega
  have hKN : K < N := by omega
  have hPb : ∀ z ∈ P, 0 ≤ z ∧ z ≤ 255 := fun z hz => hFb z (by rw [hF]; exact List.mem_append_left _ hz)
  have HFP : ∀ D, D.length = X.length → (P ++ D).length = N := fun D h => by rw [List.length_append, hK, h, hXl, hNe]
  clear hp10 hp1 hPK hP hK hF hN hXl hNe
  obtain ⟨M, rfl⟩ : ∃ M : Nat, mk = M := ⟨mk.toNat, by omega⟩
  obtain ⟨T, rfl⟩ : ∃ T : Nat, t = T := ⟨t.toNat, by omega⟩
  obtain ⟨bit, hbit⟩ : ∃ bit : Nat, bit = T % (8 * nb) := ⟨_, rfl⟩
  have hbl : bit < 8 * nb := by rw [hbit]; exact Nat.mod_lt _ (by omega)
  have hmod : (T : Int) % (8 * (nb : Int)) = (bit : Int) := by rw [hbit]; simp
  clear hbit
  go_enter Try.func5, Try.ntmps5
  go_wp2_with (go_at_call 9; refine (shown2_is _).mono ?_; rintro e w0 ⟨rfl, hb0⟩)
  have hA0 := hA.below hb0
  have hL0 := hL.below hb0
  have hs0 := hb0.size
  refine (short2_is (hA0.alloc _) hca HM.out).mono ?_
  rintro e w' ⟨rfl, rfl⟩
  go_wp2_with (at_builtin; refine append_ow rfl (.tmp 18) (.tmp 20) rfl w0.heap.size _ [7] rfl (OW.one _ 7 _ (Nat.le_refl _) _ rfl) _ m _ L rfl (hL0.alloc _) (by simp only [List.length_cons, List.length_nil]; omega) (by rw [heap_alloc]; omega) ?_; intro v1 w1 ho1 hb1; rw [← HX.out] at ho1; obtain ⟨a1, c1, rfl, hc1, -, hX1, -⟩ := ho1.bvn hXb _ HXl.out)
  have hk1 : Below w0.heap.size w0 w1 := ((Below.refl _ _).alloc (Nat.le_refl _) _).trans hb1
  have hw1 : Below w.heap.size w w1 := hb0.trans (hk1.mono hs0)
  clear hb0 hb1 ho1 hk1 hA0 hL0 hs0 hA hL
  refine (frame_any _ _ _ _ _ hX1 (by omega)).mono ?_
  rintro e w2 ⟨v2, rfl, ho2, hb2⟩
  obtain ⟨a2, c2, rfl, hc2, -, hF2, -⟩ := ho2.bvn hFb _ HN.out
  rw [HF.out] at hF2
  have hX2 := hX1.below hb2
  have hw2 := hw1.trans (hb2.mono hw1.size)
  clear ho2 hb2 hX1 hw1
  have hK5' : ¬ (K : Int) < 5 := by omega
  have hK15' : ¬ (15 : Int) < (K : Int) := by omega
  have h8 : ((8 * (nb : Int)) == 0) = false := by rw [beq_eq_false_iff_ne]; omega
  go_wp2_with (at_builtin; refine append_ow rfl (.tmp 41) (.tmp 42) rfl w2.heap.size _ [] rfl (OW.empty _ _ (Nat.le_refl _) _ rfl) _ N _ (P ++ X) rfl (hF2.alloc _) (by simp only [List.length_nil]; omega) (by rw [heap_alloc]; omega) ?_; intro v3 w3 ho3 hb3; rw [List.nil_append] at ho3; obtain ⟨g, c3, rfl, hc3, hg⟩ := ho3.slice_of N (HFP X rfl) (by omega))
  have hk3 : Below w2.heap.size w2 w3 := ((Below.refl _ _).alloc (Nat.le_refl _) _).trans hb3
  clear hb3
  go_loopw [12, 13] (fun u i wr => ∃ (j q : Nat) (D : List Int) (nn : Bool), j ≤ 32 ∧ bit + j ≤ 8 * nb ∧ u = .bool nn ∧ i = .int .i64 (j : Int) ∧ Turned X D bit j q nn ∧ OW wr w2.heap.size (.slice (some ⟨g, 0, none⟩) N c3) (P ++ D) ∧ Below w2.heap.size w2 wr) (fun _ i _ => 32 - (intOf i).toNat)
  case atStart => exact ⟨0, 0, X, true, by omega, by omega, rfl, rfl, Turned.start X bit hXb, ho3, hk3⟩
  case round =>
    obtain ⟨j, q, D, nn, hj, hbj, rfl, rfl, hT, hown, hbel⟩ := hrel
    by_cases hlt : j < 32 ∧ bit + j < 8 * nb
    · obtain ⟨hj32, hbj8⟩ := hlt
      by_cases hset : M / 2 ^ j % 2 = 1
      · have hb : (bits BinOp.and IntKind.u32 ((M : Int) / 2 ^ j) 1 == 1) = true := by rw [mask_bit M (by omega) j hj32, hset]; rfl
        clear hset
        obtain ⟨Z, hZ⟩ : ∃ Z : Nat, Z = bit + j := ⟨_, rfl⟩
        obtain ⟨Qu, hQ⟩ : ∃ Qu : Nat, Qu = Z / 8 := ⟨_, rfl⟩
        obtain ⟨R, hR⟩ : ∃ R : Nat, R = Z % 8 := ⟨_, rfl⟩
        obtain ⟨I, hI⟩ : ∃ I : Nat, I = K + Qu := ⟨_, rfl⟩
        have hIN : I < N := by have := HNe.out; omega
        have hz : IntKind.i64.wrap ((bit : Int) + (j : Int)) = (Z : Int) := by rw [IntKind.wrap_i64]; omega
        have hkq : IntKind.i64.wrap ((K : Int) + (Qu : Int)) = (I : Int) := by rw [IntKind.wrap_i64]; omega
        have hq8 : (Z : Int) / 8 = (Qu : Int) := by omega
        have hr8 : (Z : Int) % 8 = (R : Int) := by omega
        have hR8 : R < 8 := by omega
        have hz0 : (0 : Int) ≤ (Z : Int) := by omega
        have hZ8 : (Z : Int) < 8 * (nb : Int) := by omega
        have hr8' : (Z : Int).tmod 8 = (R : Int) := by rw [Int.tmod_eq_emod_of_nonneg hz0]; exact hr8
        have hwq : IntKind.i64.wrap (Qu : Int) = (Qu : Int) := by rw [IntKind.wrap_i64]; omega
        have hi0 : (0 : Int) ≤ (I : Int) ∧ (I : Int) < (N : Int) := by omega
        have hc := hown.at I hIN
        have hfz := hown.free I
        obtain ⟨c, hcd⟩ : ∃ c, c = (P ++ D).getD I 0 := ⟨_, rfl⟩
        rw [← hcd] at hc
        have hcD : c = D.getD ((bit + j) / 8) 0 := by rw [hcd, hI, get_behind P D K Qu HK.out, hQ, hZ]
        have hcb : 0 ≤ c ∧ c ≤ 255 := by apply hT.bytes; rw [hcD]; simp [show (bit + j) / 8 < D.length from by rw [hT.len, HXl.out]; omega]
        have hT' := hT.turn c hcD (by rw [HXl.out]; exact hbj8)
        have ho' := hown.set I ((c.toNat ^^^ 2 ^ R : Nat) : Int) hIN
        rw [hI, set_behind P D K Qu _ HK.out, ← hI] at ho'
        rw [← hZ, ← hQ, ← hR] at hT'
        have hx : bits BinOp.xor IntKind.u8 c (2 ^ R % 256) = ((c.toNat ^^^ 2 ^ R : Nat) : Int) := by
          rw [← IntKind.wrap_u8', one_shl R hR8, show ((2 ^ R : Nat) : Int) = 2 ^ R from by simp]
          exact u8_turn c R hR8 hcb.1 hcb.2
        generalize ((c.toNat ^^^ 2 ^ R : Nat) : Int) = c' at *
        clear hcD hcd hZ hQ hR hI
        go_wp2_with fail
        refine wp_region_noPanic ?_
        refine wp_region_held_drew (S := fun _ => True) (by kernel_rfl) (trivial) (fun hS => ?_)
        refine take_at (i := 0) (v := ?_) (some 62) rfl (by kernel_rfl) (by kernel_rfl) (by kernel_rfl) rfl (fun _ _ _ h => h) (Or.inl ⟨by rfl, ?_⟩) hS ?_
        rotate_left
        · (intro wq hq; go_simp); first | done | with_reducible rfl
        try simp only [Act.put, List.setIfInBounds_toArray, List.set_cons_zero, List.set_cons_succ]
        refine take_at (i := 1) (v := ?_) (some 63) rfl (by kernel_rfl) (by kernel_rfl) (by kernel_rfl) rfl (fun _ _ _ h => h) (Or.inl ⟨by rfl, ?_⟩) hS ?_
        rotate_left
        · (intro wq hq; go_simp); first | done | with_reducible rfl
        try simp only [Act.put, List.setIfInBounds_toArray, List.set_cons_zero, List.set_cons_succ]
        refine take_at (i := 2) (v := ?_) (some 64) rfl (by kernel_rfl) (by kernel_rfl) (by kernel_rfl) rfl (fun _ _ _ h => h) (Or.inl ⟨by rfl, ?_⟩) hS ?_
        rotate_left
        · (intro wq hq; go_simp); first | done | with_reducible rfl
        try simp only [Act.put, List.setIfInBounds_toArray, List.set_cons_zero, List.set_cons_succ]
        refine take_at (i := 3) (v := ?_) (some 65) rfl (by kernel_rfl) (by kernel_rfl) (by kernel_rfl) rfl (fun _ _ _ h => h) (Or.inl ⟨by rfl, ?_⟩) hS ?_
        rotate_left
        · (intro wq hq; go_simp); first | done | with_reducible rfl
        try simp only [Act.put, List.setIfInBounds_toArray, List.set_cons_zero, List.set_cons_succ]
        refine take_at (i := 4) (v := ?_) (some 66) rfl (by kernel_rfl) (by kernel_rfl) (by kernel_rfl) rfl (fun _ _ _ h => h) (Or.inl ⟨by rfl, ?_⟩) hS ?_
        rotate_left
        · (intro wq hq; go_simp); first | done | with_reducible rfl
        try simp only [Act.put, List.setIfInBounds_toArray, List.set_cons_zero, List.set_cons_succ]
        refine take_at (i := 5) (v := ?_) (some 67) rfl (by kernel_rfl) (by kernel_rfl) (by kernel_rfl) rfl (fun _ _ _ h => h) (Or.inl ⟨by rfl, ?_⟩) hS ?_
        rotate_left
        · (intro wq hq; go_simp); first | done | with_reducible rfl
        try simp only [Act.put, List.setIfInBounds_toArray, List.set_cons_zero, List.set_cons_succ]
        refine take_at (i := 6) (v := ?_) (some 68) rfl (by kernel_rfl) (by kernel_rfl) (by kernel_rfl) rfl (fun _ _ _ h => h) (Or.inl ⟨by rfl, ?_⟩) hS ?_
        rotate_left
        · (intro wq hq; go_simp); first | done | with_reducible rfl
        try simp only [Act.put, List.setIfInBounds_toArray, List.set_cons_zero, List.set_cons_succ]
        refine take_at (i := 7) (v := ?_) (some 69) rfl (by kernel_rfl) (by kernel_rfl) (by kernel_rfl) rfl (fun _ _ _ h => h) (Or.inl ⟨by rfl, ?_⟩) hS ?_
        rotate_left
        · (intro wq hq; go_simp); first | done | with_reducible rfl
        try simp only [Act.put, List.setIfInBounds_toArray, List.set_cons_zero, List.set_cons_succ]
        refine take_at (i := 8) (v := ?_) (some 70) rfl (by kernel_rfl) (by kernel_rfl) (by kernel_rfl) rfl (fun _ _ _ h => h) (Or.inl ⟨by rfl, ?_⟩) hS ?_
        rotate_left
        · (intro wq hq; go_simp); first | done | with_reducible rfl
        try simp only [Act.put, List.setIfInBounds_toArray, List.set_cons_zero, List.set_cons_succ]
        refine take_at (i := 9) (v := ?_) (some 71) rfl (by kernel_rfl) (by kernel_rfl) (by kernel_rfl) rfl (fun _ _ _ h => h) (Or.inl ⟨by rfl, ?_⟩) hS ?_
        rotate_left
        · (intro wq hq; go_simp); first | done | with_reducible rfl
        try simp only [Act.put, List.setIfInBounds_toArray, List.set_cons_zero, List.set_cons_succ]
        refine take_at (i := 10) (v := ?_) (some 72) rfl (by kernel_rfl) (by kernel_rfl) (by kernel_rfl) rfl (fun _ _ _ h => h) (Or.inl ⟨by rfl, ?_⟩) hS ?_
        rotate_left
        · (intro wq hq; go_simp); first | done | with_reducible rfl
        try simp only [Act.put, List.setIfInBounds_toArray, List.set_cons_zero, List.set_cons_succ]
        refine take_at (i := 11) (v := ?_) (some 73) rfl (by kernel_rfl) (by kernel_rfl) (by kernel_rfl) rfl (fun _ _ _ h => h) (Or.inl ⟨by rfl, ?_⟩) hS ?_
        rotate_left
        · (intro wq hq; go_simp); first | done | with_reducible rfl
        try simp only [Act.put, List.setIfInBounds_toArray, List.set_cons_zero, List.set_cons_succ]
        refine take_at (i := 12) (v := ?_) (some 74) rfl (by kernel_rfl) (by kernel_rfl) (by kernel_rfl) rfl (fun _ _ _ h => h) (Or.inl ⟨by rfl, ?_⟩) hS ?_
        rotate_left
        · (intro wq hq; go_simp); first | done | with_reducible rfl
        try simp only [Act.put, List.setIfInBounds_toArray, List.set_cons_zero, List.set_cons_succ]
        refine take_at (i := 13) (v := ?_) (some 75) rfl (by kernel_rfl) (by kernel_rfl) (by kernel_rfl) rfl (fun _ _ _ h => h) (Or.inl ⟨by rfl, ?_⟩) hS ?_
        rotate_left
        · (intro wq hq; go_simp); first | done | with_reducible rfl
        try simp only [Act.put, List.setIfInBounds_toArray, List.set_cons_zero, List.set_cons_succ]
        refine take_at (i := 14) (v := ?_) (some 76) rfl (by kernel_rfl) (by kernel_rfl) (by kernel_rfl) rfl (fun _ _ _ h => h) (Or.inl ⟨by rfl, ?_⟩) hS ?_
        rotate_left
        · (intro wq hq; go_simp); first | done | with_reducible rfl
        try simp only [Act.put, List.setIfInBounds_toArray, List.set_cons_zero, List.set_cons_succ]
        refine take_at (i := 16) (v := ?_) (some 78) rfl (by kernel_rfl) (by kernel_rfl) (by kernel_rfl) rfl (fun _ _ _ h => h) (Or.inl ⟨by rfl, ?_⟩) hS ?_
        rotate_left
        · (intro wq hq; go_simp); first | done | with_reducible rfl
        try simp only [Act.put, List.setIfInBounds_toArray, List.set_cons_zero, List.set_cons_succ]
        refine take_at (i := 17) (v := ?_) (some 79) rfl (by kernel_rfl) (by kernel_rfl) (by kernel_rfl) rfl (fun _ _ _ h => h) (Or.inl ⟨by rfl, ?_⟩) hS ?_
        rotate_left
        · (intro wq hq; go_simp); first | done | with_reducible rfl
        try simp only [Act.put, List.setIfInBounds_toArray, List.set_cons_zero, List.set_cons_succ]
        refine take_at (i := 18) (v := ?_) (some 80) rfl (by kernel_rfl) (by kernel_rfl) (by kernel_rfl) rfl (fun _ _ _ h => h) (Or.inl ⟨by rfl, ?_⟩) hS ?_
        rotate_left
        · (intro wq hq; go_simp); first | done | with_reducible rfl
        try simp only [Act.put, List.setIfInBounds_toArray, List.set_cons_zero, List.set_cons_succ]
        refine take_at (i := 19) (v := ?_) (some 81) rfl (by kernel_rfl) (by kernel_rfl) (by kernel_rfl) rfl (fun _ _ _ h => h) (Or.inl ⟨by rfl, ?_⟩) hS ?_
        rotate_left
        · (intro wq hq; go_simp); first | done | with_reducible rfl
        try simp only [Act.put, List.setIfInBounds_toArray, List.set_cons_zero, List.set_cons_succ]
        refine take_at (i := 20) (v := ?_) (some 82) rfl (by kernel_rfl) (by kernel_rfl) (by kernel_rfl) rfl (fun _ _ _ h => h) (Or.inl ⟨by rfl, ?_⟩) hS ?_
        rotate_left
        · (intro wq hq; go_simp); first | done | with_reducible rfl
        try simp only [Act.put, List.setIfInBounds_toArray, List.set_cons_zero, List.set_cons_succ]
        refine wpAnyH_ready (rs := [15]) (by kernel_rfl) (by simp) ?_
        refine AllReadyH.cons rfl (fun K hK => ?_) AllReadyH.nil
        go_simp
        refine hK.out _ _ (trivial) (fun hS0 => ?_)
        clear hK K
        try simp only [Act.put, List.setIfInBounds_toArray, List.set_cons_zero, List.set_cons_succ]
        clear hS
        have hS := hS0
        clear hS0
        refine take_at (i := 21) (v := ?_) (some 83) rfl (by kernel_rfl) (by kernel_rfl) (by kernel_rfl) rfl (fun _ _ _ h => h) (Or.inl ⟨by rfl, ?_⟩) hS ?_
        rotate_left
        · (intro wq hq; go_simp); first | done | with_reducible rfl
        try simp only [Act.put, List.setIfInBounds_toArray, List.set_cons_zero, List.set_cons_succ]
        refine take_at (i := 22) (v := ?_) (some 84) rfl (by kernel_rfl) (by kernel_rfl) (by kernel_rfl) rfl (fun _ _ _ h => h) (Or.inl ⟨by rfl, ?_⟩) hS ?_
        rotate_left
        · (intro wq hq; go_simp); first | done | with_reducible rfl
        try simp only [Act.put, List.setIfInBounds_toArray, List.set_cons_zero, List.set_cons_succ]
        refine wpAnyH_ready (rs := [23]) (by kernel_rfl) (by simp) ?_
        refine AllReadyH.cons rfl (fun K hK => ?_) AllReadyH.nil
        go_simp
        refine hK.out _ _ (trivial) (fun hS0 => ?_)
        clear hK K
        try simp only [Act.put, List.setIfInBounds_toArray, List.set_cons_zero, List.set_cons_succ]
        clear hS
        have hS := hS0
        clear hS0
        refine wpAnyH_done (by kernel_rfl) (NoPanic.normal ?_) _
        have ho2 : OW (wr.setCell ⟨g, I, none⟩ (.int .u8 c')).drew w2.heap.size (.slice (some ⟨g, 0, none⟩) N c3) (P ++ D.set Qu c') := ho'
        have hb2 : Below w2.heap.size w2 (wr.setCell ⟨g, I, none⟩ (.int .u8 c')).drew := (hbel.setCell (p := ⟨g, I, none⟩) hg _).drew
        clear hS ho' hown hbel hc hfz
        go_wp2_with fail
        go_roundw
        case rel => rw [hx]; exact ⟨j + 1, _, _, false, by omega, by omega, rfl, by go_num, hT', ho2, hb2⟩
        case measure => simp [intOf]; omega
      · have hb : (bits BinOp.and IntKind.u32 ((M : Int) / 2 ^ j) 1 == 1) = false := by rw [mask_bit M (by omega) j hj32, show M / 2 ^ j % 2 = 0 from by omega]; rfl
        have hT' := hT.pass
        clear hset
        go_wp2_with fail
        go_roundw
        case rel => exact ⟨j + 1, _, _, nn, by omega, by omega, rfl, by go_num, hT', hown, hbel⟩
        case measure => simp [intOf]; omega
    · have hend : Hid (¬ (j < 32 ∧ bit + j < 8 * nb)) := hlt
      have hDb := hT.bytes
      have hPDb : ∀ z ∈ P ++ D, 0 ≤ z ∧ z ≤ 255 := by
        intro z hz
        rcases List.mem_append.1 hz with h | h
        · exact hPb z h
        · exact hDb z h
      have hPD : BV wr (some ⟨g, 0, none⟩) N (P ++ D) := by
        refine ⟨HFP D hT.len, hPDb, .inr ⟨g, 0, rfl, fun i hi => ?_⟩⟩
        rw [Nat.zero_add]; exact hown.at i hi
      have hX3 := hX2.below hbel
      have hwr := hw2.trans (hbel.mono hw2.size)
      have hbit8 : bit ≤ 8 * X.length := by rw [HXl.out]; omega
      have hstr := str_beq hXb hXb
      rw [decide_eq_true rfl] at hstr
      rcases (show (¬ j < 32) ∨ (j < 32 ∧ ¬ (bit : Int) + (j : Int) < 8 * (nb : Int)) from by omega) with hj1 | ⟨hj1, hj2⟩
      all_goals
        cases nn with
        | true =>
          have hq0 := hT.flag.1 rfl
          have hDX := hT.same hq0
          have HU : Hid (unf (P ++ D) = (X, (N : Int), 0)) := by
            show _ = _
            have h := unf_frame X [] (by rw [HXl.out]; omega)
            rw [List.append_nil, HN.out, HF.out] at h
            rw [hDX]; exact h
          clear hlt hown hT hq0 hDX
          go_wp2_with (go_at_call 11; refine (unframe_any _ _ _ _ _ hPD hc3 (by omega)).mono ?_; rintro e w4 ⟨v4, rfl, ho4, hb4⟩; rw [HU.out] at ho4; rw [HU.out]; obtain ⟨a4, c4, rfl, -, -, hX4, -⟩ := ho4.bvn hXb nb HXl.out; have hq4 := conv_any hX4 c4; have hq5 := conv_any (hX3.below hb4) c1)
          go_ret
          exact ⟨rfl, hwr.trans (hb4.mono hwr.size)⟩
        | false =>
          have hq0 : q ≠ 0 := fun h => by have := hT.flag.2 h; cases this
          have hne := hT.told hj hbit8 hq0
          have HU : Hid (unf (P ++ D) = ([], 0, 11)) := by
            show _ = _
            have h := unf_turned X D hT.len (by rw [HXl.out]; omega) hXb hDb hne
            rw [← HPD.out] at h
            exact h
          clear hlt hown hT hq0 hne
          go_wp2_with (go_at_call 11; refine (unframe_any _ _ _ _ _ hPD hc3 (by omega)).mono ?_; rintro e w4 ⟨v4, rfl, ho4, hb4⟩; rw [HU.out] at ho4; rw [HU.out]; obtain ⟨a4, c4, rfl, -, -, hX4, -⟩ := ho4.bvn (by simp) 0 rfl)
          go_ret
          exact ⟨rfl, hwr.trans (hb4.mono hwr.size)⟩
end Go.Proofs.Ytfdkocpplhkccaa
