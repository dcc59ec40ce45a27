/- Frames: plain facts, and the contracts of Frame and Unframe. -/
import Derived.Test.YtfdkocpplhkccaaC2s
import Derived.Test.YtfdkocpplhkccaaK2
import Derived.Lib.SliceRun
namespace Go.Proofs.Ytfdkocpplhkccaa
open Go.ChangeShapes Go.WideShapes Go.ChangeAt Go.RowKit
set_option linter.unusedVariables false

/-- the sum of some bytes as four bytes -/
def sealL (zs : List Int) : List Int := (w8 (crcN zs : Int)).take 4
/-- the frame of some bytes -/
def frameL (zs : List Int) : List Int := pv (zs.length : Int) ++ sealL zs ++ zs
theorem sealL_len (zs : List Int) : (sealL zs).length = 4 := rfl
theorem sealL_bytes (zs : List Int) : ∀ z ∈ sealL zs, 0 ≤ z ∧ z ≤ 255 := fun z hz => w8_bytes _ z (List.mem_of_mem_take hz)

theorem BV.seal (x : Int) (w : World) : BV (w.alloc (p64Obj x)) (some ⟨w.heap.size, 0, none⟩) 4 ((Go.Proofs.Ytfdkocpplhkccaa.w8 x).take 4) := (BV.w8 x w).take 4 (by omega)
set_option maxHeartbeats 400000 in
theorem seal_any (a : Option Addr) (n cap : Nat) (zs : List Int) (w : World) (hv : BV w a n zs) (hmax : n ≤ 140737488355328) :
    Calls Try.prog 19 #[.slice a n cap] w fun e w' => e = .returned (.slice (some ⟨w.heap.size, 0, none⟩) 4 8) ∧ w' = w.alloc (p64Obj (crcN zs : Int)) := by
  have hlt := crcN_lt hv.2.1
  have h0 : (0 : Int) ≤ (crcN zs : Int) := by omega
  have h1 : (crcN zs : Int) ≤ 18446744073709551615 := by omega
  have h2 : IntKind.u64.wrap (crcN zs : Int) = (crcN zs : Int) := by rw [IntKind.wrap_u64]; omega
  generalize hx : crcN zs = x at *
  have HX : Hid (crcN zs = x) := hx
  clear hx
  go_enter Try.func19, Try.ntmps19
  go_wp2_with (go_at_call 13; refine (sum_any _ _ _ _ _ hv hmax).mono ?_; rintro e w' ⟨rfl, rfl⟩; rw [HX.out])
  refine (put64_any x _ h0 h1).mono ?_
  rintro e w' ⟨rfl, rfl⟩
  go_wp2_with fail
  go_ret
  exact ⟨rfl, rfl⟩

theorem OW.pv (x : Int) (w : World) (base : Nat) (hb : base ≤ w.heap.size) (h0 : x < 18446744073709551616) (g : Nat) (hg : g = w.heap.size) : OW (w.alloc (pvObj x)) base (.slice (some ⟨g, 0, none⟩) (Go.Proofs.Ytfdkocpplhkccaa.pv x).length 10) (Go.Proofs.Ytfdkocpplhkccaa.pv x) := by
  subst hg
  have h10 := pv_len10 h0
  refine .inr ⟨w.heap.size, 10, _, 45, rfl, hb, heap_alloc_new _ _, h10, by unfold maxLen; omega, ?_, ?_⟩
  · simp [pre10]; omega
  · simp [pre10]

set_option maxHeartbeats 400000 in
theorem frame_any (a : Option Addr) (n cap : Nat) (zs : List Int) (w : World) (hv : BV w a n zs) (hmax : n ≤ 140737488350000) :
    Calls Try.prog 15 #[.slice a n cap] w fun e w' => ∃ v, e = .returned v ∧ OW w' w.heap.size v (frameL zs) ∧ Below w.heap.size w w' := by
  have h0 : (0 : Int) ≤ (n : Int) := by omega
  have h1 : (n : Int) ≤ 18446744073709551615 := by omega
  have h10 := pv_len10 (x := (n : Int)) (by omega)
  have HL : Hid (zs.length = n) := hv.1
  have hb1 : Below w.heap.size w (w.alloc (pvObj (n : Int))) := (Below.refl _ _).alloc (Nat.le_refl _) _
  have ho1 := OW.pv (n : Int) w w.heap.size (Nat.le_refl _) (by omega) _ rfl
  have hv1 := hv.below hb1
  go_enter Try.func15, Try.ntmps15
  go_wp2_with (go_at_call 24; refine (putvar_any (n : Int) _ h0 h1).mono ?_; rintro e w' ⟨rfl, rfl⟩)
  generalize w.alloc (pvObj (n : Int)) = w1 at *
  have hs1 := hb1.size
  refine (seal_any _ _ _ _ _ hv1 (by omega)).mono ?_
  rintro e w' ⟨rfl, rfl⟩
  have hsl : BV (w1.alloc (p64Obj (crcN zs : Int))) (some ⟨w1.heap.size, 0, none⟩) 4 (sealL zs) := BV.seal _ w1
  go_wp2_with (first | (at_builtin; refine append_ow rfl (.tmp 8) (.tmp 10) rfl w.heap.size _ _ rfl (ho1.alloc _) _ 4 _ (sealL zs) rfl hsl (by omega) (by rw [heap_alloc]; omega) ?_; intro v2 w2 ho2 hb2; have hk2 := (hb1.alloc hs1 _).trans hb2; have hv2 := hv.below hk2; have hs2 := hk2.size) | (at_builtin; refine append_ow rfl (.tmp 12) (.tmp 13) rfl w.heap.size _ _ rfl ho2 _ n _ zs rfl hv2 (by rw [List.length_append, sealL_len]; omega) hs2 ?_; intro v3 w3 ho3 hb3; have hk3 := hk2.trans hb3))
  go_ret
  refine ⟨_, rfl, ?_, hk3⟩
  rw [frameL, HL.out]
  exact ho3

theorem str_beq {a b : List Int} (ha : ∀ z ∈ a, 0 ≤ z ∧ z ≤ 255) (hb : ∀ z ∈ b, 0 ≤ z ∧ z ≤ 255) : ((strOfNums a).toList == (strOfNums b).toList) = decide (a = b) := by
  rw [Bool.eq_iff_iff, beq_iff_eq, decide_eq_true_iff]
  exact ⟨fun h => strOfNums_inj ha hb (toList_inj h), fun h => by rw [h]⟩

set_option maxHeartbeats 400000 in
theorem equal_any (a b : Option Addr) (n m ca cb : Nat) (A B : List Int) (w : World) (hA : BV w a n A) (hB : BV w b m B) :
    Calls Try.prog 18 #[.slice a n ca, .slice b m cb] w fun e w' => e = .returned (.bool (decide (A = B))) ∧ w' = w := by
  have h1 := conv_any hA ca
  have h2 := conv_any hB cb
  have h3 := str_beq hA.2.1 hB.2.1
  clear hA hB
  go_enter Try.func18, Try.ntmps18
  go_wp2
  go_ret
  exact ⟨rfl, rfl⟩

set_option maxHeartbeats 400000 in
theorem clone_any (a : Option Addr) (n cap : Nat) (zs : List Int) (w : World) (hv : BV w a n zs) (hmax : n ≤ 140737488350000) :
    Calls Try.prog 20 #[.slice a n cap] w fun e w' => ∃ v, e = .returned v ∧ OW w' w.heap.size v zs ∧ Below w.heap.size w w' := by
  cases a with
  | none =>
    have hn : n = 0 := by
      rcases hv.2.2 with h | ⟨b, off, h, _⟩
      · exact h
      · cases h
    subst hn
    have hz : zs = [] := List.eq_nil_of_length_eq_zero hv.1
    clear hv
    have hnil : ∀ wx, (binOp .eql 22 (.slice none 0 cap) (.slice none 0 0)).run Try.prog wx = .ok (.bool true) wx := fun wx => Lib.run_eql_slice_nil wx 22 5 none 0 cap 0 0 Try.underlying22
    go_enter Try.func20, Try.ntmps20
    go_wp2
    go_ret
    exact ⟨_, rfl, .inl ⟨rfl, hz⟩, Below.refl _ _⟩
  | some x =>
    have hnil : ∀ wx, (binOp .eql 22 (.slice (some x) n cap) (.slice none 0 0)).run Try.prog wx = .ok (.bool false) wx := fun wx => Lib.run_eql_slice_nil wx 22 5 (some x) n cap 0 0 Try.underlying22
    go_enter Try.func20, Try.ntmps20
    go_wp2_with (at_builtin; refine append_ow rfl (.tmp 5) (.tmp 6) rfl w.heap.size _ [] rfl (OW.empty _ _ (Nat.le_refl _) _ rfl) _ n _ zs rfl (hv.alloc _) (by simp only [List.length_nil]; omega) (by rw [heap_alloc]; omega) ?_; intro v2 w2 ho2 hb2)
    go_ret
    rw [List.nil_append] at ho2
    exact ⟨_, rfl, ho2, ((Below.refl _ _).alloc (Nat.le_refl _) _).trans hb2⟩

/-- where a slice lies that is cut from place l on -/
def cutA (b off cap l : Nat) : Option Addr := if cap = l then some ⟨b, off, none⟩ else some ⟨b, off + l, none⟩
theorem BV.part {w : World} {b off n : Nat} {zs : List Int} (h : BV w (some ⟨b, off, none⟩) n zs) (cap l m : Nat) (hc : n ≤ cap) (hm : l + m ≤ n) : BV w (cutA b off cap l) m ((zs.drop l).take m) := by
  have h1 := (h.cut l cap (by omega) hc).take m (by omega)
  exact h1
theorem slice_lh (b off len cap : Nat) (l h : Int) (L m : Nat) (hl : l = L) (hh : h = L + m) (hc : L + m ≤ cap) (w : World) :
    (Instr.slice 22 (.slice (some ⟨b, off, none⟩) len cap) (some (.int .i64 l)) (some (.int .i64 h)) none).run Try.prog w = .ok (.slice (cutA b off cap L) m (cap - L)) w := by
  subst hl hh
  rw [run_slice_lh w 22 _ len cap underB .i64 .i64 _ _ (by omega) (by omega) (by omega), sizeB]
  have ha : (⟨b, off, none⟩ : Addr).add L = ⟨b, off + L, none⟩ := by unfold Addr.add; split <;> simp_all
  simp only [Result.andThen, sliced, Nat.mul_one, Int.toNat_natCast, Option.map_some, ha, cutA]
  rw [show ((L : Int) + (m : Int)).toNat - L = m from by omega]

/-- what some bytes say as a frame: the bytes within, how many bytes it has, the error -/
def unf (zs : List Int) : List Int × Int × Int :=
  if (varR zs).2 = 0 ∨ 1048576 < (varR zs).1 ∨ (zs.length : Int) < (varR zs).2 + 4 + (varR zs).1 then ([], 0, 10)
  else if (zs.drop (varR zs).2.toNat).take 4 = sealL ((zs.drop ((varR zs).2.toNat + 4)).take (varR zs).1.toNat) then ((zs.drop ((varR zs).2.toNat + 4)).take (varR zs).1.toNat, (varR zs).2 + 4 + (varR zs).1, 0)
  else ([], 0, 11)
theorem unf_bad {zs : List Int} {s k : Int} (hs : (varR zs).1 = s) (hk : (varR zs).2 = k) (h : k = 0 ∨ 1048576 < s ∨ (zs.length : Int) < k + 4 + s) : unf zs = ([], 0, 10) := by
  subst hs hk; rw [unf, if_pos h]
theorem unf_some {zs : List Int} {s k : Nat} (hs : (varR zs).1 = s) (hk : (varR zs).2 = k) (h : ¬ (k = 0 ∨ 1048576 < s ∨ zs.length < k + 4 + s)) :
    unf zs = if (zs.drop k).take 4 = sealL ((zs.drop (k + 4)).take s) then ((zs.drop (k + 4)).take s, (k : Int) + 4 + s, 0) else ([], 0, 11) := by
  rw [unf, hs, hk, if_neg (by omega), Int.toNat_natCast, Int.toNat_natCast]

theorem ret_three {v : Value} {a b c d : Int} (h1 : a = b) (h2 : c = d) : Ending.returned (.tuple #[v, .int .i64 a, .int .i64 c]) = .returned (.tuple #[v, .int .i64 b, .int .i64 d]) := by rw [h1, h2]

set_option maxHeartbeats 1000000 in
theorem unframe_any (a : Option Addr) (n cap : Nat) (zs : List Int) (w : World) (hv : BV w a n zs) (hcap : n ≤ cap) (hmax : n ≤ 140737488350000) :
    Calls Try.prog 11 #[.slice a n cap] w fun e w' => ∃ v, e = .returned (.tuple #[v, .int .i64 (unf zs).2.1, .int .i64 (unf zs).2.2]) ∧ OW w' w.heap.size v (unf zs).1 ∧ Below w.heap.size w w' := by
  obtain ⟨hr0, hr1, hk0, hk1, hkn⟩ := varR_bd zs hv.2.1
  obtain ⟨s, hs⟩ : ∃ s, (varR zs).1 = s := ⟨_, rfl⟩
  obtain ⟨k, hk⟩ : ∃ k, (varR zs).2 = k := ⟨_, rfl⟩
  rw [hs] at hr0 hr1
  rw [hk] at hk0 hk1 hkn
  have hlen := hv.1
  have HS : Hid ((varR zs).1 = s) := hs
  have HK : Hid ((varR zs).2 = k) := hk
  clear hs hk
  by_cases h1 : k = 0
  · have HU : Hid (unf zs = ([], 0, 10)) := unf_bad HS.out HK.out (.inl h1)
    subst h1
    go_enter Try.func11, Try.ntmps11
    go_wp2_with (go_at_call 17; refine (var_any _ _ _ _ _ hv).mono ?_; rintro e w' ⟨rfl, rfl⟩; rw [HS.out, HK.out])
    go_ret3
    rw [HU.out]
    exact ⟨_, rfl, .inl ⟨rfl, rfl⟩, Below.refl _ _⟩
  · have hk0' : (k == 0) = false := by rw [beq_eq_false_iff_ne]; exact h1
    by_cases h2 : 1048576 < s
    · have HU : Hid (unf zs = ([], 0, 10)) := unf_bad HS.out HK.out (.inr (.inl h2))
      go_enter Try.func11, Try.ntmps11
      go_wp2_with (go_at_call 17; refine (var_any _ _ _ _ _ hv).mono ?_; rintro e w' ⟨rfl, rfl⟩; rw [HS.out, HK.out])
      go_ret3
      rw [HU.out]
      exact ⟨_, rfl, .inl ⟨rfl, rfl⟩, Below.refl _ _⟩
    · obtain ⟨S, rfl⟩ : ∃ S : Nat, s = S := ⟨s.toNat, by omega⟩
      obtain ⟨K, rfl⟩ : ∃ K : Nat, k = K := ⟨k.toNat, by omega⟩
      have hw1 : IntKind.i64.wrap (S : Int) = (S : Int) := by rw [IntKind.wrap_i64]; omega
      by_cases h3 : (n : Int) < (K : Int) + 4 + (S : Int)
      · have HU : Hid (unf zs = ([], 0, 10)) := unf_bad HS.out HK.out (.inr (.inr (by omega)))
        go_enter Try.func11, Try.ntmps11
        go_wp2_with (go_at_call 17; refine (var_any _ _ _ _ _ hv).mono ?_; rintro e w' ⟨rfl, rfl⟩; rw [HS.out, HK.out])
        go_ret3
        rw [HU.out]
        exact ⟨_, rfl, .inl ⟨rfl, rfl⟩, Below.refl _ _⟩
      · have HU : Hid (unf zs = _) := unf_some HS.out HK.out (by omega)
        obtain ⟨b, off, rfl, -⟩ : ∃ b off, a = some ⟨b, off, none⟩ ∧ True := by
          rcases hv.2.2 with h | ⟨b, off, h, _⟩
          · omega
          · exact ⟨b, off, h, trivial⟩
        have hD := hv.part cap (K + 4) S hcap (by omega)
        have hF := hv.part cap K 4 hcap (by omega)
        have hsD := fun wx => slice_lh b off n cap ((K : Int) + 4) ((K : Int) + 4 + (S : Int)) (K + 4) S (by omega) (by omega) (by omega) wx
        have hsF := fun wx => slice_lh b off n cap (K : Int) ((K : Int) + 4) K 4 (by omega) (by omega) (by omega) wx
        generalize (zs.drop (K + 4)).take S = D at *
        generalize (zs.drop K).take 4 = F at *
        generalize cutA b off cap (K + 4) = aD at *
        generalize cutA b off cap K = aF at *
        go_enter Try.func11, Try.ntmps11
        go_wp2_with (go_at_call 17; refine (var_any _ _ _ _ _ hv).mono ?_; rintro e w' ⟨rfl, rfl⟩; rw [HS.out, HK.out])
        have hk9 : Below w'.heap.size w' (w'.drew.alloc (p64Obj (crcN D : Int))) := (Below.refl _ _).drew.alloc (Nat.le_refl _) _
        have hS47 : S ≤ 140737488350000 := by omega
        have hS48 : S ≤ 140737488355328 := by omega
        refine wp_region_noPanic ?_
        refine wp_region_held_drew (S := Ext (World.drew _)) (by kernel_rfl) (Ext.refl _) (fun hS => ?_)
        refine take_at (i := 0) (v := ?_) (some 35) rfl (by kernel_rfl) (by kernel_rfl) (by kernel_rfl) rfl (fun _ _ _ h => h) (Or.inl ⟨by rfl, ?_⟩) hS ?_
        rotate_left
        · (intro wq hq; go_simp); first | done | with_reducible rfl
        try simp only [Act.put, List.setIfInBounds_toArray, List.set_cons_zero, List.set_cons_succ]
        refine take_at (i := 1) (v := ?_) (some 36) rfl (by kernel_rfl) (by kernel_rfl) (by kernel_rfl) rfl (fun _ _ _ h => h) (Or.inl ⟨by rfl, ?_⟩) hS ?_
        rotate_left
        · (intro wq hq; go_simp); first | done | with_reducible rfl
        try simp only [Act.put, List.setIfInBounds_toArray, List.set_cons_zero, List.set_cons_succ]
        refine take_at (i := 2) (v := ?_) (some 37) rfl (by kernel_rfl) (by kernel_rfl) (by kernel_rfl) rfl (fun _ _ _ h => h) (Or.inl ⟨by rfl, ?_⟩) hS ?_
        rotate_left
        · (intro wq hq; go_simp); first | done | with_reducible rfl
        try simp only [Act.put, List.setIfInBounds_toArray, List.set_cons_zero, List.set_cons_succ]
        refine take_at (i := 3) (v := ?_) (some 38) rfl (by kernel_rfl) (by kernel_rfl) (by kernel_rfl) rfl (fun _ _ _ h => h) (Or.inl ⟨by rfl, ?_⟩) hS ?_
        rotate_left
        · (intro wq hq; go_simp); first | done | with_reducible rfl
        try simp only [Act.put, List.setIfInBounds_toArray, List.set_cons_zero, List.set_cons_succ]
        refine take_at (i := 4) (v := ?_) (some 39) rfl (by kernel_rfl) (by kernel_rfl) (by kernel_rfl) rfl (fun _ _ _ h => h) (Or.inl ⟨by rfl, ?_⟩) hS ?_
        rotate_left
        · (intro wq hq; go_simp); first | done | with_reducible rfl
        try simp only [Act.put, List.setIfInBounds_toArray, List.set_cons_zero, List.set_cons_succ]
        refine wpAnyH_ready (rs := [5]) (by kernel_rfl) (by simp) ?_
        refine AllReadyH.cons rfl (fun K hK => ?_) AllReadyH.nil
        go_simp
        refine (seal_any _ _ _ _ _ hD.drew hS48).mono ?_
        rintro e w1 ⟨rfl, rfl⟩
        refine hK.out _ _ ((Ext.refl _).alloc _) (fun hS0 => ?_)
        clear hK K
        try simp only [Act.put, List.setIfInBounds_toArray, List.set_cons_zero, List.set_cons_succ]
        clear hS
        refine held_now hS0 (fun hS => ?_)
        clear hS0
        have hq1 := hF.below hk9
        have hq2 : BV (w'.drew.alloc (p64Obj (crcN D : Int))) (some ⟨w'.heap.size, 0, none⟩) 4 (sealL D) := BV.seal _ w'.drew
        refine wpAnyH_ready (rs := [6]) (by kernel_rfl) (by simp) ?_
        refine AllReadyH.cons rfl (fun K hK => ?_) AllReadyH.nil
        go_simp
        refine (equal_any _ _ _ _ _ _ _ _ _ hq1 hq2).mono ?_
        rintro e w1 ⟨rfl, rfl⟩
        refine hK.out _ _ (Ext.refl _) (fun hS0 => ?_)
        clear hK K
        try simp only [Act.put, List.setIfInBounds_toArray, List.set_cons_zero, List.set_cons_succ]
        clear hS
        refine held_now hS0 (fun hS => ?_)
        clear hS0
        refine take_at (i := 7) (v := ?_) (some 42) rfl (by kernel_rfl) (by kernel_rfl) (by kernel_rfl) rfl (fun _ _ _ h => h) (Or.inl ⟨by rfl, ?_⟩) hS ?_
        rotate_left
        · (intro wq hq; go_simp); first | done | with_reducible rfl
        try simp only [Act.put, List.setIfInBounds_toArray, List.set_cons_zero, List.set_cons_succ]
        refine wpAnyH_done (by kernel_rfl) (NoPanic.normal ?_) _
        clear hS hq1 hq2
        have hD1 := hD.below hk9
        generalize w'.drew.alloc (p64Obj (crcN D : Int)) = w1 at *
        by_cases hfd : F = sealL D
        · have HU2 : Hid (unf zs = (D, (K : Int) + 4 + (S : Int), 0)) := by show _ = _; rw [HU.out, if_pos hfd]
          have hd : decide (F = sealL D) = true := by rw [decide_eq_true_iff]; exact hfd
          rw [hd]
          clear hfd hd HU
          go_wp2_with (go_at_call 20; refine (clone_any _ _ _ _ _ hD1 hS47).mono ?_; rintro e w2 ⟨v, rfl, ho2, hb2⟩)
          go_ret3
          rw [HU2.out]
          exact ⟨_, rfl, ho2.mono hk9.size, hk9.trans (hb2.mono hk9.size)⟩
        · have HU2 : Hid (unf zs = ([], 0, 11)) := by show _ = _; rw [HU.out, if_neg hfd]
          have hd : decide (F = sealL D) = false := by rw [decide_eq_false_iff_not]; exact hfd
          rw [hd]
          clear hfd hd HU
          go_wp2_with fail
          go_ret3
          rw [HU2.out]
          exact ⟨_, rfl, .inl ⟨rfl, rfl⟩, hk9⟩
end Go.Proofs.Ytfdkocpplhkccaa
