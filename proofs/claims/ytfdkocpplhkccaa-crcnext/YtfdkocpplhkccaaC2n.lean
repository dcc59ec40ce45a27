/- CrcNext: the walk. -/
import Derived.Test.YtfdkocpplhkccaaC2q
namespace Go.Proofs.Ytfdkocpplhkccaa
open Go.ChangeShapes Go.WideShapes Go.ChangeAt Go.RowKit
set_option linter.unusedVariables false

/-- the slice at a of n elements holds slices of the bytes zss -/
def BVs (w : World) (a : Option Addr) (n : Nat) (zss : List (List Int)) : Prop :=
  zss.length = n ∧ (n = 0 ∨ ∃ b off, a = some ⟨b, off, none⟩ ∧ ∀ i, i < n → ∃ x l c, w.cell? ⟨b, off + i, none⟩ = some (.slice x l c) ∧ l ≤ c ∧ c ≤ maxLen ∧ BV w x l (zss.getD i []))
theorem BVs.below {w w' : World} {a : Option Addr} {n : Nat} {zss : List (List Int)} (h : BVs w a n zss) (hb : Below w.heap.size w w') : BVs w' a n zss := by
  refine ⟨h.1, ?_⟩
  rcases h.2 with h | ⟨b, off, rfl, hc⟩
  · exact .inl h
  · refine .inr ⟨b, off, rfl, fun i hi => ?_⟩
    obtain ⟨x, l, c, h1, h2, h3, h4⟩ := hc i hi
    exact ⟨x, l, c, by rw [hb.cell (p := ⟨b, off + i, none⟩) (cell_lt h1)]; exact h1, h2, h3, h4.below hb⟩

/-- the frames of some rows of bytes (300 at most each), one behind the other -/
def joinF (l : List (List Int)) : List Int := l.flatMap fun z => frameL (z.take 300)
theorem getDs (l : List (List Int)) (k : Nat) (hk : k < l.length) : l.getD k [] = l[k] := by simp [List.getD, hk]
theorem joinF_snoc (l : List (List Int)) (k : Nat) (hk : k < l.length) : joinF (l.take (k + 1)) = joinF (l.take k) ++ frameL ((l.getD k []).take 300) := by
  rw [List.take_succ_eq_append_getElem hk, getDs _ _ hk]
  unfold joinF
  rw [List.flatMap_append, List.flatMap_cons, List.flatMap_nil, List.append_nil]
theorem joinF_cons (l : List (List Int)) (k : Nat) (hk : k < l.length) : joinF (l.drop k) = frameL ((l.getD k []).take 300) ++ joinF (l.drop (k + 1)) := by
  rw [List.drop_eq_getElem_cons hk, getDs _ _ hk]
  unfold joinF
  rw [List.flatMap_cons]
theorem slice_lo (b off len cap : Nat) (L m : Nat) (l : Int) (hl : l = L) (hm : len = L + m) (hc : len ≤ cap) (w : World) :
    (Instr.slice 22 (.slice (some ⟨b, off, none⟩) len cap) (some (.int .i64 l)) none none).run Try.prog w = .ok (.slice (cutA b off cap L) m (cap - L)) w := by
  subst hl hm
  rw [run_slice_l w 22 _ _ cap underB .i64 _ (by omega) (by omega), sizeB]
  have ha : (⟨b, off, none⟩ : Addr).add L = ⟨b, off + L, none⟩ := by unfold Addr.add; split <;> simp_all
  simp only [Result.andThen, sliced, Nat.mul_one, Int.toNat_natCast, Option.map_some, ha, cutA]
  rw [show L + m - L = m from by omega]
theorem BV.behind {w : World} {b off n : Nat} {zs : List Int} (h : BV w (some ⟨b, off, none⟩) n zs) (cap L m : Nat) (hc : n ≤ cap) (hm : n = L + m) : BV w (cutA b off cap L) m (zs.drop L) := by
  have h1 := h.cut L cap (by omega) hc
  rw [show n - L = m from by omega] at h1
  exact h1
theorem unf_nil : unf [] = ([], 0, 10) := unf_bad (s := 0) (k := 0) rfl rfl (.inl rfl)

/-- what 'short' leaves of a slice of bytes -/
theorem short_of {w : World} {x : Option Addr} {l : Nat} {zs : List Int} (h : BV w x l zs) : ∃ y m, Hid (m = min l 300) ∧ BV w x m y ∧ m ≤ 300 ∧ Hid (y = zs.take 300) := by
  refine ⟨zs.take (min l 300), min l 300, rfl, h.take _ (by omega), by omega, ?_⟩
  show _ = _
  rcases Nat.le_total l 300 with hl | hl
  · rw [Nat.min_eq_left hl, List.take_of_length_le (by rw [h.1]; omega), List.take_of_length_le (by rw [h.1]; omega)]
  · rw [Nat.min_eq_right hl]
theorem bytes_cat {a b : List Int} (ha : ∀ z ∈ a, 0 ≤ z ∧ z ≤ 255) (hb : ∀ z ∈ b, 0 ≤ z ∧ z ≤ 255) : ∀ z ∈ a ++ b, 0 ≤ z ∧ z ≤ 255 := by
  intro z hz
  rcases List.mem_append.1 hz with h | h
  · exact ha z h
  · exact hb z h

set_option maxHeartbeats 2000000 in
theorem crcNext_walk (a : Option Addr) (n cap : Nat) (zss : List (List Int)) (w : World) (hv : BVs w a n zss) :
    Calls Try.prog 7 #[.slice a n cap] w fun e w' => e = .returned (.bool true) ∧ Below w.heap.size w w' := by
  have hlen := hv.1
  have HL : Hid (zss.length = n) := hlen
  clear hlen
  go_enter Try.func7, Try.ntmps7
  go_wp2_with (go_at_call 9; refine (shown2_is _).mono ?_; rintro e w0 ⟨rfl, hb0⟩)
  have hs0 := hb0.size
  go_loopw [4, 5] (fun v i wr => ∃ (k : Nat) (bs : List Int), k ≤ n ∧ k ≤ 10 ∧ i = .int .i64 (k : Int) ∧ Hid (bs = joinF (zss.take k)) ∧ bs.length ≤ k * 314 ∧ (∀ z ∈ bs, 0 ≤ z ∧ z ≤ 255) ∧ OW wr w.heap.size v bs ∧ Below w.heap.size w wr) (fun _ i _ => 10 - (intOf i).toNat)
  case atStart => exact ⟨0, [], by omega, by omega, rfl, rfl, by simp, by simp, OW.empty w0 _ hs0 _ rfl, hb0.alloc hs0 _⟩
  case round =>
    obtain ⟨k, bs, hkn, hk10, rfl, HB, hbl, hbb, hown, hbel⟩ := hrel
    by_cases hlt : k < n ∧ k < 10
    · obtain ⟨hlt1, hlt2⟩ := hlt
      have hv1 := hv.below hbel
      rcases hv1.2 with hn | ⟨b, off, rfl, hcell⟩
      · omega
      obtain ⟨x, l, c, hc1, hlc, hcm, hx⟩ := hcell k hlt1
      have hsn : Hid (bs ++ frameL ((zss.getD k []).take 300) = joinF (zss.take (k + 1))) := by
        show _ = _
        rw [HB.out, joinF_snoc _ _ (by rw [HL.out]; omega)]
      obtain ⟨y, m, hm, hy, hyl, HY⟩ := short_of hx
      rw [← HY.out] at hsn
      have hyf := frameL_bytes hy.2.1
      have hfl := frameL_len y
      have hp10 := pv_len10 (x := (y.length : Int)) (by rw [hy.1]; omega)
      obtain ⟨f, hf⟩ : ∃ f, (frameL y).length = f := ⟨_, rfl⟩
      have HF : Hid ((frameL y).length = f) := hf
      have hy1 := hy.1
      have hf3 : f ≤ 314 := by omega
      clear hcell hfl hp10 hf hy1 HY
      go_wp2_with (go_at_call 10; refine (short2_is hx hlc hm.out).mono ?_; rintro e w' ⟨rfl, rfl⟩)
      refine (frame_any _ _ _ _ _ hy (by omega)).mono ?_
      rintro e w1 ⟨v1, rfl, ho1, hb1⟩
      obtain ⟨a1, c1, rfl, -, -, hF1, -⟩ := ho1.bvn hyf f HF.out
      have hown1 := hown.below hb1
      have hw1 := hbel.trans (hb1.mono hbel.size)
      have hs1 := hw1.size
      clear ho1 hb1 hown hbel hx hy hc1
      go_wp2_with (at_builtin; refine append_ow rfl (.tmp 25) (.tmp 31) rfl w.heap.size _ bs rfl hown1 _ f _ (frameL y) rfl hF1 (by omega) hs1 ?_; intro v2 w2 ho2 hb2)
      have hw2 := hw1.trans hb2
      go_roundw
      case rel => exact ⟨k + 1, _, by omega, by omega, by go_num, hsn, by rw [List.length_append, HF.out]; omega, bytes_cat hbb hyf, ho2, hw2⟩
      case measure => simp [intOf]; omega
    · obtain ⟨N, hN⟩ : ∃ N, bs.length = N := ⟨_, rfl⟩
      obtain ⟨av, cv, rfl, hcv, -, hbv, -⟩ := hown.bvn hbb N hN
      have hN3 : N ≤ 3140 := by omega
      have HB0 : Hid (bs = joinF ((zss.take k).drop 0)) := by show _ = _; rw [List.drop_zero]; exact HB.out
      clear hown HB hN
      rcases (show (k < n ∧ ¬ k < 10) ∨ ¬ k < n from by omega) with ⟨hk1, hk2⟩ | hk1
      all_goals
        go_wp2_with fail
        go_loopw [4, 6] (fun v i ws => ∃ (j : Nat) (av : Option Addr) (m cv : Nat) (rest : List Int), j ≤ k ∧ i = .int .i64 (j : Int) ∧ v = .slice av m cv ∧ m ≤ cv ∧ m ≤ 3140 ∧ BV ws av m rest ∧ Hid (rest = joinF ((zss.take k).drop j)) ∧ Below w.heap.size w ws) (fun _ i _ => k - (intOf i).toNat)
        case atStart => exact ⟨0, av, _, cv, bs, by omega, rfl, rfl, hcv, hN3, hbv, HB0, hbel⟩
        case round =>
          clear hbv HB0 hcv hbb hbl
          obtain ⟨j, av, m, cv, rest, hjk, rfl, rfl, hmc, hm3, hbv, HR, hbs⟩ := hrel
          by_cases hj : j < k
          · have hjn : j < n := by omega
            have hj10 : j < 10 := by omega
            have hv1 := hv.below hbs
            rcases hv1.2 with hn | ⟨b, off, rfl, hcell⟩
            · omega
            obtain ⟨x, l, c, hc1, hlc, hcm, hx⟩ := hcell j hjn
            obtain ⟨y, p, hp, hy, hyl, HY⟩ := short_of hx
            have hrest : rest = frameL y ++ joinF ((zss.take k).drop (j + 1)) := by
              rw [HR.out, joinF_cons _ _ (by rw [List.length_take, HL.out]; omega), HY.out]
              congr 3
              simp [List.getD, List.getElem?_take_of_lt hj]
            have hyl' := hy.1
            have hu := unf_frame y (joinF ((zss.take k).drop (j + 1))) (by omega)
            rw [← hrest] at hu
            have hfl := frameL_len y
            have hpp := pv_pos (y.length : Int)
            obtain ⟨f, hf⟩ : ∃ f, (frameL y).length = f := ⟨_, rfl⟩
            rw [hf] at hu hfl
            have HU : Hid (unf rest = (y, (f : Int), 0)) := hu
            have hrl : rest.length = f + (joinF ((zss.take k).drop (j + 1))).length := by rw [hrest, List.length_append, hf]
            rw [hbv.1] at hrl
            obtain ⟨m', hm'⟩ : ∃ m', m = f + m' := ⟨_, hrl⟩
            have hdr : rest.drop f = joinF ((zss.take k).drop (j + 1)) := by rw [hrest, ← hf]; simp
            have hf5 : ¬ (f : Int) < 5 := by omega
            have hfm : ¬ (m : Int) < (f : Int) := by omega
            have hf5d : decide ((f : Int) < 5) = false := decide_eq_false hf5
            have hfmd : decide ((m : Int) < (f : Int)) = false := decide_eq_false hfm
            obtain ⟨b', off', rfl⟩ : ∃ b off, av = some ⟨b, off, none⟩ := by
              rcases hbv.2.2 with h | ⟨b, off, h, _⟩
              · omega
              · exact ⟨b, off, h⟩
            have hsl := fun wx => slice_lo b' off' m cv f m' (f : Int) rfl hm' hmc wx
            have hbd := hbv.behind cv f m' hmc hm'
            rw [hdr] at hbd
            have hm3' : m' ≤ 3140 := by omega
            have hmc' : m' ≤ cv - f := by omega
            have hstr := str_beq hy.2.1 hy.2.1
            rw [decide_eq_true rfl] at hstr
            have HP : Hid (y.length = p) := hyl'
            have hyb := hy.2.1
            clear hcell hu hfl hf hrl hm' hrest hdr HR hyl' HY hpp
            generalize cutA b' off' cv f = aN at *
            go_wp2_with (go_at_call 11; refine (unframe_any _ _ _ _ _ hbv hmc (by omega)).mono ?_; rintro e w4 ⟨v4, rfl, ho4, hb4⟩; rw [HU.out] at ho4; rw [HU.out]; obtain ⟨a4, c4, rfl, -, -, hX4, -⟩ := ho4.bvn hyb p HP.out)
            have hbd4 := hbd.below hb4
            have hc4 : w4.cell? ⟨b, off + j, none⟩ = some (.slice x l c) := by rw [hb4.cell (p := ⟨b, off + j, none⟩) (cell_lt hc1)]; exact hc1
            have hx4 := hx.below hb4
            have hy4 := hy.below hb4
            have hw4 := hbs.trans (hb4.mono hbs.size)
            have hjnI : (j : Int) < (n : Int) := by omega
            clear ho4 hb4 hbd hc1 hx hy hbs hbv HU
            refine wp_region_noPanic ?_
            refine wp_region_held_drew (S := Ext (World.drew _)) (by kernel_rfl) (Ext.refl _) (fun hS => ?_)
            refine take_at (i := 0) (v := ?_) (some 49) rfl (by kernel_rfl) (by kernel_rfl) (by kernel_rfl) rfl (fun _ _ _ h => h) (Or.inl ⟨by rfl, ?_⟩) hS ?_
            rotate_left
            · (intro wq hq; go_simp); first | done | with_reducible rfl
            try simp only [Act.put, List.setIfInBounds_toArray, List.set_cons_zero, List.set_cons_succ]
            refine take_at (i := 1) (v := ?_) (some 50) rfl (by kernel_rfl) (by kernel_rfl) (by kernel_rfl) rfl (fun _ _ _ h => h) (Or.inl ⟨by rfl, ?_⟩) hS ?_
            rotate_left
            · (intro wq hq; go_simp); first | done | with_reducible rfl
            try simp only [Act.put, List.setIfInBounds_toArray, List.set_cons_zero, List.set_cons_succ]
            refine take_at (i := 2) (v := ?_) (some 51) rfl (by kernel_rfl) (by kernel_rfl) (by kernel_rfl) rfl (fun _ _ _ h => h) (Or.inl ⟨by rfl, ?_⟩) hS ?_
            rotate_left
            · (intro wq hq; go_simp); first | done | with_reducible rfl
            try simp only [Act.put, List.setIfInBounds_toArray, List.set_cons_zero, List.set_cons_succ]
            refine take_at (i := 3) (v := ?_) (some 52) rfl (by kernel_rfl) (by kernel_rfl) (by kernel_rfl) rfl (fun _ _ _ h => h) (Or.inl ⟨by rfl, ?_⟩) hS ?_
            rotate_left
            · (intro wq hq; go_simp); first | done | with_reducible rfl
            try simp only [Act.put, List.setIfInBounds_toArray, List.set_cons_zero, List.set_cons_succ]
            refine take_at (i := 4) (v := ?_) (some 53) rfl (by kernel_rfl) (by kernel_rfl) (by kernel_rfl) rfl (fun _ _ _ h => h) (Or.inl ⟨by rfl, ?_⟩) hS ?_
            rotate_left
            · (intro wq hq; have hk := conv_any (hX4.ext hq) c4; go_simp); first | done | with_reducible rfl
            try simp only [Act.put, List.setIfInBounds_toArray, List.set_cons_zero, List.set_cons_succ]
            refine take_at (i := 5) (v := ?_) (some 54) rfl (by kernel_rfl) (by kernel_rfl) (by kernel_rfl) rfl (fun _ _ _ h => h) (Or.inl ⟨by rfl, ?_⟩) hS ?_
            rotate_left
            · (intro wq hq; go_simp); first | done | with_reducible rfl
            try simp only [Act.put, List.setIfInBounds_toArray, List.set_cons_zero, List.set_cons_succ]
            refine take_at (i := 6) (v := ?_) (some 55) rfl (by kernel_rfl) (by kernel_rfl) (by kernel_rfl) rfl (fun _ _ _ h => h) (Or.inl ⟨by rfl, ?_⟩) hS ?_
            rotate_left
            · (intro wq hq; go_simp); first | done | with_reducible rfl
            try simp only [Act.put, List.setIfInBounds_toArray, List.set_cons_zero, List.set_cons_succ]
            refine take_at (i := 7) (v := ?_) (some 56) rfl (by kernel_rfl) (by kernel_rfl) (by kernel_rfl) rfl (fun _ _ _ h => h) (Or.inl ⟨by rfl, ?_⟩) hS ?_
            rotate_left
            · (intro wq hq; go_simp); first | done | with_reducible rfl
            try simp only [Act.put, List.setIfInBounds_toArray, List.set_cons_zero, List.set_cons_succ]
            refine take_at (i := 8) (v := ?_) (some 57) rfl (by kernel_rfl) (by kernel_rfl) (by kernel_rfl) rfl (fun _ _ _ h => h) (Or.inl ⟨by rfl, ?_⟩) hS ?_
            rotate_left
            · (intro wq hq; have hk := hq _ _ _ hc4; go_simp); first | done | with_reducible rfl
            try simp only [Act.put, List.setIfInBounds_toArray, List.set_cons_zero, List.set_cons_succ]
            refine wpAnyH_ready (rs := [9]) (by kernel_rfl) (by simp) ?_
            refine AllReadyH.cons rfl (fun K hK => ?_) AllReadyH.nil
            go_simp
            refine (short2_is hx4.drew hlc hp.out).mono ?_
            rintro e w' ⟨rfl, rfl⟩
            refine hK.out _ _ (Ext.refl _) (fun hS0 => ?_)
            clear hK K
            try simp only [Act.put, List.setIfInBounds_toArray, List.set_cons_zero, List.set_cons_succ]
            clear hS
            refine held_now hS0 (fun hS => ?_)
            clear hS0
            refine take_at (i := 10) (v := ?_) (some 59) rfl (by kernel_rfl) (by kernel_rfl) (by kernel_rfl) rfl (fun _ _ _ h => h) (Or.inl ⟨by rfl, ?_⟩) hS ?_
            rotate_left
            · (intro wq hq; have hk := conv_any (hy4.ext hq) c; go_simp); first | done | with_reducible rfl
            try simp only [Act.put, List.setIfInBounds_toArray, List.set_cons_zero, List.set_cons_succ]
            refine take_at (i := 11) (v := ?_) (some 60) rfl (by kernel_rfl) (by kernel_rfl) (by kernel_rfl) rfl (fun _ _ _ h => h) (Or.inl ⟨by rfl, ?_⟩) hS ?_
            rotate_left
            · (intro wq hq; go_simp); first | done | with_reducible rfl
            try simp only [Act.put, List.setIfInBounds_toArray, List.set_cons_zero, List.set_cons_succ]
            refine take_at (i := 12) (v := ?_) (some 61) rfl (by kernel_rfl) (by kernel_rfl) (by kernel_rfl) rfl (fun _ _ _ h => h) (Or.inl ⟨by rfl, ?_⟩) hS ?_
            rotate_left
            · (intro wq hq; go_simp); first | done | with_reducible rfl
            try simp only [Act.put, List.setIfInBounds_toArray, List.set_cons_zero, List.set_cons_succ]
            refine take_at (i := 13) (v := ?_) (some 62) rfl (by kernel_rfl) (by kernel_rfl) (by kernel_rfl) rfl (fun _ _ _ h => h) (Or.inl ⟨by rfl, ?_⟩) hS ?_
            rotate_left
            · (intro wq hq; go_simp); first | done | with_reducible rfl
            try simp only [Act.put, List.setIfInBounds_toArray, List.set_cons_zero, List.set_cons_succ]
            refine take_at (i := 14) (v := ?_) (some 63) rfl (by kernel_rfl) (by kernel_rfl) (by kernel_rfl) rfl (fun _ _ _ h => h) (Or.inl ⟨by rfl, ?_⟩) hS ?_
            rotate_left
            · (intro wq hq; go_simp); first | done | with_reducible rfl
            try simp only [Act.put, List.setIfInBounds_toArray, List.set_cons_zero, List.set_cons_succ]
            refine take_at (i := 15) (v := ?_) (some 64) rfl (by kernel_rfl) (by kernel_rfl) (by kernel_rfl) rfl (fun _ _ _ h => h) (Or.inl ⟨by rfl, ?_⟩) hS ?_
            rotate_left
            · (intro wq hq; go_simp); first | done | with_reducible rfl
            try simp only [Act.put, List.setIfInBounds_toArray, List.set_cons_zero, List.set_cons_succ]
            refine take_at (i := 16) (v := ?_) (some 65) rfl (by kernel_rfl) (by kernel_rfl) (by kernel_rfl) rfl (fun _ _ _ h => h) (Or.inl ⟨by rfl, ?_⟩) hS ?_
            rotate_left
            · (intro wq hq; go_simp); first | done | with_reducible rfl
            try simp only [Act.put, List.setIfInBounds_toArray, List.set_cons_zero, List.set_cons_succ]
            refine take_at (i := 17) (v := ?_) (some 66) rfl (by kernel_rfl) (by kernel_rfl) (by kernel_rfl) rfl (fun _ _ _ h => h) (Or.inl ⟨by rfl, ?_⟩) hS ?_
            rotate_left
            · (intro wq hq; go_simp); first | done | with_reducible rfl
            try simp only [Act.put, List.setIfInBounds_toArray, List.set_cons_zero, List.set_cons_succ]
            refine take_at (i := 18) (v := ?_) (some 67) rfl (by kernel_rfl) (by kernel_rfl) (by kernel_rfl) rfl (fun _ _ _ h => h) (Or.inl ⟨by rfl, ?_⟩) hS ?_
            rotate_left
            · (intro wq hq; go_simp); first | done | with_reducible rfl
            try simp only [Act.put, List.setIfInBounds_toArray, List.set_cons_zero, List.set_cons_succ]
            refine take_at (i := 19) (v := ?_) (some 68) rfl (by kernel_rfl) (by kernel_rfl) (by kernel_rfl) rfl (fun _ _ _ h => h) (Or.inl ⟨by rfl, ?_⟩) hS ?_
            rotate_left
            · (intro wq hq; go_simp); first | done | with_reducible rfl
            try simp only [Act.put, List.setIfInBounds_toArray, List.set_cons_zero, List.set_cons_succ]
            refine take_at (i := 20) (v := ?_) (some 69) rfl (by kernel_rfl) (by kernel_rfl) (by kernel_rfl) rfl (fun _ _ _ h => h) (Or.inl ⟨by rfl, ?_⟩) hS ?_
            rotate_left
            · (intro wq hq; go_simp); first | done | with_reducible rfl
            try simp only [Act.put, List.setIfInBounds_toArray, List.set_cons_zero, List.set_cons_succ]
            refine take_at (i := 21) (v := ?_) (some 70) rfl (by kernel_rfl) (by kernel_rfl) (by kernel_rfl) rfl (fun _ _ _ h => h) (Or.inl ⟨by rfl, ?_⟩) hS ?_
            rotate_left
            · (intro wq hq; go_simp); first | done | with_reducible rfl
            try simp only [Act.put, List.setIfInBounds_toArray, List.set_cons_zero, List.set_cons_succ]
            refine take_at (i := 22) (v := ?_) (some 71) rfl (by kernel_rfl) (by kernel_rfl) (by kernel_rfl) rfl (fun _ _ _ h => h) (Or.inl ⟨by rfl, ?_⟩) hS ?_
            rotate_left
            · (intro wq hq; go_simp); first | done | with_reducible rfl
            try simp only [Act.put, List.setIfInBounds_toArray, List.set_cons_zero, List.set_cons_succ]
            refine wpAnyH_done (by kernel_rfl) (NoPanic.normal ?_) _
            clear hS
            go_wp2_with fail
            go_roundw
            case rel => exact ⟨j + 1, aN, m', _, _, by omega, by go_num, rfl, hmc', hm3', hbd4.drew, rfl, hw4.drew⟩
            case measure => simp [intOf]; omega
          · have hjk' : j = k := by omega
            subst hjk'
            have hm0 : m = 0 := by
              have h1 := hbv.1
              rw [HR.out, List.drop_eq_nil_of_le (List.length_take_le _ _)] at h1
              exact h1.symm
            subst hm0
            have hr0 : rest = [] := List.eq_nil_of_length_eq_zero hbv.1
            subst hr0
            clear hj hjk
            go_wp2_with (go_at_call 11; refine (unframe_any _ _ _ _ _ hbv hmc (by omega)).mono ?_; rintro e w4 ⟨v4, rfl, ho4, hb4⟩; rw [unf_nil] at ho4; rw [unf_nil])
            go_ret
            exact ⟨rfl, hbs.trans (hb4.mono hbs.size)⟩
end Go.Proofs.Ytfdkocpplhkccaa
