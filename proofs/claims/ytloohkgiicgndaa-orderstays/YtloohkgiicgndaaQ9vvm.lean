/-
  OrderStays: for every shape and every list of rows the statement's function returns true, and its arguments read as they did. No condition.
-/
import Derived.Test.YtloohkgiicgndaaOrdF
import Derived.Test.YtloohkgiicgndaaRows
import Derived.WalkKit
import Derived.ProofKit
import Derived.OpenShut
import Derived.ShutString
import Derived.ChangeOld
import Derived.Below
import Derived.Test.YtloohkgiicgndaaSchC
/- OrderStays: the walk. -/
namespace Go.Proofs.Ytloohkgiicgndaa
open Go.ChangeShapes Go.WideShapes Go.ChangeAt Go.RowKit
set_option linter.unusedVariables false
set_option maxRecDepth 4000

/-- those that are not seen yet -/
def unseenL : List RowV → List Bool → List RowV
  | r :: rs, b :: bs => if b = true then unseenL rs bs else r :: unseenL rs bs
  | _, _ => []
theorem unseen_new : ∀ (l : List RowV), unseenL l (List.replicate l.length false) = l
  | [] => rfl
  | r :: l => by rw [List.length_cons, List.replicate_succ, unseenL, if_neg (by simp), unseen_new l]
theorem unseen_see : ∀ (l : List RowV) (bs : List Bool) (k : Nat), k < l.length → k < bs.length → bs.getD k true = false → (unseenL l bs).Perm (l.getD k [] :: unseenL l (bs.set k true))
  | [], _, k, h, _, _ => by simp at h
  | r :: l, [], k, _, h, _ => by simp at h
  | r :: l, b :: bs, 0, _, _, h => by
    have hb : b = false := h
    subst hb
    rw [unseenL, if_neg (by simp), List.set_cons_zero, unseenL, if_pos rfl]
    exact List.Perm.refl _
  | r :: l, b :: bs, k + 1, h1, h2, h => by
    have ih := unseen_see l bs k (by simpa using h1) (by simpa using h2) h
    rw [List.set_cons_succ, unseenL, unseenL]
    split
    · exact ih
    · exact (ih.cons r).trans (List.Perm.swap _ _ _)
theorem unseen_mem : ∀ (l : List RowV) (bs : List Bool) (x : RowV), x ∈ unseenL l bs → ∃ k, k < l.length ∧ k < bs.length ∧ bs.getD k true = false ∧ l.getD k [] = x
  | [], _, _, h => by cases h
  | r :: l, [], _, h => by cases h
  | r :: l, b :: bs, x, h => by
    rw [unseenL] at h
    split at h
    · obtain ⟨k, h1, h2, h3, h4⟩ := unseen_mem l bs x h
      exact ⟨k + 1, by simpa using h1, by simpa using h2, h3, h4⟩
    · rename_i hb
      rcases List.mem_cons.1 h with rfl | h
      · exact ⟨0, by simp, by simp, by simpa using hb, rfl⟩
      · obtain ⟨k, h1, h2, h3, h4⟩ := unseen_mem l bs x h
        exact ⟨k + 1, by simpa using h1, by simpa using h2, h3, h4⟩
/-- what has been looked at for x so far -/
def SeekP (fs : List RowV) (bs bs' : List Bool) (x : RowV) (rest : List RowV) (k : Nat) (f : Bool) : Prop :=
  bs'.length = bs.length ∧ ((f = false ∧ bs' = bs ∧ ∀ i, i < k → ¬ (bs.getD i true = false ∧ fs.getD i [] = x)) ∨ (f = true ∧ (unseenL fs bs').Perm rest))
theorem SeekP.start (fs : List RowV) (bs : List Bool) (x : RowV) (rest : List RowV) : SeekP fs bs bs x rest 0 false := ⟨rfl, .inl ⟨rfl, rfl, fun i h => by omega⟩⟩
theorem SeekP.next {fs : List RowV} {bs bs' : List Bool} {x : RowV} {rest : List RowV} {k : Nat} (h : SeekP fs bs bs' x rest k false) (hn : ¬ (bs'.getD k true = false ∧ fs.getD k [] = x)) : SeekP fs bs bs' x rest (k + 1) false := by
  obtain ⟨h0, h⟩ := h
  rcases h with ⟨-, rfl, h2⟩ | ⟨h, -⟩
  · refine ⟨h0, .inl ⟨rfl, rfl, fun i hi => ?_⟩⟩
    by_cases e : i = k
    · subst e; exact hn
    · exact h2 i (by omega)
  · cases h
theorem SeekP.hit {fs : List RowV} {bs bs' : List Bool} {x : RowV} {rest : List RowV} {k : Nat} (h : SeekP fs bs bs' x rest k false) (hp : (unseenL fs bs).Perm (x :: rest)) (hk : k < fs.length) (hk' : k < bs.length) (h1 : bs'.getD k true = false) (h2 : fs.getD k [] = x) : SeekP fs bs (bs'.set k true) x rest (k + 1) true := by
  obtain ⟨h0, h⟩ := h
  rcases h with ⟨-, rfl, -⟩ | ⟨h, -⟩
  · refine ⟨by simp, .inr ⟨rfl, ?_⟩⟩
    have h3 := unseen_see fs bs' k hk hk' h1
    rw [h2] at h3
    exact (List.perm_cons x).1 (h3.symm.trans hp)
  · cases h
theorem SeekP.fail {fs : List RowV} {bs bs' : List Bool} {x : RowV} {rest : List RowV} (h : SeekP fs bs bs' x rest fs.length false) (hp : (unseenL fs bs).Perm (x :: rest)) : False := by
  obtain ⟨h0, h⟩ := h
  rcases h with ⟨-, rfl, h2⟩ | ⟨h, -⟩
  · obtain ⟨k, k1, k2, k3, k4⟩ := unseen_mem fs bs' x (hp.mem_iff.2 (List.mem_cons_self ..))
    exact h2 k k1 ⟨k3, k4⟩
  · cases h
theorem SeekP.got {fs : List RowV} {bs bs' : List Bool} {x : RowV} {rest : List RowV} {k : Nat} (h : SeekP fs bs bs' x rest k true) : bs'.length = bs.length ∧ (unseenL fs bs').Perm rest := by
  obtain ⟨h0, h⟩ := h
  rcases h with ⟨h, -⟩ | ⟨-, h⟩
  · cases h
  · exact ⟨h0, h⟩
def bools (bs : List Bool) : Array Value := (bs.map Value.bool).toArray
theorem bools_at {bs : List Bool} {k : Nat} (h : k < bs.length) : (bools bs)[k]? = some (.bool (bs.getD k true)) := by
  simp [bools, List.getD, h]
theorem bools_set (bs : List Bool) (k : Nat) : (bools bs).setIfInBounds k (.bool true) = bools (bs.set k true) := by
  unfold bools
  rw [List.setIfInBounds_toArray, List.map_set]
theorem make_bools (N : Nat) (h : N ≤ 1000000) (w : World) : (Instr.makeSlice 40 (.int .i64 (N : Int)) (.int .i64 (N : Int))).run Try.prog w = .ok (.slice (some ⟨w.heap.size, 0, none⟩) N N) (w.alloc (.cells (bools (List.replicate N false)) 4)) := by
  have := run_make_row' (P := Try.prog) 40 4 (.bool false) 1 Try.underlying40 (by kernel_rfl) rfl .i64 .i64 N (by omega) (by omega) w
  have e : madeCells #[Value.bool false] N = bools (List.replicate N false) := by
    refine Array.ext' ?_
    simp [madeCells, bools]
    refine List.ext_getElem (by simp) (fun i h1 h2 => ?_)
    simp [Nat.mod_one]
  rw [e] at this
  exact this
set_option maxRecDepth 4000 in
set_option maxHeartbeats 16000000 in
theorem stays9_is {l0 l1 l2 l3 l4 l5 l6 l7 n keys mode grain : Int} (h : ShW l0 l1 l2 l3 l4 l5 l6 l7 n keys mode grain) (R : Option Addr) (nr cr : Nat) (vss : List RowV) (w : World)
    (hr : RVs w R nr vss) (hnr : nr ≤ maxLen) (hg : ∀ v ∈ vss, RgV v) :
    Calls Try.prog 4 #[ShV l0 l1 l2 l3 l4 l5 l6 l7 n keys mode grain, .slice R nr cr] w fun e w' => e = .returned (.bool true) ∧ Below w.heap.size w w' := by
  go_enter Try.func4, Try.ntmps4
  go_wp2_with fail
  refine (shown9_is _).mono ?_
  rintro e w1 ⟨rfl, hb1⟩
  have t1 := (Bk.new w (shC l0 l1 l2 l3 l4 l5 l6 l7 n keys mode grain) 24).below hb1
  have hw1 := after1 hb1
  have hr := hr.below hw1
  clear hb1
  obtain ⟨⟨x0, x1, x2, x3⟩, ⟨x4, x5, x6, x7⟩, ⟨x8, x9, x10, x11⟩⟩ := t1.shape
  go_wp2_with fail
  refine (made9_good h _).mono ?_
  rintro e w2 ⟨A, N, C, K, m, g, ts, rfl, hk, hN, ho, hb2⟩
  clear x0 x1 x2 x3 x4 x5 x6 x7 x8 x9 x10 x11 t1
  obtain ⟨_, _, hA, hC1, hC2, hv, -⟩ := ho.sv
  cases hA
  have hkk := Lib.hid (MadeG.keys hk)
  have hty : Hid (Ty ts) := Lib.hid (check_is hk).2.2.2.2.2.2.2.2
  have hlt := Lib.hid (IV.len hv)
  have hx := Sx.new w2 A N C K m g 31
  have hr := (hr.below hb2).alloc (.cells #[.slice A N C, .int .i64 K, .int .i64 m, .int .i64 g] 31)
  have hv := hv.alloc (.cells #[.slice A N C, .int .i64 K, .int .i64 m, .int .i64 g] 31)
  have hw := (Below.then hw1 hb2).alloc (by have := (Below.then hw1 hb2).size; omega) (.cells #[.slice A N C, .int .i64 K, .int .i64 m, .int .i64 g] 31)
  have hN1 : N ≤ maxLen := few_max (by omega)
  have hK1 : K ≤ maxLen := few_max (by have := hkk.out; omega)
  obtain ⟨c0, c1, c2, c3⟩ := id hx
  go_wp2_with fail
  clear c0 c1 c2 c3
  generalize w2.alloc (.cells #[.slice A N C, .int .i64 K, .int .i64 m, .int .i64 g] 31) = w3 at *
  generalize w2.heap.size = bs at *
  clear ho hb2 hw1 hk
  have hF := fitsL_fr hty.out hg 60
  have hfl := fitsL_len ts vss 60
  obtain ⟨fs, hfs⟩ : ∃ fs, fitsL ts vss 60 = fs := ⟨_, rfl⟩
  refine (fits_rows A N C ts K m g R nr cr vss 60 w3 hv (by omega) hr hnr (by omega)).mono ?_
  rw [hfs] at hF hfl ⊢
  rintro e w4 ⟨j, v4, rfl, hj, o4, hb4⟩
  have hv4 := hv.below hb4
  have hx4 := hx.below hb4
  have hw4 := Below.then hw hb4
  obtain ⟨a4, c4, rfl, rv4⟩ := o4.rvs
  clear hv hx hw hb4 o4 hr hfs
  obtain ⟨qs, hq1, hq2, hq3⟩ := rv4.pairs
  have HQ := Lib.hid hq2
  clear hq2
  have o0 := OS.lit (k := 1) w4 w4.heap.size (Nat.le_refl _) [] 0 27 rfl (by simp) (by simp) _ rfl
  go_wp2_with (refine append_os2 el_rows rfl (.tmp 24) (.tmp 25) rfl w4.heap.size _ 0 [] rfl o0 a4 j c4 (pc qs) rfl (hq1.alloc _) (by omega) (by omega) (by simp) ?_; intro v5 w5 ho5 hb5 _ _; rw [Nat.zero_add, List.nil_append] at ho5; have hbW := (Joins.below_alloc1 w4 (.cells #[] 27)).trans hb5; obtain ⟨c0, c1, c2, c3⟩ := hx4.below hbW)
  clear c0 c1 c2 c3 o0
  obtain ⟨aO, cO, rfl, -, -, svO, -⟩ := OS.sv ho5
  have rvO := RVs.of svO (PR.below hq3 hbW)
  rw [HQ.out] at rvO
  have hv5 := hv4.below hbW
  have hx5 := hx4.below hbW
  have rv5 := rv4.below hbW
  have hw5 := Below.then hw4 hbW
  clear hv4 hx4 rv4 hw4 hbW hb5 ho5 svO hq1 hq3 HQ
  refine (osort_any A N C ts K m g a4 j c4 fs w5 hv5 hN1 hK1 hty.out rv5 (by omega) hF).mono ?_
  rintro e w6 ⟨gs, rfl, rv6, -, hb6⟩
  have hv6 := hv5.below hb6
  have hx6 := hx5.below hb6
  have rf6 := rv5.below hb6
  have rvO6 := rvO.below hb6
  have hw6 := Below.then hw5 hb6
  have hperm : (sortA (cN ts K) fs).Perm fs := sortA_perm fs
  have HI : Hid (InA (cN ts K) (sortA (cN ts K) fs) ∧ ∀ v ∈ sortA (cN ts K) fs, FR ts v) := ⟨sortA_in (cN_ord hty.out K).a _, sorted_fr hF⟩
  clear hv5 hx5 rv5 rvO hw5 hb6 hF
  generalize sortA (cN ts K) fs = l at *
  have HPM := Lib.hid hperm
  have hll := Lib.hid rv6.1
  have hlf := Lib.hid rf6.1
  clear hperm
  go_wp2_with fail
  refine (rrows_any a4 j c4 fs aO j cO fs _ rf6 rvO6 (few_max (by omega)) (few_max (by omega))).mono ?_
  rw [decide_eq_true (rfl : fs = fs)]
  rintro e w7 ⟨rfl, hb7⟩
  have hv7 := hv6.below hb7
  have hx7 := hx6.below hb7
  have rf7 := rf6.below hb7
  have rv7 := rv6.below hb7
  have hw7 := Below.then hw6 hb7
  clear hv6 hx6 rf6 rv6 rvO6 hw6 hb7
  obtain ⟨c0, c1, c2, c3⟩ := id hx7
  go_wp2_with fail
  clear c0 c1 c2 c3
  refine (osort_any A N C ts K m g _ j j l w7 hv7 hN1 hK1 hty.out rv7 (by omega) HI.out.2).mono ?_
  rw [sortA_id l HI.out.1]
  rintro e w8 ⟨g8, rfl, rb8, -, hb8⟩
  have hv8 := hv7.below hb8
  have hx8 := hx7.below hb8
  have rf8 := rf7.below hb8
  have rv8 := rv7.below hb8
  have hw8 := Below.then hw7 hb8
  clear hv7 hx7 rf7 rv7 hw7 hb8
  go_wp2_with fail
  refine (rrows_any _ j j l _ j j l _ rv8 rb8 (few_max (by omega)) (few_max (by omega))).mono ?_
  rw [decide_eq_true (rfl : l = l)]
  rintro e w9 ⟨rfl, hb9⟩
  have hv9 := hv8.below hb9
  have hx9 := hx8.below hb9
  have rf9 := rf8.below hb9
  have rv9 := rv8.below hb9
  have hw9 := Below.then hw8 hb9
  clear hv8 hx8 rf8 rv8 rb8 hw8 hb9
  have hmk := make_bools j (by omega)
  have nb := Bk.new w9 (bools (List.replicate j false)) 4
  have hbn := Joins.below_alloc1 w9 (.cells (bools (List.replicate j false)) 4)
  go_wp2_with fail
  clear hmk
  go_loopw [14] (fun vi wr => ∃ (i : Nat) (bs : List Bool), vi = .int .i64 (i : Int) ∧ i ≤ j ∧ Bk wr w9.heap.size (bools bs) 4 ∧ Below w9.heap.size w9 wr ∧ Hid (bs.length = j ∧ (unseenL fs bs).Perm (l.drop i))) (fun vi _ => j - (intOf vi).toNat)
  case atStart => exact ⟨0, _, rfl, by omega, nb, hbn, ⟨by simp, by have := unseen_new fs; rw [hlf.out] at this; rw [this, List.drop_zero]; exact HPM.out.symm⟩⟩
  case round =>
    clear nb hbn
    obtain ⟨i, bs, rfl, hi, nb, hbi, HP⟩ := hrel
    by_cases hlt : i < j
    · have hii : (i : Int) < (j : Int) := by omega
      obtain ⟨x, hxe⟩ : ∃ x, l.getD i [] = x := ⟨_, rfl⟩
      have hil : i < l.length := by rw [hll.out]; exact hlt
      have HP2 : Hid ((unseenL fs bs).Perm (x :: l.drop (i + 1))) := by
        have := HP.out.2
        rw [List.drop_eq_getElem_cons hil] at this
        have e : l[i] = x := by rw [← hxe]; simp [List.getD, hil]
        rwa [e] at this
      have HBL := Lib.hid HP.out.1
      have w1' : IntKind.i64.wrap ((i : Int) + 1) = ((i + 1 : Nat) : Int) := by rw [IntKind.wrap_i64]; omega
      clear hil HP
      go_wp2_with fail
      go_loopw [15, 16] (fun vf vk wr => ∃ (k : Nat) (f : Bool) (bs' : List Bool), vf = .bool f ∧ vk = .int .i64 (k : Int) ∧ k ≤ j ∧ Bk wr w9.heap.size (bools bs') 4 ∧ Below w9.heap.size w9 wr ∧ Hid (SeekP fs bs bs' x (l.drop (i + 1)) k f)) (fun _ vk _ => j - (intOf vk).toNat)
      case atStart => exact ⟨0, false, bs, rfl, rfl, by omega, nb, hbi, SeekP.start _ _ _ _⟩
      case round =>
        clear nb hbi
        obtain ⟨k, f, bs', rfl, rfl, hk, nb, hbi, HK⟩ := hrel
        cases f
        · by_cases hkj : k < j
          · have hki : (k : Int) < (j : Int) := by omega
            have w2' : IntKind.i64.wrap ((k : Int) + 1) = ((k + 1 : Nat) : Int) := by rw [IntKind.wrap_i64]; omega
            obtain ⟨b1, o1, A1, L1, C1, e1, hc1, hL1, hw1⟩ := rv9.at i hlt
            cases e1
            rw [Nat.zero_add] at hc1
            obtain ⟨b2, o2, A2, L2, C2, e2, hc2, hL2, hw2⟩ := rf9.at k hkj
            have hc1 := keepc hc1 hbi
            have hc2 := keepc hc2 hbi
            rw [hxe] at hw1
            have cc := one_any A1 L1 C1 x A2 L2 C2 (fs.getD k []) wr.drew (hw1.below hbi.drew) (hw2.below hbi.drew) hL1 hL2
            obtain ⟨y, hye⟩ : ∃ y, fs.getD k [] = y := ⟨_, rfl⟩
            rw [hye] at cc
            have HYE := Lib.hid hye
            have hbl : Hid (k < bs'.length) := by show _ < _; rw [HK.out.1, HBL.out]; exact hkj
            subst e2
            clear hw1 hw2 hye
            go_wp2_with fail
            refine wp_region_noPanic ?_
            refine region_g 8 (Ext (World.drew _)) (by kernel_rfl) (Ext.refl _) (fun hS => ?_)
            refine take_w (i := 0) (v := ?_) (some 58) rfl (by kernel_rfl) rfl (fun _ _ _ h => h) (Or.inl ⟨by rfl, ?_⟩) hS ?_
            rotate_left
            · (intro wq hq; go_simp); first | done | with_reducible rfl
            try simp only [Act.put, List.setIfInBounds_toArray, List.set_cons_zero, List.set_cons_succ]
            replace hS := Till.list 0 hS
            refine take_w (i := 1) (v := ?_) (some 59) rfl (by kernel_rfl) rfl (fun _ _ _ h => h) (Or.inl ⟨by rfl, ?_⟩) hS ?_
            rotate_left
            · (intro wq hq; go_simp); first | done | with_reducible rfl
            try simp only [Act.put, List.setIfInBounds_toArray, List.set_cons_zero, List.set_cons_succ]
            replace hS := Till.list 1 hS
            refine take_w (i := 4) (v := ?_) (some 62) rfl (by kernel_rfl) rfl (fun _ _ _ h => h) (Or.inl ⟨by rfl, ?_⟩) hS ?_
            rotate_left
            · (intro wq hq; go_simp); first | done | with_reducible rfl
            try simp only [Act.put, List.setIfInBounds_toArray, List.set_cons_zero, List.set_cons_succ]
            replace hS := Till.list 4 hS
            refine take_w (i := 5) (v := ?_) (some 63) rfl (by kernel_rfl) rfl (fun _ _ _ h => h) (Or.inl ⟨by rfl, ?_⟩) hS ?_
            rotate_left
            · (intro wq hq; go_simp); first | done | with_reducible rfl
            try simp only [Act.put, List.setIfInBounds_toArray, List.set_cons_zero, List.set_cons_succ]
            replace hS := Till.list 5 hS
            refine take_w (i := 2) (v := ?_) (some 60) rfl (by kernel_rfl) rfl (fun _ _ _ h => h) (Or.inl ⟨by rfl, ?_⟩) hS ?_
            rotate_left
            · (intro wq hq; go_simp); first | done | with_reducible rfl
            try simp only [Act.put, List.setIfInBounds_toArray, List.set_cons_zero, List.set_cons_succ]
            replace hS := Till.list 2 hS
            refine take_w (i := 6) (v := ?_) (some 64) rfl (by kernel_rfl) rfl (fun _ _ _ h => h) (Or.inl ⟨by rfl, ?_⟩) hS ?_
            rotate_left
            · (intro wq hq; go_simp); first | done | with_reducible rfl
            try simp only [Act.put, List.setIfInBounds_toArray, List.set_cons_zero, List.set_cons_succ]
            replace hS := Till.list 6 hS
            refine take_g (i := 3) (v := ?_) [3] (some 61) rfl (by kernel_rfl) rfl (fun _ _ _ h => h) (Or.inl ⟨by rfl, ?_⟩) hS ?_
            rotate_left
            · (intro wq hq; have q0 := hq _ _ _ hc1; have q1 := hq _ _ _ hc2; go_simp); first | done | with_reducible rfl
            try simp only [Act.put, List.setIfInBounds_toArray, List.set_cons_zero, List.set_cons_succ]
            replace hS := Till.list 3 hS
            refine take_g (i := 7) (v := ?_) [7] (some 65) rfl (by kernel_rfl) rfl (fun _ _ _ h => h) (Or.inl ⟨by rfl, ?_⟩) hS ?_
            rotate_left
            · (intro wq hq; have q0 := hq _ _ _ hc1; have q1 := hq _ _ _ hc2; go_simp); first | done | with_reducible rfl
            try simp only [Act.put, List.setIfInBounds_toArray, List.set_cons_zero, List.set_cons_succ]
            replace hS := Till.list 7 hS
            refine ready_g (rs := [8]) (by kernel_rfl) (by simp) ?_
            refine AllReadyG.cons rfl (fun Kont hK => ?_) AllReadyG.nil
            go_simp
            refine cc.mono ?_
            rintro e w10 ⟨rfl, hb10⟩
            refine hK.out _ _ (Or.inl (by kernel_rfl)) (fun hS0 => ?_)
            clear hK Kont
            try simp only [Act.put, List.setIfInBounds_toArray, List.set_cons_zero, List.set_cons_succ]
            clear hS
            have hS := hS0
            clear hS0
            refine take_w (i := 9) (v := ?_) (some 17) rfl (by kernel_rfl) rfl (fun _ _ _ h => h) (Or.inl ⟨by rfl, ?_⟩) hS ?_
            rotate_left
            · (intro wq hq; go_simp); first | done | with_reducible rfl
            try simp only [Act.put, List.setIfInBounds_toArray, List.set_cons_zero, List.set_cons_succ]
            replace hS := Till.list 9 hS
            refine done_g (by kernel_rfl) (NoPanic.normal ?_) _
            clear hS
            have nb2 := Bk.low (w := wr.drew) nb hb10 nb.lt
            have hbi2 := Below.then hbi.drew hb10
            have hcs := nb2.cell k (bools_at hbl.out)
            have hfs := nb2.free k
            clear hc1 hc2 cc nb hbi hb10
            by_cases hxy : x = y
            · rw [decide_eq_true hxy]
              cases hsk : bs'.getD k true
              · have HK2 := Lib.hid (HK.out.hit HP2.out (by rw [hlf.out]; exact hkj) (by rw [HBL.out]; exact hkj) hsk (by rw [HYE.out, hxy]))
                have nb3 := nb2.set k (.bool true)
                rw [bools_set] at nb3
                have hbi3 := hbi2.setCell (p := ⟨w9.heap.size, k, none⟩) (Nat.le_refl _) (.bool true)
                rw [hsk] at hcs
                clear hsk hxy
                go_wp2_with fail
                go_roundw
                case rel => exact ⟨k + 1, true, _, rfl, by go_num, by omega, nb3, hbi3, HK2⟩
                case measure => simp [intOf]; omega
              · have HK2 := Lib.hid (HK.out.next (by rw [hsk]; simp))
                rw [hsk] at hcs
                clear hsk hxy
                go_wp2_with fail
                go_roundw
                case rel => exact ⟨k + 1, false, bs', rfl, by go_num, by omega, nb2, hbi2, HK2⟩
                case measure => simp [intOf]; omega
            · have HK2 := Lib.hid (HK.out.next (by rw [HYE.out]; exact fun q => hxy q.2.symm))
              rw [decide_eq_false hxy]
              clear hxy
              go_wp2_with fail
              go_roundw
              case rel => exact ⟨k + 1, false, bs', rfl, by go_num, by omega, nb2, hbi2, HK2⟩
              case measure => simp [intOf]; omega
          · exact absurd (show SeekP fs bs bs' x (l.drop (i + 1)) fs.length false by rw [hlf.out, show j = k by omega]; exact HK.out) (fun q => q.fail HP2.out)
        · have HK2 := Lib.hid HK.out.got
          by_cases hkj : k < j
          · have hki : (k : Int) < (j : Int) := by omega
            go_wp2_with fail
            go_roundw
            case rel => exact ⟨i + 1, bs', by go_num, by omega, nb, hbi, ⟨HK2.out.1.trans HBL.out, HK2.out.2⟩⟩
            case measure => simp [intOf]; omega
          · have hki : ¬ (k : Int) < (j : Int) := by omega
            go_wp2_with fail
            go_roundw
            case rel => exact ⟨i + 1, bs', by go_num, by omega, nb, hbi, ⟨HK2.out.1.trans HBL.out, HK2.out.2⟩⟩
            case measure => simp [intOf]; omega
    · have hii : ¬ (i : Int) < (j : Int) := by omega
      have hv10 := hv9.below hbi
      have rv10 := rv9.below hbi
      have hw10 := Below.then hw9 hbi
      have HS : Hid (srtB (cN ts K) [] l = true) := srtB_in [] HI.out.1
      obtain ⟨c0, c1, c2, c3⟩ := hx9.below hbi
      clear hv9 rv9 hw9 hx9 hbi nb
      go_wp2_with fail
      clear c0 c1 c2 c3
      refine (osorted_any A N C ts K m g _ j j l _ hv10 hN1 hK1 hty.out rv10 (by omega) HI.out.2).mono ?_
      rw [HS.out]
      rintro e w11 ⟨rfl, hb11⟩
      have hw11 := Below.then hw10 hb11
      go_wp2_with fail
      go_ret
      exact ⟨rfl, hw11⟩
end Go.Proofs.Ytloohkgiicgndaa
/-
  OrderStays: for every shape and every list of rows the statement's function returns true, and its arguments read as they did. No condition.
-/
namespace Go.Proofs.Ytloohkgiicgndaa.orderStays
open Go.ChangeShapes Go.WideShapes Go.ChangeAt Go.RowKit
set_option linter.unusedVariables false
set_option maxRecDepth 4000

set_option maxRecDepth 100000 in
theorem lifted (os : Os) (started : os.Started) (H : Type) (enc : TypeId × Value → H) :
    ReturnsInHanded {} Try.checked os 4 .any (Rows.orderStaysSpec.pre6 enc Try.prog Try.f4 Rows.orderStaysRow.domain false) (Rows.orderStaysSpec.post enc Try.prog Try.f4 false true false false) := by
  refine returnsInHanded_of_change (C := Try.checked) own started (by kernel_rfl) Try.func4
    (ChangeSpec.witness6 (enc := enc) (C := Try.checked) false ⟨#[], #[.agg #[.int .u8 0, .int .u8 0, .int .u8 0, .int .u8 0, .int .u8 0, .int .u8 0, .int .u8 0, .int .u8 0, .int .u8 0, .int .u8 0, .int .u8 0, .int .u8 0], .slice none 0 0], []⟩ 8 (by kernel_rfl) (by kernel_rfl) (by kernel_rfl) (by kernel_rfl)) ?_
  intro W base args ds gs before hval0 hW hcnd _
  have hval : ∀ (j : Nat) t v, Try.f4.params[j]? = some t → args[j]? = some v → Value.okWide Try.prog W .any base t v := hval0
  have hW' := hW
  obtain ⟨p, q, hA0, hV, rfl, hfz, hnd⟩ := hW
  have hA : DataW.TrodAll enc Try.prog W 0 (fun _ => true) true Try.f4.params.toList args.toList ds p := hA0
  rw [Try.params4] at hA hval
  obtain ⟨v0, vs0, d0, ds0, p0, q0, hargs0, rfl, rfl, h0, r0⟩ := trodAll_cons hA
  obtain ⟨v1, vs1, d1, ds1, p1, q1, hargs1, hds1, hq1, h1, r1⟩ := trodAll_cons r0
  obtain ⟨hn1, hn2, hn3⟩ := trodAll_nil r1
  subst hn2 hn3
  subst hds1 hq1
  obtain rfl : args = #[v0, v1] := by cases args; simp_all
  obtain ⟨rfl, rfl⟩ := trodVars_none hV
  have rd0 := h0
  have lt0 : ∀ x ∈ p0, x.block < W.heap.size := by obtain ⟨m, hm⟩ := rd0; exact DataW.trod_lt m _ _ _ hm
  obtain ⟨la0, lb0, lc0, ld0, le0, lf0, lg0, lh0, na0, nb0, nc0, nd0, rfl, S0⟩ := open_shape (hval 0 24 v0 rfl rfl) h0
  have rd1 := h1
  have lt1 : ∀ x ∈ p1, x.block < W.heap.size := by obtain ⟨m, hm⟩ := rd1; exact DataW.trod_lt m _ _ _ hm
  obtain ⟨A1, n1, c1, v1, rfl, W1, L1, R1⟩ := open_rows4 (hval 1 25 v1 rfl rfl) h1
  clear hA0 hval0
  refine (stays9_is S0 A1 n1 c1 v1 W W1 L1 R1).mono fun e W' ⟨he, bel⟩ => ?_
  subst he
  exact ⟨_, rfl, _, _, _, [], _, [], hW', trodAll_mk1 (shut_bool Try.underlying4 _), (trodAll_cons_mk (Below.trod laidOut (by kernel_rfl) (of_decide_eq_true (by kernel_rfl)) rd0 bel lt0) (trodAll_cons_mk (Below.trod laidOut (by kernel_rfl) (of_decide_eq_true (by kernel_rfl)) rd1 bel lt1) trodAll_mk0)), rfl, bel.frame _, fun h => by cases h⟩

theorem over : Rows.orderStaysRow.holds Try.pinned (OpenSpec.ofChange Rows.orderStaysSpec) :=
  OpenClaim.holds_of_wide 4 Try.f4 rfl rfl rfl rfl rfl rfl rfl ⟨rfl, rfl, rfl, rfl, rfl⟩ rfl rfl rfl rfl rfl (by kernel_rfl) Try.func4 (by kernel_rfl)
    (of_decide_eq_true (by kernel_rfl)) (by unfold Func.isWrapper; first | (rw [if_pos (by decide +kernel)]; kernel_rfl) | (rw [if_neg (by decide +kernel)]; exact ⟨rfl, rfl⟩))
    (fun os started H enc _ => lifted os started H enc)
end Go.Proofs.Ytloohkgiicgndaa.orderStays
namespace Go.Proofs.Ytloohkgiicgndaa
theorem orderStays_holds : Rows.OrderStaysSaid := orderStays.over
end Go.Proofs.Ytloohkgiicgndaa
