/- Texts that belong together, one behind the other: D8e, D8f, D8g, D8h. -/
import Derived.Test.YtlagmjdldplblaaDiskC
import Derived.Maps.RangeWalk
import Derived.Laws.EntriesVeiled
/- Contracts of package disk: Used. -/
namespace Go.Proofs.Ytlagmjdldplblaa
open Go.ChangeShapes Go.WideShapes Go.ChangeAt Go.RowKit Go.WideMaps Go.Maps
set_option linter.unusedVariables false
set_option maxRecDepth 4000

theorem keyN_inv {v : Value} {kl : Lit} (h : keyOf Try.prog 9 v = some kl) : ∃ s : ByteArray, v = .string s ∧ kl = kN s := by
  unfold keyOf at h
  rw [Try.underlying9] at h
  simp only [] at h
  unfold mapKey at h
  rw [Try.underlying9] at h
  cases v <;> simp at h
  rename_i s
  exact ⟨s, rfl, h.2.symm⟩
theorem field8 (a : Option Addr) (n c : Nat) (s : Int) (W : World) : (Instr.field 85 (.agg #[.slice a n c, .int .i64 s]) 0).run Try.prog W = .ok (.slice a n c) W := by
  kernel_rfl
/-- what is looked up of a file -/
theorem fm_look {g : G8} {k : Nat} {w : World} {F : Nat → Prop} {p : Nat} {M : DK} (h : DD g k w F p M) (hk : k ≤ 1000) {f : Nat} (hf : g.lv f) :
    (Instr.lookup 66 (.map (some g.bF)) (oV (g.og f)) false).run Try.prog w = .ok (fileV (g.sv f) (flN M f).2) w := by
  have hx := h.each f hf
  obtain ⟨v, ps, hrun, hv⟩ := World.ownsMap.lookup h.files.1 law8O Try.underlying66 (zero8F w) (eF_mk none 0 0 0) (h.key hk hx.place)
  rw [hx.at_] at hv
  obtain ⟨a, n, c, s, rfl, hy⟩ := eF_inv hv
  have hy := congrArg Prod.fst hy
  simp only [DataW.held.injEq] at hy
  rw [hrun, hy]
/-- the bytes of those names that are not left -/
def leftSum (files : List Fl8) (left : Lit → Bool) (l : List Nm8) : Nat := ((l.filter (fun n => !left (kN n.1))).map (fun n => (files.getD n.2 ([], 0)).1.length)).sum
theorem leftSum_all {files : List Fl8} {left : Lit → Bool} : ∀ {l : List Nm8}, (∀ n ∈ l, left (kN n.1) = true) → leftSum files left l = 0
  | [], _ => rfl
  | n :: l, h => by
    have := leftSum_all (files := files) (l := l) (fun m hm => h m (List.mem_cons_of_mem _ hm))
    unfold leftSum at this ⊢
    rw [List.filter_cons, if_neg (by simp [h n (List.mem_cons_self ..)])]; exact this
theorem leftSum_none {files : List Fl8} {left : Lit → Bool} : ∀ {l : List Nm8}, (∀ x, left x = false) → leftSum files left l = usedL files l
  | [], _ => rfl
  | n :: l, h => by
    have := leftSum_none (files := files) (l := l) h
    unfold leftSum usedL at this ⊢
    rw [List.filter_cons, if_pos (by simp [h]), List.map_cons, List.sum_cons, this, List.map_cons, List.sum_cons]
theorem leftSum_same {files : List Fl8} {left left' : Lit → Bool} : ∀ {l : List Nm8}, (∀ n ∈ l, left' (kN n.1) = left (kN n.1)) → leftSum files left' l = leftSum files left l := by
  intro l h
  unfold leftSum
  rw [List.filter_congr (fun n hn => by rw [h n hn])]
theorem leftSum_step {files : List Fl8} {left : Lit → Bool} : ∀ {l : List Nm8} {n : Nm8}, SortN l → n ∈ l → left (kN n.1) = true → leftSum files (fun x => left x && !x.sameKey (kN n.1)) l = leftSum files left l + (files.getD n.2 ([], 0)).1.length
  | x :: l, n, hs, hn, hl => by
    rcases List.mem_cons.1 hn with rfl | hn
    · have e := leftSum_same (files := files) (left := left) (left' := fun x => left x && !x.sameKey (kN n.1)) (l := l) (fun m hm => by
        have : decide (m.1 = n.1) = false := decide_eq_false (fun e => ltN_ne (hs.1 m hm) e.symm)
        simp [kN_same, this])
      unfold leftSum at e ⊢
      rw [List.filter_cons, if_pos (by simp [kN_same]), List.map_cons, List.sum_cons, e, List.filter_cons, if_neg (by simp [hl])]
      omega
    · have e := leftSum_step (files := files) hs.2 hn hl
      have hne : decide (x.1 = n.1) = false := decide_eq_false (ltN_ne (hs.1 n hn))
      unfold leftSum at e ⊢
      rw [List.filter_cons, List.filter_cons]
      by_cases hx : left (kN x.1) = true
      · rw [if_neg (by simp [hx, kN_same, hne]), if_neg (by simp [hx])]; exact e
      · have hx : left (kN x.1) = false := by simpa using hx
        rw [if_pos (by simp [hx]), if_pos (by simp [hx]), List.map_cons, List.sum_cons, e, List.map_cons, List.sum_cons]
        omega
theorem usedL_bound {files : List Fl8} {q : Nat} (hq : ∀ x ∈ files, x.1.length ≤ q) : ∀ l : List Nm8, usedL files l ≤ l.length * q
  | [] => by simp [usedL]
  | n :: l => by
    have := usedL_bound hq l
    have h1 : (files.getD n.2 ([], 0)).1.length ≤ q := by
      rw [List.getD_eq_getElem?_getD]
      cases hg : files[n.2]? with
      | none => simp
      | some y => exact hq y (List.mem_of_getElem? hg)
    simp only [usedL, List.map_cons, List.sum_cons, List.length_cons] at this ⊢
    rw [Nat.add_mul, Nat.one_mul]; omega
theorem leftSum_le {files : List Fl8} {left : Lit → Bool} : ∀ {l : List Nm8}, leftSum files left l ≤ usedL files l
  | [] => Nat.le_refl _
  | n :: l => by
    have := leftSum_le (files := files) (left := left) (l := l)
    unfold leftSum usedL at this ⊢
    rw [List.filter_cons]
    split
    · simp only [List.map_cons, List.sum_cons]; omega
    · simp only [List.map_cons, List.sum_cons]; omega
theorem used_bound {g : G8} {k : Nat} {w : World} {F : Nat → Prop} {p : Nat} {M : DK} (h : DD g k w F p M) (hk : k ≤ 1000) : usedD M ≤ 1000000000 := by
  have h1 := usedL_bound h.pl.len M.names
  have h2 := kc_names h
  have h3 : M.names.length * (1000 * k) ≤ 1000 * (1000 * 1000) := Nat.mul_le_mul (by omega) (by omega)
  unfold usedD; omega
set_option maxHeartbeats 2000000 in
theorem used_any (g : G8) (k : Nat) (w : World) (F : Nat → Prop) (p : Nat) (M : DK) (hk : k ≤ 1000) (h : DD g k w F p M) :
    Calls Try.prog 34 #[.pointer (some ⟨p, 0, none⟩)] w fun e w' => e = .returned (.int .i64 (usedD M : Int)) ∧ Below w.heap.size w w' := by
  have c2 := h.blk.cell 2 (v := .map (some g.bN)) rfl
  have c1 := h.blk.cell 1 (v := .map (some g.bF)) rfl
  have hub := used_bound h hk
  have hown := h.names.1
  have hNl := hown.lt
  have HH := Lib.hid h
  clear h
  go_enter Try.func34, Try.ntmps34
  go_wp2_with (first | (at_range; refine wpList_range_own _ rfl _ 67 rfl 9 83 law8N Try.underlying67 _ g.bN _ _ rfl hown ?_; intro w0 hrg0 hg0 hs0) | fail)
  go_frame
  go_loopw [3] (fun i wr => ∃ (left : Lit → Bool) (cnt : Nat), i = .int .i64 (leftSum M.files left M.names : Int) ∧ wr.ranges Try.prog 9 eO g.bN w.heap.size M.names.length (nmD g.og M.names) left cnt ∧ Below w.heap.size w wr) (fun _ wr => wr.rangeLeft g.bN w.heap.size)
  case atStart =>
    refine ⟨_, _, ?_, hrg0, (Below.refl _ _).grown hg0 (Nat.le_refl _) (fun j hj => by cases hj)⟩
    rw [leftSum_all (fun n hn => by rw [nm_has, findN_of HH.out.ok.sort hn]; rfl)]; rfl
  case round =>
    clear hrg0 hg0 hs0 c1 c2
    obtain ⟨left, cnt, rfl, hrg, hbel⟩ := hrel
    go_wp2_with (first | (at_next; refine wpList_next_ranges _ rfl _ rfl 9 law8N eO (fun s : ByteArray => Value.string s) oV (fun key kl hkey => by obtain ⟨s, h1, _⟩ := keyN_inv hkey; exact ⟨s, h1⟩) (fun v y hv => by obtain ⟨o, h1, _⟩ := eO_inv hv; exact ⟨o, h1⟩) g.bN w.heap.size _ _ _ _ rfl hrg ?_ ?_) | fail)
    · intro _ hl0
      go_wp2_with fail
      go_ret
      exact ⟨by rw [leftSum_none hl0]; rfl, hbel⟩
    · intro s o1 o2 kl yd yp w1 cnt1 hkey hlx hv hat hrg1 hlt hg1 hs1 hen
      obtain ⟨s', e1, rfl⟩ := keyN_inv hkey
      obtain rfl : s = s' := by simpa using e1
      have hb1 : Below w.heap.size w w1 := hbel.grown hg1 hbel.size (fun j hj => by cases hj; exact Nat.le_refl _)
      have hh := has_true_of_atKey hat
      rw [nm_has] at hh
      obtain ⟨f, hf⟩ := Option.isSome_iff_exists.1 hh
      have hy := hat .nil
      rw [nm_at, hf] at hy
      simp only [] at hy
      have hvv : eO (oV (o1, o2)) = some (yd, yp) := hv
      rw [eO_mk] at hvv
      have hy2 : DataW.held (oV (o1, o2)) = yd := congrArg Prod.fst (Option.some.inj hvv)
      rw [← hy2] at hy
      have ho : g.og f = (o1, o2) := by
        have := hy
        simp only [DataW.held.injEq, oV, Value.agg.injEq, Array.mk.injEq, List.cons.injEq, Value.int.injEq, Value.string.injEq, true_and, and_true] at this
        exact Prod.ext this.1 this.2
      have hmem := findN_mem hf
      have hlv := HH.out.live f (.inl ⟨_, hmem, rfl⟩)
      obtain ⟨a, c, hsv⟩ := (HH.out.each f hlv).data.os.shape
      have h1 : DD g k (w1.alloc (.cells #[.int .i64 o1, .string o2] 83)).drew F p M := (((HH.out.below hb1).alloc _).drew)
      have hlk := fun wq (hq : Old (w1.alloc (.cells #[.int .i64 o1, .string o2] 83)).drew wq) => fm_look (h1.old hq) hk hlv
      rw [ho, hsv] at hlk
      unfold oV fileV at hlk
      have hfield := field8 a (flN M f).1.length c ((flN M f).2 : Int)
      have q1 := h1.blk.cell 1 (v := .map (some g.bF)) rfl
      have q2 : (w1.alloc (.cells #[.int .i64 o1, .string o2] 83)).drew.cell? ⟨w1.heap.size, 0, none⟩ = some (.int .i64 o1) := (Bk.new w1 #[.int .i64 o1, .string o2] 83).cell 0 rfl
      have q3 : (w1.alloc (.cells #[.int .i64 o1, .string o2] 83)).drew.cell? ⟨w1.heap.size, 1, none⟩ = some (.string o2) := (Bk.new w1 #[.int .i64 o1, .string o2] 83).cell 1 rfl
      have hrg2 : (w1.alloc (.cells #[.int .i64 o1, .string o2] 83)).drew.ranges Try.prog 9 eO g.bN w.heap.size M.names.length (nmD g.og M.names) (fun z => left z && !z.sameKey (kN s)) cnt1 := hrg1.alloc _
      have hb2 : Below w.heap.size w (w1.alloc (.cells #[.int .i64 o1, .string o2] 83)).drew := (hb1.alloc hb1.size _).drew
      have hst : leftSum M.files (fun x => left x && !x.sameKey (kN s)) M.names = leftSum M.files left M.names + (M.files.getD f ([], 0)).1.length := leftSum_step (files := M.files) HH.out.ok.sort hmem hlx
      have hle := leftSum_le (files := M.files) (left := left) (l := M.names)
      have hle2 := leftSum_le (files := M.files) (left := fun x => left x && !x.sameKey (kN s)) (l := M.names)
      have hHst := Lib.hid hst
      have hHrg := Lib.hid (And.intro hrg hrg2)
      have hlen : (flN M f).1.length = (M.files.getD f ([], 0)).1.length := rfl
      have hw64 : IntKind.i64.wrap ((leftSum M.files left M.names : Int) + ((flN M f).1.length : Int)) = ((leftSum M.files (fun x => left x && !x.sameKey (kN s)) M.names : Nat) : Int) := by
        rw [hst, hlen, IntKind.wrap_i64]
        unfold usedD at hub
        omega
      have HR := Lib.hid (And.intro hb2 hlt)
      clear hst hrg hrg1 hrg2 hb1 hb2 h1 hat hv hvv hy hy2 hkey hlx hh hlen hlt hbel hg1 e1
      clear hs1
      unfold oV at hen
      show wpList _ _ _ _ _ _
      unfold oV
      go_wp2_with fail
      refine wp_region_noPanic ?_
      refine region_g 11 (Old (w1.alloc (.cells #[.int .i64 o1, .string o2] 83)).drew) (by kernel_rfl) ((Old.refl _)) (fun hS => ?_)
      refine take_w (i := 0) (v := ?_) (some 15) rfl (by kernel_rfl) rfl (fun _ _ _ h => h) (Or.inl ⟨by rfl, ?_⟩) hS ?_
      rotate_left
      · (intro wq hq; go_simp); first | done | with_reducible rfl
      try simp only [Act.put, List.setIfInBounds_toArray, List.set_cons_zero, List.set_cons_succ]
      replace hS := Till.list 0 hS
      refine take_w (i := 1) (v := ?_) (some 16) rfl (by kernel_rfl) rfl (fun _ _ _ h => h) (Or.inl ⟨by rfl, ?_⟩) hS ?_
      rotate_left
      · (intro wq hq; go_simp); first | done | with_reducible rfl
      try simp only [Act.put, List.setIfInBounds_toArray, List.set_cons_zero, List.set_cons_succ]
      replace hS := Till.list 1 hS
      refine take_n (i := 5) (v := ?_) (some 20) rfl (by kernel_rfl) rfl (fun _ _ _ h => h) (Or.inl ⟨by rfl, ?_⟩) hS ?_
      rotate_left
      · (intro wq hq; have p1 := hq.cell q1; have p2 := hq.cell q2; have p3 := hq.cell q3; go_simp); first | done | with_reducible rfl
      try simp only [Act.put, List.setIfInBounds_toArray, List.set_cons_zero, List.set_cons_succ]
      replace hS := Till.list 5 hS
      refine take_w (i := 2) (v := ?_) (some 17) rfl (by kernel_rfl) rfl (fun _ _ _ h => h) (Or.inl ⟨by rfl, ?_⟩) hS ?_
      rotate_left
      · (intro wq hq; go_simp); first | done | with_reducible rfl
      try simp only [Act.put, List.setIfInBounds_toArray, List.set_cons_zero, List.set_cons_succ]
      replace hS := Till.list 2 hS
      refine take_w (i := 3) (v := ?_) (some 18) rfl (by kernel_rfl) rfl (fun _ _ _ h => h) (Or.inl ⟨by rfl, ?_⟩) hS ?_
      rotate_left
      · (intro wq hq; go_simp); first | done | with_reducible rfl
      try simp only [Act.put, List.setIfInBounds_toArray, List.set_cons_zero, List.set_cons_succ]
      replace hS := Till.list 3 hS
      refine take_n (i := 4) (v := ?_) (some 19) rfl (by kernel_rfl) rfl (fun _ _ _ h => h) (Or.inl ⟨by rfl, ?_⟩) hS ?_
      rotate_left
      · (intro wq hq; have p1 := hq.cell q1; have p2 := hq.cell q2; have p3 := hq.cell q3; go_simp); first | done | with_reducible rfl
      try simp only [Act.put, List.setIfInBounds_toArray, List.set_cons_zero, List.set_cons_succ]
      replace hS := Till.list 4 hS
      refine take_n (i := 6) (v := .agg #[.slice a (flN M f).1.length c, .int .i64 ((flN M f).2 : Int)]) (some 21) rfl (by kernel_rfl) rfl (fun _ _ _ h => h) (Or.inl ⟨by rfl, ?_⟩) hS ?_
      · (intro wq hq; (have p1 := hlk wq hq; go_simp))
      try simp only [Act.put, List.setIfInBounds_toArray, List.set_cons_zero, List.set_cons_succ]
      replace hS := Till.list 6 hS
      refine take_w (i := 7) (v := ?_) (some 22) rfl (by kernel_rfl) rfl (fun _ _ _ h => h) (Or.inl ⟨by rfl, ?_⟩) hS ?_
      rotate_left
      · (intro wq hq; go_simp); first | done | with_reducible rfl
      try simp only [Act.put, List.setIfInBounds_toArray, List.set_cons_zero, List.set_cons_succ]
      replace hS := Till.list 7 hS
      refine take_w (i := 8) (v := ?_) (some 23) rfl (by kernel_rfl) rfl (fun _ _ _ h => h) (Or.inl ⟨by rfl, ?_⟩) hS ?_
      rotate_left
      · (intro wq hq; go_simp); first | done | with_reducible rfl
      try simp only [Act.put, List.setIfInBounds_toArray, List.set_cons_zero, List.set_cons_succ]
      replace hS := Till.list 8 hS
      refine take_w (i := 9) (v := ?_) (some 24) rfl (by kernel_rfl) rfl (fun _ _ _ h => h) (Or.inl ⟨by rfl, ?_⟩) hS ?_
      rotate_left
      · (intro wq hq; go_simp); first | done | with_reducible rfl
      try simp only [Act.put, List.setIfInBounds_toArray, List.set_cons_zero, List.set_cons_succ]
      replace hS := Till.list 9 hS
      refine take_w (i := 10) (v := ?_) (some 3) rfl (by kernel_rfl) rfl (fun _ _ _ h => h) (Or.inl ⟨by rfl, ?_⟩) hS ?_
      rotate_left
      · (intro wq hq; go_simp); first | done | with_reducible rfl
      try simp only [Act.put, List.setIfInBounds_toArray, List.set_cons_zero, List.set_cons_succ]
      replace hS := Till.list 10 hS
      refine done_g (by kernel_rfl) (NoPanic.normal ?_) _
      clear hS
      go_wp2_with fail
      go_roundw
      case rel => exact ⟨_, cnt1, rfl, hHrg.out.2, HR.out.1⟩
      case measure => rw [hHrg.out.2.left_eq, hHrg.out.1.left_eq]; exact HR.out.2
end Go.Proofs.Ytlagmjdldplblaa
/- Contracts of package disk: Sync. -/
namespace Go.Proofs.Ytlagmjdldplblaa
open Go.ChangeShapes Go.WideShapes Go.ChangeAt Go.RowKit Go.WideMaps Go.Maps
set_option linter.unusedVariables false
set_option maxRecDepth 4000

set_option maxHeartbeats 2000000 in
theorem sync1_any (g : G8) (k : Nat) (w : World) (F : Nat → Prop) (p : Nat) (M : DK) (hk : k ≤ 900) (hF : ∀ b, w.heap.size ≤ b → F b) (h : DD g k w F p M) (s : ByteArray) (hs : s.size ≤ 1000) (b0 b1 : Nat)
    (c0 : w.cell? ⟨b0, 0, none⟩ = some (.pointer (some ⟨p, 0, none⟩))) (c1 : w.cell? ⟨b1, 0, none⟩ = some (.string s)) :
    Calls Try.prog 65 #[.pointer (some ⟨b0, 0, none⟩), .pointer (some ⟨b1, 0, none⟩)] w (Tells (Did (k + 1) F p w (syncedD M s))) := by
  have d2 := h.blk.cell 2 (v := .map (some g.bN)) rfl
  have d1 := h.blk.cell 1 (v := .map (some g.bF)) rfl
  have hlk := fun wq (hq : Old w wq) => nm_look (ownsMap_same h.names.1 (hq.block _ h.names.1.lt)) (s := s) (by omega)
  generalize hO : lookO g.og M.names s = o at hlk
  unfold oV at hlk
  have HH := Lib.hid h
  cases hf : findN M.names s with
  | none =>
    have hm : syncedD M s = (M, 30) := by unfold syncedD; rw [hf]
    rw [hm]
    rw [hf] at hlk
    simp only [Option.isSome_none] at hlk
    clear h hm hO hf
    go_enter Try.func65, Try.ntmps65
    go_wp2_with fail
    refine wp_region_noPanic ?_
    refine region_g 10 (Old w) (by kernel_rfl) ((Old.refl w).drew) (fun hS => ?_)
    refine take_g (i := 0) (v := ?_) [0] (some 7) rfl (by kernel_rfl) rfl (fun _ _ _ h => h) (Or.inl ⟨by rfl, ?_⟩) hS ?_
    rotate_left
    · (intro wq hq; have q0 := hq.cell c0; have q1 := hq.cell d2; have q2 := hq.cell c1; go_simp); first | done | with_reducible rfl
    try simp only [Act.put, List.setIfInBounds_toArray, List.set_cons_zero, List.set_cons_succ]
    replace hS := Till.list 0 hS
    refine take_g (i := 4) (v := ?_) [4] (some 11) rfl (by kernel_rfl) rfl (fun _ _ _ h => h) (Or.inl ⟨by rfl, ?_⟩) hS ?_
    rotate_left
    · (intro wq hq; have q0 := hq.cell c0; have q1 := hq.cell d2; have q2 := hq.cell c1; go_simp); first | done | with_reducible rfl
    try simp only [Act.put, List.setIfInBounds_toArray, List.set_cons_zero, List.set_cons_succ]
    replace hS := Till.list 4 hS
    refine take_w (i := 1) (v := ?_) (some 8) rfl (by kernel_rfl) rfl (fun _ _ _ h => h) (Or.inl ⟨by rfl, ?_⟩) hS ?_
    rotate_left
    · (intro wq hq; go_simp); first | done | with_reducible rfl
    try simp only [Act.put, List.setIfInBounds_toArray, List.set_cons_zero, List.set_cons_succ]
    replace hS := Till.list 1 hS
    refine take_w (i := 2) (v := ?_) (some 9) rfl (by kernel_rfl) rfl (fun _ _ _ h => h) (Or.inl ⟨by rfl, ?_⟩) hS ?_
    rotate_left
    · (intro wq hq; go_simp); first | done | with_reducible rfl
    try simp only [Act.put, List.setIfInBounds_toArray, List.set_cons_zero, List.set_cons_succ]
    replace hS := Till.list 2 hS
    refine take_g (i := 3) (v := ?_) [3] (some 10) rfl (by kernel_rfl) rfl (fun _ _ _ h => h) (Or.inl ⟨by rfl, ?_⟩) hS ?_
    rotate_left
    · (intro wq hq; have q0 := hq.cell c0; have q1 := hq.cell d2; have q2 := hq.cell c1; go_simp); first | done | with_reducible rfl
    try simp only [Act.put, List.setIfInBounds_toArray, List.set_cons_zero, List.set_cons_succ]
    replace hS := Till.list 3 hS
    refine take_g (i := 5) (v := .tuple #[.agg #[.int .i64 o.1, .string o.2], .bool false]) [5] (some 12) rfl (by kernel_rfl) rfl (fun _ _ _ h => h) (Or.inl ⟨by rfl, ?_⟩) hS ?_
    · (intro wq hq; (have q0 := hlk wq hq; go_simp))
    try simp only [Act.put, List.setIfInBounds_toArray, List.set_cons_zero, List.set_cons_succ]
    replace hS := Till.list 5 hS
    refine take_w (i := 6) (v := ?_) (some 6) rfl (by kernel_rfl) rfl (fun _ _ _ h => h) (Or.inl ⟨by rfl, ?_⟩) hS ?_
    rotate_left
    · (intro wq hq; go_simp); first | done | with_reducible rfl
    try simp only [Act.put, List.setIfInBounds_toArray, List.set_cons_zero, List.set_cons_succ]
    replace hS := Till.list 6 hS
    refine take_w (i := 7) (v := ?_) (some 13) rfl (by kernel_rfl) rfl (fun _ _ _ h => h) (Or.inl ⟨by rfl, ?_⟩) hS ?_
    rotate_left
    · (intro wq hq; go_simp); first | done | with_reducible rfl
    try simp only [Act.put, List.setIfInBounds_toArray, List.set_cons_zero, List.set_cons_succ]
    replace hS := Till.list 7 hS
    refine take_w (i := 8) (v := ?_) (some 14) rfl (by kernel_rfl) rfl (fun _ _ _ h => h) (Or.inl ⟨by rfl, ?_⟩) hS ?_
    rotate_left
    · (intro wq hq; go_simp); first | done | with_reducible rfl
    try simp only [Act.put, List.setIfInBounds_toArray, List.set_cons_zero, List.set_cons_succ]
    replace hS := Till.list 8 hS
    refine ready_g (rs := [9]) (by kernel_rfl) (by simp) ?_
    refine AllReadyG.cons rfl (fun Kont hK => ?_) AllReadyG.nil
    go_simp
    refine hK.out _ _ (Or.inr (((hS.get (by kernel_rfl)).alloc _))) (fun hS0 => ?_)
    clear hK Kont
    try simp only [Act.put, List.setIfInBounds_toArray, List.set_cons_zero, List.set_cons_succ]
    clear hS
    have hS := hS0
    clear hS0
    refine ready_g (rs := [10]) (by kernel_rfl) (by simp) ?_
    refine AllReadyG.cons rfl (fun Kont hK => ?_) AllReadyG.nil
    go_simp
    refine hK.out _ _ (Or.inl (by kernel_rfl)) (fun hS0 => ?_)
    clear hK Kont
    try simp only [Act.put, List.setIfInBounds_toArray, List.set_cons_zero, List.set_cons_succ]
    clear hS
    have hS := hS0
    clear hS0
    refine take_w (i := 11) (v := ?_) (some 4) rfl (by kernel_rfl) rfl (fun _ _ _ h => h) (Or.inl ⟨by rfl, ?_⟩) hS ?_
    rotate_left
    · (intro wq hq; go_simp); first | done | with_reducible rfl
    try simp only [Act.put, List.setIfInBounds_toArray, List.set_cons_zero, List.set_cons_succ]
    replace hS := Till.list 11 hS
    refine done_g (by kernel_rfl) (NoPanic.normal ?_) _
    clear hS
    go_wp2_with fail
    go_ret
    exact ⟨30, rfl, rfl, ⟨g, (HH.out.alloc _).drew.more (by omega)⟩, ((Kp.refl F _).alloc _).drew⟩
  | some f =>
    have hm : syncedD M s = (putD M f ((flN M f).1, (flN M f).1.length), 0) := by unfold syncedD; rw [hf]
    rw [hm]
    rw [hf] at hlk
    simp only [Option.isSome_some] at hlk
    have ho : g.og f = o := by rw [← hO]; unfold lookO; rw [hf]
    have hlv := h.live f (.inl ⟨_, findN_mem hf, rfl⟩)
    have hx := h.each f hlv
    obtain ⟨a, c, hsv⟩ := hx.data.os.shape
    have hlf := fun wq (hq : Old w wq) => fm_look (h.old hq) (by omega) hlv
    rw [ho, hsv] at hlf
    unfold oV fileV at hlf
    have HX := Lib.hid hx
    have HO := Lib.hid ho
    have HSV := Lib.hid hsv
    clear h hm hO hf hx ho hsv
    go_enter Try.func65, Try.ntmps65
    go_wp2_with fail
    refine wp_region_noPanic ?_
    refine region_g 10 (Old w) (by kernel_rfl) ((Old.refl w).drew) (fun hS => ?_)
    refine take_g (i := 0) (v := ?_) [0] (some 7) rfl (by kernel_rfl) rfl (fun _ _ _ h => h) (Or.inl ⟨by rfl, ?_⟩) hS ?_
    rotate_left
    · (intro wq hq; have q0 := hq.cell c0; have q1 := hq.cell d2; have q2 := hq.cell c1; go_simp); first | done | with_reducible rfl
    try simp only [Act.put, List.setIfInBounds_toArray, List.set_cons_zero, List.set_cons_succ]
    replace hS := Till.list 0 hS
    refine take_g (i := 4) (v := ?_) [4] (some 11) rfl (by kernel_rfl) rfl (fun _ _ _ h => h) (Or.inl ⟨by rfl, ?_⟩) hS ?_
    rotate_left
    · (intro wq hq; have q0 := hq.cell c0; have q1 := hq.cell d2; have q2 := hq.cell c1; go_simp); first | done | with_reducible rfl
    try simp only [Act.put, List.setIfInBounds_toArray, List.set_cons_zero, List.set_cons_succ]
    replace hS := Till.list 4 hS
    refine take_w (i := 1) (v := ?_) (some 8) rfl (by kernel_rfl) rfl (fun _ _ _ h => h) (Or.inl ⟨by rfl, ?_⟩) hS ?_
    rotate_left
    · (intro wq hq; go_simp); first | done | with_reducible rfl
    try simp only [Act.put, List.setIfInBounds_toArray, List.set_cons_zero, List.set_cons_succ]
    replace hS := Till.list 1 hS
    refine take_w (i := 2) (v := ?_) (some 9) rfl (by kernel_rfl) rfl (fun _ _ _ h => h) (Or.inl ⟨by rfl, ?_⟩) hS ?_
    rotate_left
    · (intro wq hq; go_simp); first | done | with_reducible rfl
    try simp only [Act.put, List.setIfInBounds_toArray, List.set_cons_zero, List.set_cons_succ]
    replace hS := Till.list 2 hS
    refine take_g (i := 3) (v := ?_) [3] (some 10) rfl (by kernel_rfl) rfl (fun _ _ _ h => h) (Or.inl ⟨by rfl, ?_⟩) hS ?_
    rotate_left
    · (intro wq hq; have q0 := hq.cell c0; have q1 := hq.cell d2; have q2 := hq.cell c1; go_simp); first | done | with_reducible rfl
    try simp only [Act.put, List.setIfInBounds_toArray, List.set_cons_zero, List.set_cons_succ]
    replace hS := Till.list 3 hS
    refine take_g (i := 5) (v := .tuple #[.agg #[.int .i64 o.1, .string o.2], .bool true]) [5] (some 12) rfl (by kernel_rfl) rfl (fun _ _ _ h => h) (Or.inl ⟨by rfl, ?_⟩) hS ?_
    · (intro wq hq; (have q0 := hlk wq hq; go_simp))
    try simp only [Act.put, List.setIfInBounds_toArray, List.set_cons_zero, List.set_cons_succ]
    replace hS := Till.list 5 hS
    refine take_w (i := 6) (v := ?_) (some 6) rfl (by kernel_rfl) rfl (fun _ _ _ h => h) (Or.inl ⟨by rfl, ?_⟩) hS ?_
    rotate_left
    · (intro wq hq; go_simp); first | done | with_reducible rfl
    try simp only [Act.put, List.setIfInBounds_toArray, List.set_cons_zero, List.set_cons_succ]
    replace hS := Till.list 6 hS
    refine take_w (i := 7) (v := ?_) (some 13) rfl (by kernel_rfl) rfl (fun _ _ _ h => h) (Or.inl ⟨by rfl, ?_⟩) hS ?_
    rotate_left
    · (intro wq hq; go_simp); first | done | with_reducible rfl
    try simp only [Act.put, List.setIfInBounds_toArray, List.set_cons_zero, List.set_cons_succ]
    replace hS := Till.list 7 hS
    refine take_w (i := 8) (v := ?_) (some 14) rfl (by kernel_rfl) rfl (fun _ _ _ h => h) (Or.inl ⟨by rfl, ?_⟩) hS ?_
    rotate_left
    · (intro wq hq; go_simp); first | done | with_reducible rfl
    try simp only [Act.put, List.setIfInBounds_toArray, List.set_cons_zero, List.set_cons_succ]
    replace hS := Till.list 8 hS
    refine ready_g (rs := [9]) (by kernel_rfl) (by simp) ?_
    refine AllReadyG.cons rfl (fun Kont hK => ?_) AllReadyG.nil
    go_simp
    refine hK.out _ _ (Or.inr (((hS.get (by kernel_rfl)).alloc _))) (fun hS0 => ?_)
    clear hK Kont
    try simp only [Act.put, List.setIfInBounds_toArray, List.set_cons_zero, List.set_cons_succ]
    clear hS
    have hS := hS0
    clear hS0
    refine ready_g (rs := [10]) (by kernel_rfl) (by simp) ?_
    refine AllReadyG.cons rfl (fun Kont hK => ?_) AllReadyG.nil
    go_simp
    refine hK.out _ _ (Or.inl (by kernel_rfl)) (fun hS0 => ?_)
    clear hK Kont
    try simp only [Act.put, List.setIfInBounds_toArray, List.set_cons_zero, List.set_cons_succ]
    clear hS
    have hS := hS0
    clear hS0
    refine take_w (i := 11) (v := ?_) (some 4) rfl (by kernel_rfl) rfl (fun _ _ _ h => h) (Or.inl ⟨by rfl, ?_⟩) hS ?_
    rotate_left
    · (intro wq hq; go_simp); first | done | with_reducible rfl
    try simp only [Act.put, List.setIfInBounds_toArray, List.set_cons_zero, List.set_cons_succ]
    replace hS := Till.list 11 hS
    refine done_g (by kernel_rfl) (NoPanic.normal ?_) _
    clear hS
    -- what the file's map has
    have hO1 : Old w (w.alloc (.cells #[.int .i64 o.1, .string o.2] 83)).drew := ((Old.refl w).alloc _).drew
    have hK1 : Kp F w (w.alloc (.cells #[.int .i64 o.1, .string o.2] 83)).drew := ((Kp.refl F w).alloc _).drew
    have hN1 : Bk (w.alloc (.cells #[.int .i64 o.1, .string o.2] 83)).drew w.heap.size _ 83 := Bk.new w #[.int .i64 o.1, .string o.2] 83
    have hS1 : (w.alloc (.cells #[.int .i64 o.1, .string o.2] 83)).drew.heap.size = w.heap.size + 1 := by show (w.heap.push _).size = _; simp
    go_wp2_with fail
    generalize (w.alloc (.cells #[.int .i64 o.1, .string o.2] 83)).drew = w1 at *
    have x0 := hN1.cell 0 (v := .int .i64 o.1) rfl
    have x1 := hN1.cell 1 (v := .string o.2) rfl
    have y0 := hO1.cell c0
    have y1 := hO1.cell d1
    have hlf1 := fun wq (hq : Old w1 wq) => hlf wq ⟨Nat.le_trans hO1.size hq.size, fun b hb => (hq.block b (Nat.lt_of_lt_of_le hb hO1.size)).trans (hO1.block b hb)⟩
    clear hlf hlk
    refine wp_region_noPanic ?_
    refine region_g 7 (Old w1) (by kernel_rfl) ((Old.refl w1).drew) (fun hS => ?_)
    refine take_g (i := 0) (v := ?_) [0] (some 17) rfl (by kernel_rfl) rfl (fun _ _ _ h => h) (Or.inl ⟨by rfl, ?_⟩) hS ?_
    rotate_left
    · (intro wq hq; have q0 := hq.cell x0; have q1 := hq.cell x1; have q2 := hq.cell y0; have q3 := hq.cell y1; go_simp); first | done | with_reducible rfl
    try simp only [Act.put, List.setIfInBounds_toArray, List.set_cons_zero, List.set_cons_succ]
    replace hS := Till.list 0 hS
    refine take_g (i := 4) (v := ?_) [4] (some 21) rfl (by kernel_rfl) rfl (fun _ _ _ h => h) (Or.inl ⟨by rfl, ?_⟩) hS ?_
    rotate_left
    · (intro wq hq; have q0 := hq.cell x0; have q1 := hq.cell x1; have q2 := hq.cell y0; have q3 := hq.cell y1; go_simp); first | done | with_reducible rfl
    try simp only [Act.put, List.setIfInBounds_toArray, List.set_cons_zero, List.set_cons_succ]
    replace hS := Till.list 4 hS
    refine take_w (i := 1) (v := ?_) (some 18) rfl (by kernel_rfl) rfl (fun _ _ _ h => h) (Or.inl ⟨by rfl, ?_⟩) hS ?_
    rotate_left
    · (intro wq hq; go_simp); first | done | with_reducible rfl
    try simp only [Act.put, List.setIfInBounds_toArray, List.set_cons_zero, List.set_cons_succ]
    replace hS := Till.list 1 hS
    refine take_w (i := 2) (v := ?_) (some 19) rfl (by kernel_rfl) rfl (fun _ _ _ h => h) (Or.inl ⟨by rfl, ?_⟩) hS ?_
    rotate_left
    · (intro wq hq; go_simp); first | done | with_reducible rfl
    try simp only [Act.put, List.setIfInBounds_toArray, List.set_cons_zero, List.set_cons_succ]
    replace hS := Till.list 2 hS
    refine take_g (i := 3) (v := ?_) [3] (some 20) rfl (by kernel_rfl) rfl (fun _ _ _ h => h) (Or.inl ⟨by rfl, ?_⟩) hS ?_
    rotate_left
    · (intro wq hq; have q0 := hq.cell x0; have q1 := hq.cell x1; have q2 := hq.cell y0; have q3 := hq.cell y1; go_simp); first | done | with_reducible rfl
    try simp only [Act.put, List.setIfInBounds_toArray, List.set_cons_zero, List.set_cons_succ]
    replace hS := Till.list 3 hS
    refine take_g (i := 5) (v := .agg #[.slice a (flN M f).1.length c, .int .i64 ((flN M f).2 : Int)]) [5] (some 22) rfl (by kernel_rfl) rfl (fun _ _ _ h => h) (Or.inl ⟨by rfl, ?_⟩) hS ?_
    · (intro wq hq; (have q0 := hlf1 wq hq; go_simp))
    try simp only [Act.put, List.setIfInBounds_toArray, List.set_cons_zero, List.set_cons_succ]
    replace hS := Till.list 5 hS
    refine ready_g (rs := [6]) (by kernel_rfl) (by simp) ?_
    refine AllReadyG.cons rfl (fun Kont hK => ?_) AllReadyG.nil
    go_simp
    refine hK.out _ _ (Or.inr (((hS.get (by kernel_rfl)).alloc _))) (fun hS0 => ?_)
    clear hK Kont
    try simp only [Act.put, List.setIfInBounds_toArray, List.set_cons_zero, List.set_cons_succ]
    clear hS
    have hS := hS0
    clear hS0
    refine ready_g (rs := [7]) (by kernel_rfl) (by simp) ?_
    refine AllReadyG.cons rfl (fun Kont hK => ?_) AllReadyG.nil
    go_simp
    refine hK.out _ _ (Or.inl (by kernel_rfl)) (fun hS0 => ?_)
    clear hK Kont
    try simp only [Act.put, List.setIfInBounds_toArray, List.set_cons_zero, List.set_cons_succ]
    clear hS
    have hS := hS0
    clear hS0
    refine done_g (by kernel_rfl) (NoPanic.normal ?_) _
    clear hS
    have hO2 : Old w (w1.alloc (.cells #[.slice a (flN M f).1.length c, .int .i64 ((flN M f).2 : Int)] 85)).drew := (hO1.alloc _).drew
    have hK2 : Kp F w (w1.alloc (.cells #[.slice a (flN M f).1.length c, .int .i64 ((flN M f).2 : Int)] 85)).drew := (hK1.alloc _).drew
    have hN2 : Bk (w1.alloc (.cells #[.slice a (flN M f).1.length c, .int .i64 ((flN M f).2 : Int)] 85)).drew w1.heap.size _ 85 := Bk.new w1 #[.slice a (flN M f).1.length c, .int .i64 ((flN M f).2 : Int)] 85
    have hN1' : Bk (w1.alloc (.cells #[.slice a (flN M f).1.length c, .int .i64 ((flN M f).2 : Int)] 85)).drew w.heap.size _ 83 := hN1.alloc _
    rw [hS1] at hN2
    generalize (w1.alloc (.cells #[.slice a (flN M f).1.length c, .int .i64 ((flN M f).2 : Int)] 85)).drew = w2 at *
    have z0 := hN2.cell 0 (v := .slice a (flN M f).1.length c) rfl
    have z1 := hN2.cell 1 (v := .int .i64 ((flN M f).2 : Int)) rfl
    have fz := hN2.free 1
    go_wp2_with fail
    have hO3 : Old w (w2.setCell ⟨w.heap.size + 1, 1, none⟩ (.int .i64 ((flN M f).1.length : Int))) := hO2.setNew (by omega) _
    have hK3 : Kp F w (w2.setCell ⟨w.heap.size + 1, 1, none⟩ (.int .i64 ((flN M f).1.length : Int))) := hK2.setCell (.inr (by omega)) _
    have hN3 := hN2.set 1 (.int .i64 ((flN M f).1.length : Int))
    have hN3' := hN1'.other (c := w.heap.size + 1) (i := 1) (by omega) (.int .i64 ((flN M f).1.length : Int))
    generalize (w2.setCell ⟨w.heap.size + 1, 1, none⟩ (.int .i64 ((flN M f).1.length : Int))) = w3 at *
    have u0 := hN3'.cell 0 (v := .int .i64 o.1) rfl
    have u1 := hN3'.cell 1 (v := .string o.2) rfl
    have u2 := hN3.cell 0 (v := .slice a (flN M f).1.length c) rfl
    have u3 := hN3.cell 1 (v := .int .i64 ((flN M f).1.length : Int)) rfl
    have u4 := hO3.cell c0
    have u5 := hO3.cell d1
    have hfl := HH.out.files.1.lt
    have hkey := HH.out.key (by omega) HX.out.place
    obtain ⟨w4, hrun, hm4, hg4⟩ := (ownsMap_same (w' := w3.drew) HH.out.files.1 (hO3.block _ hfl)).update law8O Try.underlying66 (by have := HH.out.fsize; unfold maxLen; omega) hkey (eF_mk a (flN M f).1.length c ((flN M f).1.length : Int))
    have HM := Lib.hid (And.intro hm4 hg4)
    rw [HO.out] at hrun
    unfold oV fV at hrun
    clear hm4 hg4 hkey
    refine wp_region_noPanic ?_
    refine region_g 6 (Ext (World.drew _)) (by kernel_rfl) (Ext.refl _) (fun hS => ?_)
    refine take_g (i := 0) (v := ?_) [0] (some 27) rfl (by kernel_rfl) rfl (fun _ _ _ h => h) (Or.inl ⟨by rfl, ?_⟩) hS ?_
    rotate_left
    · (intro wq hq; have q0 := hq _ _ _ u0; have q1 := hq _ _ _ u1; have q2 := hq _ _ _ u2; have q3 := hq _ _ _ u3; have q4 := hq _ _ _ u4; have q5 := hq _ _ _ u5; go_simp); first | done | with_reducible rfl
    try simp only [Act.put, List.setIfInBounds_toArray, List.set_cons_zero, List.set_cons_succ]
    replace hS := Till.list 0 hS
    refine take_g (i := 4) (v := ?_) [4] (some 31) rfl (by kernel_rfl) rfl (fun _ _ _ h => h) (Or.inl ⟨by rfl, ?_⟩) hS ?_
    rotate_left
    · (intro wq hq; have q0 := hq _ _ _ u0; have q1 := hq _ _ _ u1; have q2 := hq _ _ _ u2; have q3 := hq _ _ _ u3; have q4 := hq _ _ _ u4; have q5 := hq _ _ _ u5; go_simp); first | done | with_reducible rfl
    try simp only [Act.put, List.setIfInBounds_toArray, List.set_cons_zero, List.set_cons_succ]
    replace hS := Till.list 4 hS
    refine take_g (i := 5) (v := ?_) [5] (some 32) rfl (by kernel_rfl) rfl (fun _ _ _ h => h) (Or.inl ⟨by rfl, ?_⟩) hS ?_
    rotate_left
    · (intro wq hq; have q0 := hq _ _ _ u0; have q1 := hq _ _ _ u1; have q2 := hq _ _ _ u2; have q3 := hq _ _ _ u3; have q4 := hq _ _ _ u4; have q5 := hq _ _ _ u5; go_simp); first | done | with_reducible rfl
    try simp only [Act.put, List.setIfInBounds_toArray, List.set_cons_zero, List.set_cons_succ]
    replace hS := Till.list 5 hS
    refine take_w (i := 1) (v := ?_) (some 28) rfl (by kernel_rfl) rfl (fun _ _ _ h => h) (Or.inl ⟨by rfl, ?_⟩) hS ?_
    rotate_left
    · (intro wq hq; go_simp); first | done | with_reducible rfl
    try simp only [Act.put, List.setIfInBounds_toArray, List.set_cons_zero, List.set_cons_succ]
    replace hS := Till.list 1 hS
    refine take_w (i := 2) (v := ?_) (some 29) rfl (by kernel_rfl) rfl (fun _ _ _ h => h) (Or.inl ⟨by rfl, ?_⟩) hS ?_
    rotate_left
    · (intro wq hq; go_simp); first | done | with_reducible rfl
    try simp only [Act.put, List.setIfInBounds_toArray, List.set_cons_zero, List.set_cons_succ]
    replace hS := Till.list 2 hS
    refine take_g (i := 3) (v := ?_) [3] (some 30) rfl (by kernel_rfl) rfl (fun _ _ _ h => h) (Or.inl ⟨by rfl, ?_⟩) hS ?_
    rotate_left
    · (intro wq hq; have q0 := hq _ _ _ u0; have q1 := hq _ _ _ u1; have q2 := hq _ _ _ u2; have q3 := hq _ _ _ u3; have q4 := hq _ _ _ u4; have q5 := hq _ _ _ u5; go_simp); first | done | with_reducible rfl
    try simp only [Act.put, List.setIfInBounds_toArray, List.set_cons_zero, List.set_cons_succ]
    replace hS := Till.list 3 hS
    refine ready_g (rs := [6]) (by kernel_rfl) (by simp) ?_
    refine AllReadyG.cons rfl (fun Kont hK => ?_) AllReadyG.nil
    go_simp
    refine hK.out _ _ (Or.inl (by kernel_rfl)) (fun hS0 => ?_)
    clear hK Kont
    try simp only [Act.put, List.setIfInBounds_toArray, List.set_cons_zero, List.set_cons_succ]
    clear hS
    have hS := hS0
    clear hS0
    refine done_g (by kernel_rfl) (NoPanic.normal ?_) _
    clear hS
    obtain ⟨hm4, hg4⟩ := HM.out
    have hFr := HH.out.files.2
    have hsame : ∀ b, b < w.heap.size → b ≠ g.bF → w4.heap[b]? = w.heap[b]? := fun b h1 h2 => (hg4.block b (Nat.lt_of_lt_of_le h1 hO3.size) (fun e => h2 (Option.some.inj e))).trans (hO3.block b h1)
    have hset := HH.out.fileSet (by omega) hlv ((flN M f).1, (flN M f).1.length) (Nat.le_refl _) (k + 1) (by omega) (w' := w4) (v' := .slice a (flN M f).1.length c) ?_ ?_ hm4 ?_ ?_ ?_
    · have HS := Lib.hid hset
      have HK4 := Lib.hid (hK3.drew.grown hg4 (fun j hj => by cases hj; exact .inl hFr.1))
      clear hset hm4 hg4 hsame
      go_wp2_with fail
      go_ret
      exact ⟨0, rfl, rfl, ⟨_, HS.out⟩, HK4.out⟩
    · have := HH.out.pl.len
      have hp := HX.out.place
      have hmem : flN M f ∈ M.files := by unfold flN; rw [List.getD_eq_getElem?_getD, List.getElem?_eq_getElem hp]; exact List.getElem_mem hp
      have := this _ hmem
      show (flN M f).1.length ≤ _; omega
    · have hp := HX.out.place
      have hmem : flN M f ∈ M.files := by unfold flN; rw [List.getD_eq_getElem?_getD, List.getElem?_eq_getElem hp]; exact List.getElem_mem hp
      exact fun z hz => HH.out.pl.bytes _ hmem z hz
    · have hd := HX.out.data
      rw [HSV.out] at hd
      exact hd.same8 (fun b hb hl => hsame b hl (fun e => by
        have h1 := (HX.out.own b (by rw [HSV.out]; exact hb)).2
        rw [e, hFr.2] at h1; omega))
    · intro b hb; exact .inl (by rw [HSV.out]; exact hb)
    · intro b h1 h2 h3 h4
      exact hsame b h2 (fun e => h3 (by rw [e]; exact hFr.2))
set_option maxHeartbeats 1000000 in
theorem sync_any (g : G8) (k : Nat) (w : World) (F : Nat → Prop) (p : Nat) (M : DK) (hk : k ≤ 800) (hF : ∀ b, w.heap.size ≤ b → F b) (h : DD g k w F p M) (s : ByteArray) (hs : s.size ≤ 1000) :
    Calls Try.prog 27 #[.pointer (some ⟨p, 0, none⟩), .string s] w (Tells (Did (k + 3) F p w (syncD M s))) := by
  obtain ⟨w1, hw1, hO, hK, hS, c0, c1⟩ := box2 w p s
  have hd : DD g k w1 (But F w 2) p M := h.but hO
  have hc := whole_any g k w1 (But F w 2) p M (by omega) (but_new hF hS) hd 65 #[.pointer (some ⟨w.heap.size, 0, none⟩), .pointer (some ⟨w.heap.size + 1, 0, none⟩)] (fun M => syncedD M s) (enters_of Try.func65 (by kernel_rfl) rfl)
    (fun e0 w2 h1 k1 => (sync1_any g (k + 1) w2 (But F w 2) p _ (by omega) (fun b hb => but_new hF hS b (Nat.le_trans k1.size hb)) h1 s hs _ _ (k1.cell c0 (but_not (i := 0) (by omega))) (k1.cell c1 (but_not (i := 1) (by omega)))).mono (fun e w3 ⟨v, he, hv⟩ => ⟨v, he, hv.back (Kp.refl _ _) (fun _ h => h) (by omega)⟩))
  have HK := Lib.hid (hK F)
  rw [hw1] at hc c0
  have HC := Lib.hid hc
  have HW := Lib.hid hw1
  clear h hd hc hO hK c1 hw1 hS
  go_enter Try.func27, Try.ntmps27
  go_wp2_with fail
  refine HC.out.mono ?_
  rintro e w' ⟨v, rfl, hv⟩
  have HV := Lib.hid hv
  clear hv
  go_wp2_with fail
  go_ret
  exact ⟨v, rfl, HV.out.back (HW.out ▸ HK.out) (fun _ h => h.1) (Nat.le_refl _)⟩
end Go.Proofs.Ytlagmjdldplblaa
/- Contracts of package disk: Append. -/
namespace Go.Proofs.Ytlagmjdldplblaa
open Go.ChangeShapes Go.WideShapes Go.ChangeAt Go.RowKit Go.WideMaps Go.Maps
set_option linter.unusedVariables false
set_option maxRecDepth 4000

/-- the first z of the bytes behind those of a file, if there is room for all -/
def apD (M : DK) (s : ByteArray) (b : List Int) (z : Nat) : DK × Int := match findN M.names s with
  | none => (M, 30)
  | some f => if ((usedD M + b.length : Nat) : Int) ≤ M.quota then (putD M f ((flN M f).1 ++ b.take z, (flN M f).2), 0) else (M, 32)
theorem Old.trans {a b c : World} (h : Old a b) (k : Old b c) : Old a c := ⟨Nat.le_trans h.size k.size, fun i hi => (k.block i (Nat.lt_of_lt_of_le hi h.size)).trans (h.block i hi)⟩
theorem BV.old {V w : World} {A : Option Addr} {n : Nat} {zs : List Int} (h : BV V A n zs) (o : Old V w) : BV w A n zs := h.other (fun x hx hl => o.block _ hl)
theorem DD.mem {g : G8} {k : Nat} {w : World} {F : Nat → Prop} {p : Nat} {M : DK} (h : DD g k w F p M) {f : Nat} (hf : f < M.files.length) : flN M f ∈ M.files := by unfold flN; rw [List.getD_eq_getElem?_getD, List.getElem?_eq_getElem hf]; exact List.getElem_mem hf
set_option maxHeartbeats 4000000 in
theorem append1_any (g : G8) (k : Nat) (w : World) (F : Nat → Prop) (p : Nat) (M : DK) (hk : k ≤ 900) (hF : ∀ b, w.heap.size ≤ b → F b) (h : DD g k w F p M) (s : ByteArray) (hs : s.size ≤ 1000) (b0 b1 b2 : Nat) (A : Option Addr) (n c : Nat) (zs : List Int) (hv : BV w A n zs) (hnc : n ≤ c) (hn : n ≤ 1000) (z : Nat) (hz : z ≤ n) (hb0 : ¬ F b0)
    (c0 : w.cell? ⟨b0, 0, none⟩ = some (.pointer (some ⟨p, 0, none⟩))) (c1 : w.cell? ⟨b1, 0, none⟩ = some (.string s)) (c2 : w.cell? ⟨b2, 0, none⟩ = some (.slice A n c)) :
    Calls Try.prog 52 #[.int .i64 (z : Int), .pointer (some ⟨b0, 0, none⟩), .pointer (some ⟨b1, 0, none⟩), .pointer (some ⟨b2, 0, none⟩)] w (Tells (Did (k + 1) F p w (apD M s zs z))) := by
  have d2 := h.blk.cell 2 (v := .map (some g.bN)) rfl
  have d1 := h.blk.cell 1 (v := .map (some g.bF)) rfl
  have d0 := h.blk.cell 0 (v := .int .i64 M.quota) rfl
  have hlk := fun wq (hq : Old w wq) => nm_look (ownsMap_same h.names.1 (hq.block _ h.names.1.lt)) (s := s) (by omega)
  generalize hO : lookO g.og M.names s = o at hlk
  unfold oV at hlk
  have HH := Lib.hid h
  have hzl := hv.1
  cases hf : findN M.names s with
  | none =>
    have hm : apD M s zs z = (M, 30) := by unfold apD; rw [hf]
    rw [hm]
    rw [hf] at hlk
    simp only [Option.isSome_none] at hlk
    clear h hm hO hf hv
    go_enter Try.func52, Try.ntmps52
    go_wp2_with fail
    refine wp_region_noPanic ?_
    refine region_g 10 (Old w) (by kernel_rfl) ((Old.refl w).drew) (fun hS => ?_)
    refine take_g (i := 0) (v := ?_) [0] (some 10) rfl (by kernel_rfl) rfl (fun _ _ _ h => h) (Or.inl ⟨by rfl, ?_⟩) hS ?_
    rotate_left
    · (intro wq hq; have q0 := hq.cell c0; have q1 := hq.cell d2; have q2 := hq.cell c1; go_simp); first | done | with_reducible rfl
    try simp only [Act.put, List.setIfInBounds_toArray, List.set_cons_zero, List.set_cons_succ]
    replace hS := Till.list 0 hS
    refine take_g (i := 4) (v := ?_) [4] (some 14) rfl (by kernel_rfl) rfl (fun _ _ _ h => h) (Or.inl ⟨by rfl, ?_⟩) hS ?_
    rotate_left
    · (intro wq hq; have q0 := hq.cell c0; have q1 := hq.cell d2; have q2 := hq.cell c1; go_simp); first | done | with_reducible rfl
    try simp only [Act.put, List.setIfInBounds_toArray, List.set_cons_zero, List.set_cons_succ]
    replace hS := Till.list 4 hS
    refine take_w (i := 1) (v := ?_) (some 11) rfl (by kernel_rfl) rfl (fun _ _ _ h => h) (Or.inl ⟨by rfl, ?_⟩) hS ?_
    rotate_left
    · (intro wq hq; go_simp); first | done | with_reducible rfl
    try simp only [Act.put, List.setIfInBounds_toArray, List.set_cons_zero, List.set_cons_succ]
    replace hS := Till.list 1 hS
    refine take_w (i := 2) (v := ?_) (some 12) rfl (by kernel_rfl) rfl (fun _ _ _ h => h) (Or.inl ⟨by rfl, ?_⟩) hS ?_
    rotate_left
    · (intro wq hq; go_simp); first | done | with_reducible rfl
    try simp only [Act.put, List.setIfInBounds_toArray, List.set_cons_zero, List.set_cons_succ]
    replace hS := Till.list 2 hS
    refine take_g (i := 3) (v := ?_) [3] (some 13) rfl (by kernel_rfl) rfl (fun _ _ _ h => h) (Or.inl ⟨by rfl, ?_⟩) hS ?_
    rotate_left
    · (intro wq hq; have q0 := hq.cell c0; have q1 := hq.cell d2; have q2 := hq.cell c1; go_simp); first | done | with_reducible rfl
    try simp only [Act.put, List.setIfInBounds_toArray, List.set_cons_zero, List.set_cons_succ]
    replace hS := Till.list 3 hS
    refine take_g (i := 5) (v := .tuple #[.agg #[.int .i64 o.1, .string o.2], .bool false]) [5] (some 15) rfl (by kernel_rfl) rfl (fun _ _ _ h => h) (Or.inl ⟨by rfl, ?_⟩) hS ?_
    · (intro wq hq; (have q0 := hlk wq hq; go_simp))
    try simp only [Act.put, List.setIfInBounds_toArray, List.set_cons_zero, List.set_cons_succ]
    replace hS := Till.list 5 hS
    refine take_w (i := 6) (v := ?_) (some 9) rfl (by kernel_rfl) rfl (fun _ _ _ h => h) (Or.inl ⟨by rfl, ?_⟩) hS ?_
    rotate_left
    · (intro wq hq; go_simp); first | done | with_reducible rfl
    try simp only [Act.put, List.setIfInBounds_toArray, List.set_cons_zero, List.set_cons_succ]
    replace hS := Till.list 6 hS
    refine take_w (i := 7) (v := ?_) (some 16) rfl (by kernel_rfl) rfl (fun _ _ _ h => h) (Or.inl ⟨by rfl, ?_⟩) hS ?_
    rotate_left
    · (intro wq hq; go_simp); first | done | with_reducible rfl
    try simp only [Act.put, List.setIfInBounds_toArray, List.set_cons_zero, List.set_cons_succ]
    replace hS := Till.list 7 hS
    refine take_w (i := 8) (v := ?_) (some 17) rfl (by kernel_rfl) rfl (fun _ _ _ h => h) (Or.inl ⟨by rfl, ?_⟩) hS ?_
    rotate_left
    · (intro wq hq; go_simp); first | done | with_reducible rfl
    try simp only [Act.put, List.setIfInBounds_toArray, List.set_cons_zero, List.set_cons_succ]
    replace hS := Till.list 8 hS
    refine ready_g (rs := [9]) (by kernel_rfl) (by simp) ?_
    refine AllReadyG.cons rfl (fun Kont hK => ?_) AllReadyG.nil
    go_simp
    refine hK.out _ _ (Or.inr (((hS.get (by kernel_rfl)).alloc _))) (fun hS0 => ?_)
    clear hK Kont
    try simp only [Act.put, List.setIfInBounds_toArray, List.set_cons_zero, List.set_cons_succ]
    clear hS
    have hS := hS0
    clear hS0
    refine ready_g (rs := [10]) (by kernel_rfl) (by simp) ?_
    refine AllReadyG.cons rfl (fun Kont hK => ?_) AllReadyG.nil
    go_simp
    refine hK.out _ _ (Or.inl (by kernel_rfl)) (fun hS0 => ?_)
    clear hK Kont
    try simp only [Act.put, List.setIfInBounds_toArray, List.set_cons_zero, List.set_cons_succ]
    clear hS
    have hS := hS0
    clear hS0
    refine take_w (i := 11) (v := ?_) (some 7) rfl (by kernel_rfl) rfl (fun _ _ _ h => h) (Or.inl ⟨by rfl, ?_⟩) hS ?_
    rotate_left
    · (intro wq hq; go_simp); first | done | with_reducible rfl
    try simp only [Act.put, List.setIfInBounds_toArray, List.set_cons_zero, List.set_cons_succ]
    replace hS := Till.list 11 hS
    refine done_g (by kernel_rfl) (NoPanic.normal ?_) _
    clear hS
    go_wp2_with fail
    go_ret
    exact ⟨30, rfl, rfl, ⟨g, (HH.out.alloc _).drew.more (by omega)⟩, ((Kp.refl F _).alloc _).drew⟩
  | some f =>
    rw [hf] at hlk
    simp only [Option.isSome_some] at hlk
    have ho : g.og f = o := by rw [← hO]; unfold lookO; rw [hf]
    have hlv := h.live f (.inl ⟨_, findN_mem hf, rfl⟩)
    have hx := h.each f hlv
    have hub := used_bound h (by omega)
    have hwr : IntKind.i64.wrap ((usedD M : Int) + (n : Int)) = (usedD M : Int) + (n : Int) := by rw [IntKind.wrap_i64]; omega
    have HX := Lib.hid hx
    have HO := Lib.hid ho
    have HV := Lib.hid hv
    have hO1 : Old w (w.alloc (.cells #[.int .i64 o.1, .string o.2] 83)).drew := ((Old.refl w).alloc _).drew
    have hK1 : Kp F w (w.alloc (.cells #[.int .i64 o.1, .string o.2] 83)).drew := ((Kp.refl F w).alloc _).drew
    have hN1 : Bk (w.alloc (.cells #[.int .i64 o.1, .string o.2] 83)).drew w.heap.size _ 83 := Bk.new w #[.int .i64 o.1, .string o.2] 83
    have hS1 : (w.alloc (.cells #[.int .i64 o.1, .string o.2] 83)).drew.heap.size = w.heap.size + 1 := by show (w.heap.push _).size = _; simp
    by_cases hroom : ((usedD M + zs.length : Nat) : Int) ≤ M.quota
    · have hm : apD M s zs z = (putD M f ((flN M f).1 ++ zs.take z, (flN M f).2), 0) := by unfold apD; rw [hf]; simp only []; rw [if_pos hroom]
      rw [hm]
      have hr1 : ¬ (M.quota < (usedD M : Int) + (n : Int)) := by omega
      have hr2 : decide (M.quota < (usedD M : Int) + (n : Int)) = false := by simpa using hr1
      obtain ⟨a, ca, hsv⟩ := hx.data.os.shape
      have hlf := fun wq (hq : Old w wq) => fm_look (h.old hq) (by omega) hlv
      rw [ho, hsv] at hlf
      unfold oV fileV at hlf
      have HSV := Lib.hid hsv
      have HR := Lib.hid hroom
      clear h hm hO hf hx ho hsv hv hroom
      go_enter Try.func52, Try.ntmps52
      go_wp2_with fail
      refine wp_region_noPanic ?_
      refine region_g 10 (Old w) (by kernel_rfl) ((Old.refl w).drew) (fun hS => ?_)
      refine take_g (i := 0) (v := ?_) [0] (some 10) rfl (by kernel_rfl) rfl (fun _ _ _ h => h) (Or.inl ⟨by rfl, ?_⟩) hS ?_
      rotate_left
      · (intro wq hq; have q0 := hq.cell c0; have q1 := hq.cell d2; have q2 := hq.cell c1; go_simp); first | done | with_reducible rfl
      try simp only [Act.put, List.setIfInBounds_toArray, List.set_cons_zero, List.set_cons_succ]
      replace hS := Till.list 0 hS
      refine take_g (i := 4) (v := ?_) [4] (some 14) rfl (by kernel_rfl) rfl (fun _ _ _ h => h) (Or.inl ⟨by rfl, ?_⟩) hS ?_
      rotate_left
      · (intro wq hq; have q0 := hq.cell c0; have q1 := hq.cell d2; have q2 := hq.cell c1; go_simp); first | done | with_reducible rfl
      try simp only [Act.put, List.setIfInBounds_toArray, List.set_cons_zero, List.set_cons_succ]
      replace hS := Till.list 4 hS
      refine take_w (i := 1) (v := ?_) (some 11) rfl (by kernel_rfl) rfl (fun _ _ _ h => h) (Or.inl ⟨by rfl, ?_⟩) hS ?_
      rotate_left
      · (intro wq hq; go_simp); first | done | with_reducible rfl
      try simp only [Act.put, List.setIfInBounds_toArray, List.set_cons_zero, List.set_cons_succ]
      replace hS := Till.list 1 hS
      refine take_w (i := 2) (v := ?_) (some 12) rfl (by kernel_rfl) rfl (fun _ _ _ h => h) (Or.inl ⟨by rfl, ?_⟩) hS ?_
      rotate_left
      · (intro wq hq; go_simp); first | done | with_reducible rfl
      try simp only [Act.put, List.setIfInBounds_toArray, List.set_cons_zero, List.set_cons_succ]
      replace hS := Till.list 2 hS
      refine take_g (i := 3) (v := ?_) [3] (some 13) rfl (by kernel_rfl) rfl (fun _ _ _ h => h) (Or.inl ⟨by rfl, ?_⟩) hS ?_
      rotate_left
      · (intro wq hq; have q0 := hq.cell c0; have q1 := hq.cell d2; have q2 := hq.cell c1; go_simp); first | done | with_reducible rfl
      try simp only [Act.put, List.setIfInBounds_toArray, List.set_cons_zero, List.set_cons_succ]
      replace hS := Till.list 3 hS
      refine take_g (i := 5) (v := .tuple #[.agg #[.int .i64 o.1, .string o.2], .bool true]) [5] (some 15) rfl (by kernel_rfl) rfl (fun _ _ _ h => h) (Or.inl ⟨by rfl, ?_⟩) hS ?_
      · (intro wq hq; (have q0 := hlk wq hq; go_simp))
      try simp only [Act.put, List.setIfInBounds_toArray, List.set_cons_zero, List.set_cons_succ]
      replace hS := Till.list 5 hS
      refine take_w (i := 6) (v := ?_) (some 9) rfl (by kernel_rfl) rfl (fun _ _ _ h => h) (Or.inl ⟨by rfl, ?_⟩) hS ?_
      rotate_left
      · (intro wq hq; go_simp); first | done | with_reducible rfl
      try simp only [Act.put, List.setIfInBounds_toArray, List.set_cons_zero, List.set_cons_succ]
      replace hS := Till.list 6 hS
      refine take_w (i := 7) (v := ?_) (some 16) rfl (by kernel_rfl) rfl (fun _ _ _ h => h) (Or.inl ⟨by rfl, ?_⟩) hS ?_
      rotate_left
      · (intro wq hq; go_simp); first | done | with_reducible rfl
      try simp only [Act.put, List.setIfInBounds_toArray, List.set_cons_zero, List.set_cons_succ]
      replace hS := Till.list 7 hS
      refine take_w (i := 8) (v := ?_) (some 17) rfl (by kernel_rfl) rfl (fun _ _ _ h => h) (Or.inl ⟨by rfl, ?_⟩) hS ?_
      rotate_left
      · (intro wq hq; go_simp); first | done | with_reducible rfl
      try simp only [Act.put, List.setIfInBounds_toArray, List.set_cons_zero, List.set_cons_succ]
      replace hS := Till.list 8 hS
      refine ready_g (rs := [9]) (by kernel_rfl) (by simp) ?_
      refine AllReadyG.cons rfl (fun Kont hK => ?_) AllReadyG.nil
      go_simp
      refine hK.out _ _ (Or.inr (((hS.get (by kernel_rfl)).alloc _))) (fun hS0 => ?_)
      clear hK Kont
      try simp only [Act.put, List.setIfInBounds_toArray, List.set_cons_zero, List.set_cons_succ]
      clear hS
      have hS := hS0
      clear hS0
      refine ready_g (rs := [10]) (by kernel_rfl) (by simp) ?_
      refine AllReadyG.cons rfl (fun Kont hK => ?_) AllReadyG.nil
      go_simp
      refine hK.out _ _ (Or.inl (by kernel_rfl)) (fun hS0 => ?_)
      clear hK Kont
      try simp only [Act.put, List.setIfInBounds_toArray, List.set_cons_zero, List.set_cons_succ]
      clear hS
      have hS := hS0
      clear hS0
      refine take_w (i := 11) (v := ?_) (some 7) rfl (by kernel_rfl) rfl (fun _ _ _ h => h) (Or.inl ⟨by rfl, ?_⟩) hS ?_
      rotate_left
      · (intro wq hq; go_simp); first | done | with_reducible rfl
      try simp only [Act.put, List.setIfInBounds_toArray, List.set_cons_zero, List.set_cons_succ]
      replace hS := Till.list 11 hS
      refine done_g (by kernel_rfl) (NoPanic.normal ?_) _
      clear hS
      go_wp2_with fail
      generalize (w.alloc (.cells #[.int .i64 o.1, .string o.2] 83)).drew = w1 at *
      clear hlk
      have y0 := hO1.cell c0
      have y2 := hO1.cell c2
      have y3 := hO1.cell d0
      refine wp_region_noPanic ?_
      refine region_g 10 (Old w1) (by kernel_rfl) ((Old.refl w1).drew) (fun hS => ?_)
      refine take_n (i := 0) (v := ?_) (some 20) rfl (by kernel_rfl) rfl (fun _ _ _ h => h) (Or.inl ⟨by rfl, ?_⟩) hS ?_
      rotate_left
      · (intro wq hq; have q0 := hq.cell y0; have q1 := hq.cell y2; have q2 := hq.cell y3; go_simp); first | done | with_reducible rfl
      try simp only [Act.put, List.setIfInBounds_toArray, List.set_cons_zero, List.set_cons_succ]
      replace hS := Till.list 0 hS
      refine take_n (i := 2) (v := ?_) (some 22) rfl (by kernel_rfl) rfl (fun _ _ _ h => h) (Or.inl ⟨by rfl, ?_⟩) hS ?_
      rotate_left
      · (intro wq hq; have q0 := hq.cell y0; have q1 := hq.cell y2; have q2 := hq.cell y3; go_simp); first | done | with_reducible rfl
      try simp only [Act.put, List.setIfInBounds_toArray, List.set_cons_zero, List.set_cons_succ]
      replace hS := Till.list 2 hS
      refine take_n (i := 5) (v := ?_) (some 25) rfl (by kernel_rfl) rfl (fun _ _ _ h => h) (Or.inl ⟨by rfl, ?_⟩) hS ?_
      rotate_left
      · (intro wq hq; have q0 := hq.cell y0; have q1 := hq.cell y2; have q2 := hq.cell y3; go_simp); first | done | with_reducible rfl
      try simp only [Act.put, List.setIfInBounds_toArray, List.set_cons_zero, List.set_cons_succ]
      replace hS := Till.list 5 hS
      refine take_w (i := 3) (v := ?_) (some 23) rfl (by kernel_rfl) rfl (fun _ _ _ h => h) (Or.inl ⟨by rfl, ?_⟩) hS ?_
      rotate_left
      · (intro wq hq; go_simp); first | done | with_reducible rfl
      try simp only [Act.put, List.setIfInBounds_toArray, List.set_cons_zero, List.set_cons_succ]
      replace hS := Till.list 3 hS
      refine take_w (i := 6) (v := ?_) (some 26) rfl (by kernel_rfl) rfl (fun _ _ _ h => h) (Or.inl ⟨by rfl, ?_⟩) hS ?_
      rotate_left
      · (intro wq hq; go_simp); first | done | with_reducible rfl
      try simp only [Act.put, List.setIfInBounds_toArray, List.set_cons_zero, List.set_cons_succ]
      replace hS := Till.list 6 hS
      refine take_w (i := 7) (v := ?_) (some 27) rfl (by kernel_rfl) rfl (fun _ _ _ h => h) (Or.inl ⟨by rfl, ?_⟩) hS ?_
      rotate_left
      · (intro wq hq; go_simp); first | done | with_reducible rfl
      try simp only [Act.put, List.setIfInBounds_toArray, List.set_cons_zero, List.set_cons_succ]
      replace hS := Till.list 7 hS
      refine take_n (i := 8) (v := ?_) (some 28) rfl (by kernel_rfl) rfl (fun _ _ _ h => h) (Or.inl ⟨by rfl, ?_⟩) hS ?_
      rotate_left
      · (intro wq hq; have q0 := hq.cell y0; have q1 := hq.cell y2; have q2 := hq.cell y3; go_simp); first | done | with_reducible rfl
      try simp only [Act.put, List.setIfInBounds_toArray, List.set_cons_zero, List.set_cons_succ]
      replace hS := Till.list 8 hS
      refine ready_g (rs := [1]) (by kernel_rfl) (by simp) ?_
      refine AllReadyG.cons rfl (fun Kont hK => ?_) AllReadyG.nil
      go_simp
      refine (used_any g k _ F p M (by omega) ((HH.out.old hO1).drew)).mono ?_
      rintro e w2 ⟨rfl, hb2⟩
      refine hK.out _ _ (Or.inr (((hS.get (by kernel_rfl)).below hb2))) (fun hS0 => ?_)
      clear hK Kont
      try simp only [Act.put, List.setIfInBounds_toArray, List.set_cons_zero, List.set_cons_succ]
      clear hS
      have hS := hS0
      clear hS0
      refine take_w (i := 4) (v := ?_) (some 24) rfl (by kernel_rfl) rfl (fun _ _ _ h => h) (Or.inl ⟨by rfl, ?_⟩) hS ?_
      rotate_left
      · (intro wq hq; go_simp); first | done | with_reducible rfl
      try simp only [Act.put, List.setIfInBounds_toArray, List.set_cons_zero, List.set_cons_succ]
      replace hS := Till.list 4 hS
      refine take_w (i := 9) (v := ?_) (some 29) rfl (by kernel_rfl) rfl (fun _ _ _ h => h) (Or.inl ⟨by rfl, ?_⟩) hS ?_
      rotate_left
      · (intro wq hq; go_simp); first | done | with_reducible rfl
      try simp only [Act.put, List.setIfInBounds_toArray, List.set_cons_zero, List.set_cons_succ]
      replace hS := Till.list 9 hS
      refine done_g (by kernel_rfl) (NoPanic.normal ?_) _
      clear hS
      have hb2' : Below w1.heap.size w1 w2 := ⟨hb2.os, hb2.tape, hb2.output, hb2.size, hb2.block⟩
      have hO2 : Old w1 w2 := (Old.refl w1).below hb2'
      have hK2 : Kp F w w2 := hK1.of_below hb2' (fun b hb _ => Nat.lt_of_lt_of_le hb hO1.size)
      clear hb2
      have hO12 := hO1.trans hO2
      have x0 := hO2.cell (hN1.cell 0 (v := .int .i64 o.1) rfl)
      have x1 := hO2.cell (hN1.cell 1 (v := .string o.2) rfl)
      have y1 := hO12.cell d1
      replace y0 := hO2.cell y0
      replace y2 := hO2.cell y2
      clear y3
      have hlf2 := fun wq (hq : Old w2 wq) => hlf wq (hO12.trans hq)
      clear hlf
      go_wp2_with fail
      refine wp_region_noPanic ?_
      refine region_g 7 (Old w2) (by kernel_rfl) ((Old.refl w2).drew) (fun hS => ?_)
      refine take_g (i := 0) (v := ?_) [0] (some 30) rfl (by kernel_rfl) rfl (fun _ _ _ h => h) (Or.inl ⟨by rfl, ?_⟩) hS ?_
      rotate_left
      · (intro wq hq; have q0 := hq.cell x0; have q1 := hq.cell x1; have q2 := hq.cell y0; have q3 := hq.cell y1; go_simp); first | done | with_reducible rfl
      try simp only [Act.put, List.setIfInBounds_toArray, List.set_cons_zero, List.set_cons_succ]
      replace hS := Till.list 0 hS
      refine take_g (i := 4) (v := ?_) [4] (some 34) rfl (by kernel_rfl) rfl (fun _ _ _ h => h) (Or.inl ⟨by rfl, ?_⟩) hS ?_
      rotate_left
      · (intro wq hq; have q0 := hq.cell x0; have q1 := hq.cell x1; have q2 := hq.cell y0; have q3 := hq.cell y1; go_simp); first | done | with_reducible rfl
      try simp only [Act.put, List.setIfInBounds_toArray, List.set_cons_zero, List.set_cons_succ]
      replace hS := Till.list 4 hS
      refine take_w (i := 1) (v := ?_) (some 31) rfl (by kernel_rfl) rfl (fun _ _ _ h => h) (Or.inl ⟨by rfl, ?_⟩) hS ?_
      rotate_left
      · (intro wq hq; go_simp); first | done | with_reducible rfl
      try simp only [Act.put, List.setIfInBounds_toArray, List.set_cons_zero, List.set_cons_succ]
      replace hS := Till.list 1 hS
      refine take_w (i := 2) (v := ?_) (some 32) rfl (by kernel_rfl) rfl (fun _ _ _ h => h) (Or.inl ⟨by rfl, ?_⟩) hS ?_
      rotate_left
      · (intro wq hq; go_simp); first | done | with_reducible rfl
      try simp only [Act.put, List.setIfInBounds_toArray, List.set_cons_zero, List.set_cons_succ]
      replace hS := Till.list 2 hS
      refine take_g (i := 3) (v := ?_) [3] (some 33) rfl (by kernel_rfl) rfl (fun _ _ _ h => h) (Or.inl ⟨by rfl, ?_⟩) hS ?_
      rotate_left
      · (intro wq hq; have q0 := hq.cell x0; have q1 := hq.cell x1; have q2 := hq.cell y0; have q3 := hq.cell y1; go_simp); first | done | with_reducible rfl
      try simp only [Act.put, List.setIfInBounds_toArray, List.set_cons_zero, List.set_cons_succ]
      replace hS := Till.list 3 hS
      refine take_g (i := 5) (v := .agg #[.slice a (flN M f).1.length ca, .int .i64 ((flN M f).2 : Int)]) [5] (some 35) rfl (by kernel_rfl) rfl (fun _ _ _ h => h) (Or.inl ⟨by rfl, ?_⟩) hS ?_
      · (intro wq hq; (have q0 := hlf2 wq hq; go_simp))
      try simp only [Act.put, List.setIfInBounds_toArray, List.set_cons_zero, List.set_cons_succ]
      replace hS := Till.list 5 hS
      refine ready_g (rs := [6]) (by kernel_rfl) (by simp) ?_
      refine AllReadyG.cons rfl (fun Kont hK => ?_) AllReadyG.nil
      go_simp
      refine hK.out _ _ (Or.inr (((hS.get (by kernel_rfl)).alloc _))) (fun hS0 => ?_)
      clear hK Kont
      try simp only [Act.put, List.setIfInBounds_toArray, List.set_cons_zero, List.set_cons_succ]
      clear hS
      have hS := hS0
      clear hS0
      refine ready_g (rs := [7]) (by kernel_rfl) (by simp) ?_
      refine AllReadyG.cons rfl (fun Kont hK => ?_) AllReadyG.nil
      go_simp
      refine hK.out _ _ (Or.inl (by kernel_rfl)) (fun hS0 => ?_)
      clear hK Kont
      try simp only [Act.put, List.setIfInBounds_toArray, List.set_cons_zero, List.set_cons_succ]
      clear hS
      have hS := hS0
      clear hS0
      refine done_g (by kernel_rfl) (NoPanic.normal ?_) _
      clear hS
      have hO3 : Old w2 (w2.alloc (.cells #[.slice a (flN M f).1.length ca, .int .i64 ((flN M f).2 : Int)] 85)).drew := ((Old.refl w2).alloc _).drew
      have hK3 : Kp F w (w2.alloc (.cells #[.slice a (flN M f).1.length ca, .int .i64 ((flN M f).2 : Int)] 85)).drew := (hK2.alloc _).drew
      have hN3 : Bk (w2.alloc (.cells #[.slice a (flN M f).1.length ca, .int .i64 ((flN M f).2 : Int)] 85)).drew w2.heap.size _ 85 := Bk.new w2 #[.slice a (flN M f).1.length ca, .int .i64 ((flN M f).2 : Int)] 85
      have hS3 : (w2.alloc (.cells #[.slice a (flN M f).1.length ca, .int .i64 ((flN M f).2 : Int)] 85)).drew.heap.size = w2.heap.size + 1 := by show (w2.heap.push _).size = _; simp
      go_wp2_with fail
      generalize (w2.alloc (.cells #[.slice a (flN M f).1.length ca, .int .i64 ((flN M f).2 : Int)] 85)).drew = w3 at *
      have hO13 := hO12.trans hO3
      have z0 := hN3.cell 0 (v := .slice a (flN M f).1.length ca) rfl
      have z1 := hN3.cell 1 (v := .int .i64 ((flN M f).2 : Int)) rfl
      replace x0 := hO3.cell x0
      replace x1 := hO3.cell x1
      replace y0 := hO3.cell y0
      replace y1 := hO3.cell y1
      replace y2 := hO3.cell y2
      have hzc1 : (z : Int) ≤ (c : Int) := by omega
      have hzc2 : z ≤ c := by omega
      have hz0 : (0 : Int) ≤ (z : Int) := by omega
      refine wp_region_noPanic ?_
      refine region_g 5 (Old w3) (by kernel_rfl) ((Old.refl w3).drew) (fun hS => ?_)
      refine take_w (i := 0) (v := ?_) (some 36) rfl (by kernel_rfl) rfl (fun _ _ _ h => h) (Or.inl ⟨by rfl, ?_⟩) hS ?_
      rotate_left
      · (intro wq hq; go_simp); first | done | with_reducible rfl
      try simp only [Act.put, List.setIfInBounds_toArray, List.set_cons_zero, List.set_cons_succ]
      replace hS := Till.list 0 hS
      refine take_g (i := 2) (v := ?_) [4, 2] (some 38) rfl (by kernel_rfl) rfl (fun _ _ _ h => h) (Or.inl ⟨by rfl, ?_⟩) hS ?_
      rotate_left
      · (intro wq hq; have q0 := hq.cell z0; have q1 := hq.cell y2; go_simp); first | done | with_reducible rfl
      try simp only [Act.put, List.setIfInBounds_toArray, List.set_cons_zero, List.set_cons_succ]
      replace hS := Till.list 2 hS
      refine take_w (i := 3) (v := ?_) (some 39) rfl (by kernel_rfl) rfl (fun _ _ _ h => h) (Or.inl ⟨by rfl, ?_⟩) hS ?_
      rotate_left
      · (intro wq hq; go_simp); first | done | with_reducible rfl
      try simp only [Act.put, List.setIfInBounds_toArray, List.set_cons_zero, List.set_cons_succ]
      replace hS := Till.list 3 hS
      refine take_g (i := 1) (v := ?_) [1] (some 37) rfl (by kernel_rfl) rfl (fun _ _ _ h => h) (Or.inl ⟨by rfl, ?_⟩) hS ?_
      rotate_left
      · (intro wq hq; have q0 := hq.cell z0; have q1 := hq.cell y2; go_simp); first | done | with_reducible rfl
      try simp only [Act.put, List.setIfInBounds_toArray, List.set_cons_zero, List.set_cons_succ]
      replace hS := Till.list 1 hS
      refine take_w (i := 4) (v := ?_) (some 40) rfl (by kernel_rfl) rfl (fun _ _ _ h => h) (Or.inl ⟨by rfl, ?_⟩) hS ?_
      rotate_left
      · (intro wq hq; go_simp); first | done | with_reducible rfl
      try simp only [Act.put, List.setIfInBounds_toArray, List.set_cons_zero, List.set_cons_succ]
      replace hS := Till.list 4 hS
      have hdat := HX.out.data
      rw [HSV.out] at hdat
      have hlow : ∀ b, (Value.slice a (flN M f).1.length ca).ownBlock = some b → b < w.heap.size := fun b hb => hdat.low0 hb
      have hdl := HH.out.pl.len _ (HH.out.mem HX.out.place)
      have hch : OS 1 w3.drew 0 (.slice a (flN M f).1.length ca) (flN M f).1.length (bcells (flN M f).1) := (hdat.same8 (w' := w3) (fun b hb hl => hO13.block b hl)).os
      have hsrc : SV 1 w3.drew A z (bcells (zs.take z)) := by
        have := SV.take (HV.out.old hO13.drew).sv z hz
        rwa [Nat.mul_one, bcells, ← List.map_take] at this
      refine ready_g (rs := [5]) (by kernel_rfl) (by simp) ?_
      refine AllReadyG.cons rfl (fun Kont hK => ?_) AllReadyG.nil
      refine want (by kernel_rfl) ?_
      refine wp_append_os2 el_bytes (some 41) rfl (.tmp 37) (.tmp 40) rfl 0 (.slice a (flN M f).1.length ca) (flN M f).1.length (bcells (flN M f).1) rfl hch A z c (bcells (zs.take z)) rfl hsrc (by omega) (by omega) (Nat.zero_le _) ?_
      intro v4 w4 ho4 hb4 ob4 hk4
      refine hK.out _ _ (Or.inl (by kernel_rfl)) (fun hS0 => ?_)
      clear hK Kont
      try simp only [Act.put, List.setIfInBounds_toArray, List.set_cons_zero, List.set_cons_succ]
      clear hS
      have hS := hS0
      clear hS0
      have hk4' : ∀ b, b < w3.heap.size → (Value.slice a (flN M f).1.length ca).ownBlock ≠ some b → w4.heap[b]? = w3.heap[b]? := hk4
      have hb4' : w4.os = w3.os ∧ w4.tape = w3.tape ∧ w4.output = w3.output ∧ w3.heap.size ≤ w4.heap.size := ⟨hb4.os, hb4.tape, hb4.output, hb4.size⟩
      have hS0 := hO12.size
      have hN4 : Bk w4 w2.heap.size _ 85 := (hk4' _ (by omega) (fun e => by have := hlow _ e; omega)).trans hN3
      have u0 := hN4.cell 0 (v := .slice a (flN M f).1.length ca) rfl
      have fu := hN4.free 0
      obtain ⟨A5, C5, rfl⟩ := ho4.shape
      have hnew : ∀ b, (Value.slice A5 ((flN M f).1.length + z) C5).ownBlock = some b → (Value.slice a (flN M f).1.length ca).ownBlock = some b ∨ b = w3.heap.size := by
        intro b hb
        rcases ob4 with e | e
        · exact .inl (by rw [← e]; exact hb)
        · rw [hb] at e; exact .inr (Option.some.inj e)
      have hos4 : OW w4 0 (.slice A5 ((flN M f).1.length + z) C5) ((flN M f).1 ++ zs.take z) := OS.ow (n := (flN M f).1.length + z) (by rw [bcells, List.map_append]; exact ho4)
      have HK4 := Lib.hid (And.intro hk4' (And.intro hb4' (And.intro hnew hos4)))
      clear hk4 hk4' hb4 hb4' ob4 hnew hch hsrc ho4 hos4 hdat
      refine take_w (i := 6) (v := ?_) (some 42) rfl (by kernel_rfl) rfl (fun _ _ _ h => h) (Or.inl ⟨by rfl, ?_⟩) hS ?_
      rotate_left
      · (intro wq hq; go_simp); first | done | with_reducible rfl
      try simp only [Act.put, List.setIfInBounds_toArray, List.set_cons_zero, List.set_cons_succ]
      replace hS := Till.list 6 hS
      refine ready_g (rs := [7]) (by kernel_rfl) (by simp) ?_
      refine AllReadyG.cons rfl (fun Kont hK => ?_) AllReadyG.nil
      go_simp
      refine hK.out _ _ (Or.inl (by kernel_rfl)) (fun hS0 => ?_)
      clear hK Kont
      try simp only [Act.put, List.setIfInBounds_toArray, List.set_cons_zero, List.set_cons_succ]
      clear hS
      have hS := hS0
      clear hS0
      refine done_g (by kernel_rfl) (NoPanic.normal ?_) _
      clear hS
      go_wp2_with fail
      obtain ⟨hk4, hb4, hnew, hos4⟩ := HK4.out
      have hblk : ∀ b, b < w3.heap.size → (Value.slice a (flN M f).1.length ca).ownBlock ≠ some b → b ≠ w2.heap.size → (w4.setCell ⟨w2.heap.size, 0, none⟩ (.slice A5 ((flN M f).1.length + z) C5)).heap[b]? = w3.heap[b]? := fun b h1 h2 h3 => (Below.heap_setCell _ _ _ _ h3).trans (hk4 b h1 h2)
      have hN5 := hN4.set 0 (.slice A5 ((flN M f).1.length + z) C5)
      have hos5 : OW (w4.setCell ⟨w2.heap.size, 0, none⟩ (.slice A5 ((flN M f).1.length + z) C5)) 0 (.slice A5 ((flN M f).1.length + z) C5) ((flN M f).1 ++ zs.take z) := hos4.same8 (fun b hb hl => Below.heap_setCell _ _ _ _ (fun e => by
        have e : b = w2.heap.size := e
        rcases hnew b hb with h1 | h1
        · have := hlow b h1; omega
        · omega))
      have hK5 : Kp F w (w4.setCell ⟨w2.heap.size, 0, none⟩ (.slice A5 ((flN M f).1.length + z) C5)) := by
        have hK4 : Kp F w w4 := ⟨hb4.1.trans hK3.os, hb4.2.1.trans hK3.tape, hb4.2.2.1.trans hK3.output, Nat.le_trans hK3.size hb4.2.2.2, fun b hb hn => (hk4 b (Nat.lt_of_lt_of_le hb hK3.size) (fun e => hn (HX.out.own b (by rw [HSV.out]; exact e)).1)).trans (hK3.block b hb hn)⟩
        exact hK4.setCell (.inr (by omega)) _
      have hcl : ∀ {b i : Nat} {v : Value}, w3.cell? ⟨b, i, none⟩ = some v → (Value.slice a (flN M f).1.length ca).ownBlock ≠ some b → b ≠ w2.heap.size → (w4.setCell ⟨w2.heap.size, 0, none⟩ (.slice A5 ((flN M f).1.length + z) C5)).cell? ⟨b, i, none⟩ = some v := fun hc h2 h3 => cell_block (hblk _ (cell_lt hc) h2 h3) hc
      have hsz5 : w3.heap.size ≤ (w4.setCell ⟨w2.heap.size, 0, none⟩ (.slice A5 ((flN M f).1.length + z) C5)).heap.size := by rw [size_set]; exact hb4.2.2.2
      generalize (w4.setCell ⟨w2.heap.size, 0, none⟩ (.slice A5 ((flN M f).1.length + z) C5)) = w5 at *
      have hrole : ∀ r b, g.rl b = r → r ≠ 6 + f → (Value.slice a (flN M f).1.length ca).ownBlock ≠ some b := fun r b h1 h2 e => h2 (by rw [← h1]; exact (HX.out.own b (by rw [HSV.out]; exact e)).2)
      have hpp := HH.out.blk.lt
      have hne0 : (Value.slice a (flN M f).1.length ca).ownBlock ≠ some b0 := fun e => hb0 (HX.out.own b0 (by rw [HSV.out]; exact e)).1
      have v0 := hcl y0 hne0 (by have := cell_lt c0; omega)
      have v1 := hcl y1 (hrole 0 p HH.out.foot.2 (by omega)) (by omega)
      have hne1 : (Value.slice a (flN M f).1.length ca).ownBlock ≠ some w.heap.size := fun e => by have := hlow _ e; omega
      have hS2 := hO2.size
      have v2 := hcl x0 hne1 (by omega)
      have v3 := hcl x1 hne1 (by omega)
      have v4 := hN5.cell 0 (v := .slice A5 ((flN M f).1.length + z) C5) rfl
      have v5 := hN5.cell 1 (v := .int .i64 ((flN M f).2 : Int)) rfl
      have hfl := HH.out.files.1.lt
      have hFr := HH.out.files.2
      have hb5 : ∀ b, b < w.heap.size → (Value.slice a (flN M f).1.length ca).ownBlock ≠ some b → w5.heap[b]? = w.heap[b]? := fun b h1 h2 => (hblk b (by omega) h2 (by omega)).trans (hO13.block b h1)
      obtain ⟨w6, hrun, hm6, hg6⟩ := (ownsMap_same (w' := w5.drew) HH.out.files.1 (hb5 _ hfl (hrole 1 _ hFr.2 (by omega)))).update law8O Try.underlying66 (by have := HH.out.fsize; unfold maxLen; omega) (HH.out.key (by omega) HX.out.place) (eF_mk A5 ((flN M f).1.length + z) C5 ((flN M f).2 : Int))
      have hk6 : ∀ b, b < w5.heap.size → b ≠ g.bF → w6.heap[b]? = w5.heap[b]? := fun b h1 h2 => hg6.block b h1 (fun e => h2 (Option.some.inj e))
      have hK6 : Kp F w w6 := hK5.drew.grown hg6 (fun j hj => by cases hj; exact .inl hFr.1)
      have HM := Lib.hid (And.intro hm6 (And.intro hk6 (And.intro hK6 (And.intro hos5 (And.intro hnew (And.intro hb5 hrole))))))
      rw [HO.out] at hrun
      unfold oV fV at hrun
      clear hm6 hk6 hK6 hg6 hos5 hos4 hnew hk4 hb5 hrole hblk hcl hK5 hN5 hN4 hlf2 hb4
      refine wp_region_noPanic ?_
      refine region_g 6 (Ext (World.drew _)) (by kernel_rfl) (Ext.refl _) (fun hS => ?_)
      refine take_g (i := 0) (v := ?_) [0] (some 43) rfl (by kernel_rfl) rfl (fun _ _ _ h => h) (Or.inl ⟨by rfl, ?_⟩) hS ?_
      rotate_left
      · (intro wq hq; have q0 := hq _ _ _ v0; have q1 := hq _ _ _ v1; have q2 := hq _ _ _ v2; have q3 := hq _ _ _ v3; have q4 := hq _ _ _ v4; have q5 := hq _ _ _ v5; go_simp); first | done | with_reducible rfl
      try simp only [Act.put, List.setIfInBounds_toArray, List.set_cons_zero, List.set_cons_succ]
      replace hS := Till.list 0 hS
      refine take_g (i := 4) (v := ?_) [4] (some 47) rfl (by kernel_rfl) rfl (fun _ _ _ h => h) (Or.inl ⟨by rfl, ?_⟩) hS ?_
      rotate_left
      · (intro wq hq; have q0 := hq _ _ _ v0; have q1 := hq _ _ _ v1; have q2 := hq _ _ _ v2; have q3 := hq _ _ _ v3; have q4 := hq _ _ _ v4; have q5 := hq _ _ _ v5; go_simp); first | done | with_reducible rfl
      try simp only [Act.put, List.setIfInBounds_toArray, List.set_cons_zero, List.set_cons_succ]
      replace hS := Till.list 4 hS
      refine take_g (i := 5) (v := ?_) [5] (some 48) rfl (by kernel_rfl) rfl (fun _ _ _ h => h) (Or.inl ⟨by rfl, ?_⟩) hS ?_
      rotate_left
      · (intro wq hq; have q0 := hq _ _ _ v0; have q1 := hq _ _ _ v1; have q2 := hq _ _ _ v2; have q3 := hq _ _ _ v3; have q4 := hq _ _ _ v4; have q5 := hq _ _ _ v5; go_simp); first | done | with_reducible rfl
      try simp only [Act.put, List.setIfInBounds_toArray, List.set_cons_zero, List.set_cons_succ]
      replace hS := Till.list 5 hS
      refine take_w (i := 1) (v := ?_) (some 44) rfl (by kernel_rfl) rfl (fun _ _ _ h => h) (Or.inl ⟨by rfl, ?_⟩) hS ?_
      rotate_left
      · (intro wq hq; go_simp); first | done | with_reducible rfl
      try simp only [Act.put, List.setIfInBounds_toArray, List.set_cons_zero, List.set_cons_succ]
      replace hS := Till.list 1 hS
      refine take_w (i := 2) (v := ?_) (some 45) rfl (by kernel_rfl) rfl (fun _ _ _ h => h) (Or.inl ⟨by rfl, ?_⟩) hS ?_
      rotate_left
      · (intro wq hq; go_simp); first | done | with_reducible rfl
      try simp only [Act.put, List.setIfInBounds_toArray, List.set_cons_zero, List.set_cons_succ]
      replace hS := Till.list 2 hS
      refine take_g (i := 3) (v := ?_) [3] (some 46) rfl (by kernel_rfl) rfl (fun _ _ _ h => h) (Or.inl ⟨by rfl, ?_⟩) hS ?_
      rotate_left
      · (intro wq hq; have q0 := hq _ _ _ v0; have q1 := hq _ _ _ v1; have q2 := hq _ _ _ v2; have q3 := hq _ _ _ v3; have q4 := hq _ _ _ v4; have q5 := hq _ _ _ v5; go_simp); first | done | with_reducible rfl
      try simp only [Act.put, List.setIfInBounds_toArray, List.set_cons_zero, List.set_cons_succ]
      replace hS := Till.list 3 hS
      refine ready_g (rs := [6]) (by kernel_rfl) (by simp) ?_
      refine AllReadyG.cons rfl (fun Kont hK => ?_) AllReadyG.nil
      go_simp
      refine hK.out _ _ (Or.inl (by kernel_rfl)) (fun hS0 => ?_)
      clear hK Kont
      try simp only [Act.put, List.setIfInBounds_toArray, List.set_cons_zero, List.set_cons_succ]
      clear hS
      have hS := hS0
      clear hS0
      refine done_g (by kernel_rfl) (NoPanic.normal ?_) _
      clear hS
      obtain ⟨hm6, hk6, hK6, hos5, hnew, hb5, hrole⟩ := HM.out
      have hset := HH.out.fileSet (by omega) hlv ((flN M f).1 ++ zs.take z, (flN M f).2) ?_ (k + 1) (by omega) (w' := w6) (v' := .slice A5 ((flN M f).1.length + z) C5) ?_ ?_ hm6 ?_ ?_ ?_
      · have HS := Lib.hid hset
        have HK6 := Lib.hid hK6
        clear hset hm6 hk6 hK6 hos5 hnew hb5 hrole
        go_wp2_with fail
        go_ret
        exact ⟨0, rfl, rfl, ⟨_, HS.out⟩, HK6.out⟩
      · have := HH.out.ok.fl f
        show (flN M f).2 ≤ ((flN M f).1 ++ zs.take z).length
        rw [List.length_append]; omega
      · show ((flN M f).1 ++ zs.take z).length ≤ _
        rw [List.length_append, List.length_take]; omega
      · intro y hy
        rcases List.mem_append.1 hy with hy | hy
        · exact HH.out.pl.bytes _ (HH.out.mem HX.out.place) y hy
        · exact HV.out.2.1 y (List.mem_of_mem_take hy)
      · refine hos5.same8 (fun b hb hl => hk6 b hl (fun e => ?_))
        rcases hnew b hb with h1 | h1
        · exact hrole 1 b (by rw [e]; exact hFr.2) (by omega) h1
        · omega
      · intro b hb
        rcases hnew b hb with h1 | h1
        · exact .inl (by rw [HSV.out]; exact h1)
        · exact .inr ⟨by omega, hF b (by omega)⟩
      · intro b h1 h2 h3 h4
        exact (hk6 b (by omega) (fun e => h3 (by rw [e]; exact hFr.2))).trans (hb5 b h2 (hrole _ b rfl h4))
    · have hm : apD M s zs z = (M, 32) := by unfold apD; rw [hf]; simp only []; rw [if_neg hroom]
      rw [hm]
      have hr1 : M.quota < (usedD M : Int) + (n : Int) := by omega
      have hr2 : decide (M.quota < (usedD M : Int) + (n : Int)) = true := by simpa using hr1
      clear h hm hO hf hx ho hv hroom
      go_enter Try.func52, Try.ntmps52
      go_wp2_with fail
      refine wp_region_noPanic ?_
      refine region_g 10 (Old w) (by kernel_rfl) ((Old.refl w).drew) (fun hS => ?_)
      refine take_g (i := 0) (v := ?_) [0] (some 10) rfl (by kernel_rfl) rfl (fun _ _ _ h => h) (Or.inl ⟨by rfl, ?_⟩) hS ?_
      rotate_left
      · (intro wq hq; have q0 := hq.cell c0; have q1 := hq.cell d2; have q2 := hq.cell c1; go_simp); first | done | with_reducible rfl
      try simp only [Act.put, List.setIfInBounds_toArray, List.set_cons_zero, List.set_cons_succ]
      replace hS := Till.list 0 hS
      refine take_g (i := 4) (v := ?_) [4] (some 14) rfl (by kernel_rfl) rfl (fun _ _ _ h => h) (Or.inl ⟨by rfl, ?_⟩) hS ?_
      rotate_left
      · (intro wq hq; have q0 := hq.cell c0; have q1 := hq.cell d2; have q2 := hq.cell c1; go_simp); first | done | with_reducible rfl
      try simp only [Act.put, List.setIfInBounds_toArray, List.set_cons_zero, List.set_cons_succ]
      replace hS := Till.list 4 hS
      refine take_w (i := 1) (v := ?_) (some 11) rfl (by kernel_rfl) rfl (fun _ _ _ h => h) (Or.inl ⟨by rfl, ?_⟩) hS ?_
      rotate_left
      · (intro wq hq; go_simp); first | done | with_reducible rfl
      try simp only [Act.put, List.setIfInBounds_toArray, List.set_cons_zero, List.set_cons_succ]
      replace hS := Till.list 1 hS
      refine take_w (i := 2) (v := ?_) (some 12) rfl (by kernel_rfl) rfl (fun _ _ _ h => h) (Or.inl ⟨by rfl, ?_⟩) hS ?_
      rotate_left
      · (intro wq hq; go_simp); first | done | with_reducible rfl
      try simp only [Act.put, List.setIfInBounds_toArray, List.set_cons_zero, List.set_cons_succ]
      replace hS := Till.list 2 hS
      refine take_g (i := 3) (v := ?_) [3] (some 13) rfl (by kernel_rfl) rfl (fun _ _ _ h => h) (Or.inl ⟨by rfl, ?_⟩) hS ?_
      rotate_left
      · (intro wq hq; have q0 := hq.cell c0; have q1 := hq.cell d2; have q2 := hq.cell c1; go_simp); first | done | with_reducible rfl
      try simp only [Act.put, List.setIfInBounds_toArray, List.set_cons_zero, List.set_cons_succ]
      replace hS := Till.list 3 hS
      refine take_g (i := 5) (v := .tuple #[.agg #[.int .i64 o.1, .string o.2], .bool true]) [5] (some 15) rfl (by kernel_rfl) rfl (fun _ _ _ h => h) (Or.inl ⟨by rfl, ?_⟩) hS ?_
      · (intro wq hq; (have q0 := hlk wq hq; go_simp))
      try simp only [Act.put, List.setIfInBounds_toArray, List.set_cons_zero, List.set_cons_succ]
      replace hS := Till.list 5 hS
      refine take_w (i := 6) (v := ?_) (some 9) rfl (by kernel_rfl) rfl (fun _ _ _ h => h) (Or.inl ⟨by rfl, ?_⟩) hS ?_
      rotate_left
      · (intro wq hq; go_simp); first | done | with_reducible rfl
      try simp only [Act.put, List.setIfInBounds_toArray, List.set_cons_zero, List.set_cons_succ]
      replace hS := Till.list 6 hS
      refine take_w (i := 7) (v := ?_) (some 16) rfl (by kernel_rfl) rfl (fun _ _ _ h => h) (Or.inl ⟨by rfl, ?_⟩) hS ?_
      rotate_left
      · (intro wq hq; go_simp); first | done | with_reducible rfl
      try simp only [Act.put, List.setIfInBounds_toArray, List.set_cons_zero, List.set_cons_succ]
      replace hS := Till.list 7 hS
      refine take_w (i := 8) (v := ?_) (some 17) rfl (by kernel_rfl) rfl (fun _ _ _ h => h) (Or.inl ⟨by rfl, ?_⟩) hS ?_
      rotate_left
      · (intro wq hq; go_simp); first | done | with_reducible rfl
      try simp only [Act.put, List.setIfInBounds_toArray, List.set_cons_zero, List.set_cons_succ]
      replace hS := Till.list 8 hS
      refine ready_g (rs := [9]) (by kernel_rfl) (by simp) ?_
      refine AllReadyG.cons rfl (fun Kont hK => ?_) AllReadyG.nil
      go_simp
      refine hK.out _ _ (Or.inr (((hS.get (by kernel_rfl)).alloc _))) (fun hS0 => ?_)
      clear hK Kont
      try simp only [Act.put, List.setIfInBounds_toArray, List.set_cons_zero, List.set_cons_succ]
      clear hS
      have hS := hS0
      clear hS0
      refine ready_g (rs := [10]) (by kernel_rfl) (by simp) ?_
      refine AllReadyG.cons rfl (fun Kont hK => ?_) AllReadyG.nil
      go_simp
      refine hK.out _ _ (Or.inl (by kernel_rfl)) (fun hS0 => ?_)
      clear hK Kont
      try simp only [Act.put, List.setIfInBounds_toArray, List.set_cons_zero, List.set_cons_succ]
      clear hS
      have hS := hS0
      clear hS0
      refine take_w (i := 11) (v := ?_) (some 7) rfl (by kernel_rfl) rfl (fun _ _ _ h => h) (Or.inl ⟨by rfl, ?_⟩) hS ?_
      rotate_left
      · (intro wq hq; go_simp); first | done | with_reducible rfl
      try simp only [Act.put, List.setIfInBounds_toArray, List.set_cons_zero, List.set_cons_succ]
      replace hS := Till.list 11 hS
      refine done_g (by kernel_rfl) (NoPanic.normal ?_) _
      clear hS
      go_wp2_with fail
      generalize (w.alloc (.cells #[.int .i64 o.1, .string o.2] 83)).drew = w1 at *
      clear hlk
      have y0 := hO1.cell c0
      have y2 := hO1.cell c2
      have y3 := hO1.cell d0
      refine wp_region_noPanic ?_
      refine region_g 10 (Old w1) (by kernel_rfl) ((Old.refl w1).drew) (fun hS => ?_)
      refine take_n (i := 0) (v := ?_) (some 20) rfl (by kernel_rfl) rfl (fun _ _ _ h => h) (Or.inl ⟨by rfl, ?_⟩) hS ?_
      rotate_left
      · (intro wq hq; have q0 := hq.cell y0; have q1 := hq.cell y2; have q2 := hq.cell y3; go_simp); first | done | with_reducible rfl
      try simp only [Act.put, List.setIfInBounds_toArray, List.set_cons_zero, List.set_cons_succ]
      replace hS := Till.list 0 hS
      refine take_n (i := 2) (v := ?_) (some 22) rfl (by kernel_rfl) rfl (fun _ _ _ h => h) (Or.inl ⟨by rfl, ?_⟩) hS ?_
      rotate_left
      · (intro wq hq; have q0 := hq.cell y0; have q1 := hq.cell y2; have q2 := hq.cell y3; go_simp); first | done | with_reducible rfl
      try simp only [Act.put, List.setIfInBounds_toArray, List.set_cons_zero, List.set_cons_succ]
      replace hS := Till.list 2 hS
      refine take_n (i := 5) (v := ?_) (some 25) rfl (by kernel_rfl) rfl (fun _ _ _ h => h) (Or.inl ⟨by rfl, ?_⟩) hS ?_
      rotate_left
      · (intro wq hq; have q0 := hq.cell y0; have q1 := hq.cell y2; have q2 := hq.cell y3; go_simp); first | done | with_reducible rfl
      try simp only [Act.put, List.setIfInBounds_toArray, List.set_cons_zero, List.set_cons_succ]
      replace hS := Till.list 5 hS
      refine take_w (i := 3) (v := ?_) (some 23) rfl (by kernel_rfl) rfl (fun _ _ _ h => h) (Or.inl ⟨by rfl, ?_⟩) hS ?_
      rotate_left
      · (intro wq hq; go_simp); first | done | with_reducible rfl
      try simp only [Act.put, List.setIfInBounds_toArray, List.set_cons_zero, List.set_cons_succ]
      replace hS := Till.list 3 hS
      refine take_w (i := 6) (v := ?_) (some 26) rfl (by kernel_rfl) rfl (fun _ _ _ h => h) (Or.inl ⟨by rfl, ?_⟩) hS ?_
      rotate_left
      · (intro wq hq; go_simp); first | done | with_reducible rfl
      try simp only [Act.put, List.setIfInBounds_toArray, List.set_cons_zero, List.set_cons_succ]
      replace hS := Till.list 6 hS
      refine take_w (i := 7) (v := ?_) (some 27) rfl (by kernel_rfl) rfl (fun _ _ _ h => h) (Or.inl ⟨by rfl, ?_⟩) hS ?_
      rotate_left
      · (intro wq hq; go_simp); first | done | with_reducible rfl
      try simp only [Act.put, List.setIfInBounds_toArray, List.set_cons_zero, List.set_cons_succ]
      replace hS := Till.list 7 hS
      refine take_n (i := 8) (v := ?_) (some 28) rfl (by kernel_rfl) rfl (fun _ _ _ h => h) (Or.inl ⟨by rfl, ?_⟩) hS ?_
      rotate_left
      · (intro wq hq; have q0 := hq.cell y0; have q1 := hq.cell y2; have q2 := hq.cell y3; go_simp); first | done | with_reducible rfl
      try simp only [Act.put, List.setIfInBounds_toArray, List.set_cons_zero, List.set_cons_succ]
      replace hS := Till.list 8 hS
      refine ready_g (rs := [1]) (by kernel_rfl) (by simp) ?_
      refine AllReadyG.cons rfl (fun Kont hK => ?_) AllReadyG.nil
      go_simp
      refine (used_any g k _ F p M (by omega) ((HH.out.old hO1).drew)).mono ?_
      rintro e w2 ⟨rfl, hb2⟩
      refine hK.out _ _ (Or.inr (((hS.get (by kernel_rfl)).below hb2))) (fun hS0 => ?_)
      clear hK Kont
      try simp only [Act.put, List.setIfInBounds_toArray, List.set_cons_zero, List.set_cons_succ]
      clear hS
      have hS := hS0
      clear hS0
      refine take_w (i := 4) (v := ?_) (some 24) rfl (by kernel_rfl) rfl (fun _ _ _ h => h) (Or.inl ⟨by rfl, ?_⟩) hS ?_
      rotate_left
      · (intro wq hq; go_simp); first | done | with_reducible rfl
      try simp only [Act.put, List.setIfInBounds_toArray, List.set_cons_zero, List.set_cons_succ]
      replace hS := Till.list 4 hS
      refine take_w (i := 9) (v := ?_) (some 29) rfl (by kernel_rfl) rfl (fun _ _ _ h => h) (Or.inl ⟨by rfl, ?_⟩) hS ?_
      rotate_left
      · (intro wq hq; go_simp); first | done | with_reducible rfl
      try simp only [Act.put, List.setIfInBounds_toArray, List.set_cons_zero, List.set_cons_succ]
      replace hS := Till.list 9 hS
      refine done_g (by kernel_rfl) (NoPanic.normal ?_) _
      clear hS
      have hb2' : Below w1.heap.size w1 w2 := ⟨hb2.os, hb2.tape, hb2.output, hb2.size, hb2.block⟩
      have hO2 : Old w1 w2 := (Old.refl w1).below hb2'
      have hK2 : Kp F w w2 := hK1.of_below hb2' (fun b hb _ => Nat.lt_of_lt_of_le hb hO1.size)
      clear hb2
      go_wp2_with fail
      go_ret
      exact ⟨32, rfl, rfl, ⟨g, (HH.out.old (hO1.trans hO2)).more (by omega)⟩, hK2⟩
end Go.Proofs.Ytlagmjdldplblaa
/- Contracts of package disk: Append. -/
namespace Go.Proofs.Ytlagmjdldplblaa
open Go.ChangeShapes Go.WideShapes Go.ChangeAt Go.RowKit Go.WideMaps Go.Maps
set_option linter.unusedVariables false
set_option maxRecDepth 4000

theorem BV.keep {F : Nat → Prop} {w w' : World} {A : Option Addr} {n : Nat} {zs : List Int} (h : BV w A n zs) (hk : Kp F w w') (hA : n = 0 ∨ ∀ x, A = some x → ¬ F x.block) : BV w' A n zs := by
  rcases hA with hA | hA
  · exact ⟨h.1, h.2.1, .inl hA⟩
  · exact h.other (fun x hx hl => hk.block _ hl (hA x hx))
set_option maxHeartbeats 1000000 in
theorem append2_any (g : G8) (k : Nat) (w : World) (F : Nat → Prop) (p : Nat) (M : DK) (hk : k ≤ 900) (hF : ∀ b, w.heap.size ≤ b → F b) (h : DD g k w F p M) (s : ByteArray) (hs : s.size ≤ 1000) (b0 b1 b2 b3 : Nat) (A : Option Addr) (n c : Nat) (zs : List Int) (hv : BV w A n zs) (hnc : n ≤ c) (hn : n ≤ 1000) (hb0 : ¬ F b0)
    (c0 : w.cell? ⟨b0, 0, none⟩ = some (.pointer (some ⟨p, 0, none⟩))) (c1 : w.cell? ⟨b1, 0, none⟩ = some (.string s)) (c2 : w.cell? ⟨b2, 0, none⟩ = some (.slice A n c)) (c3 : w.cell? ⟨b3, 0, none⟩ = some (.func (.func 52) #[] #[.pointer (some ⟨b0, 0, none⟩), .pointer (some ⟨b1, 0, none⟩), .pointer (some ⟨b2, 0, none⟩)])) :
    Calls Try.prog 54 #[.pointer (some ⟨b3, 0, none⟩), .pointer (some ⟨b2, 0, none⟩)] w (Tells (Did (k + 1) F p w (apD M s zs n))) := by
  have hc := Lib.hid (append1_any g k w F p M hk hF h s hs b0 b1 b2 A n c zs hv hnc hn n (Nat.le_refl _) hb0 c0 c1 c2)
  clear h hv
  go_enter Try.func54, Try.ntmps54
  go_wp2_with fail
  refine hc.out.mono ?_
  rintro e w' ⟨v, rfl, hv⟩
  have HV := Lib.hid hv
  clear hv
  go_wp2_with fail
  go_ret
  exact ⟨v, rfl, HV.out⟩
set_option maxHeartbeats 1000000 in
theorem append3_any (g : G8) (k : Nat) (w : World) (F : Nat → Prop) (p : Nat) (M : DK) (hk : k ≤ 900) (hF : ∀ b, w.heap.size ≤ b → F b) (h : DD g k w F p M) (s : ByteArray) (hs : s.size ≤ 1000) (b0 b1 b2 b3 : Nat) (A : Option Addr) (n c : Nat) (zs : List Int) (hv : BV w A n zs) (hnc : n ≤ c) (hn : n ≤ 1000) (hb0 : ¬ F b0)
    (c0 : w.cell? ⟨b0, 0, none⟩ = some (.pointer (some ⟨p, 0, none⟩))) (c1 : w.cell? ⟨b1, 0, none⟩ = some (.string s)) (c2 : w.cell? ⟨b2, 0, none⟩ = some (.slice A n c)) (c3 : w.cell? ⟨b3, 0, none⟩ = some (.func (.func 52) #[] #[.pointer (some ⟨b0, 0, none⟩), .pointer (some ⟨b1, 0, none⟩), .pointer (some ⟨b2, 0, none⟩)])) :
    Calls Try.prog 55 #[.pointer (some ⟨b3, 0, none⟩), .pointer (some ⟨b2, 0, none⟩)] w fun e w' => e = .returned (.tuple #[]) ∧ ∃ v, Did (k + 1) F p w (apD M s zs (n / 2)) v w' := by
  have hc := Lib.hid (append1_any g k w F p M hk hF h s hs b0 b1 b2 A n c zs hv hnc hn (n / 2) (by omega) hb0 c0 c1 c2)
  have hdiv : IntKind.i64.wrap ((n : Int).tdiv 2) = ((n / 2 : Nat) : Int) := by
    rw [Int.tdiv_eq_ediv_of_nonneg (by omega), IntKind.wrap_i64]; omega
  clear h hv
  go_enter Try.func55, Try.ntmps55
  go_wp2_with fail
  refine hc.out.mono ?_
  rintro e w' ⟨v, rfl, hv⟩
  have HV := Lib.hid hv
  clear hv
  go_wp2_with fail
  (try simp only [Exit.inBlock, Exit.then])
  refine Great.bodyPost_end0 rfl rfl ?_
  exact ⟨rfl, v, HV.out⟩
theorem box4 (w : World) (p : Nat) (s : ByteArray) (v u : Value) : ∃ w1, w1 = (((w.alloc (.cells #[.pointer (some ⟨p, 0, none⟩)] 24)).alloc (.cells #[.string s] 9)).alloc (.cells #[v] 28)).alloc (.cells #[u] 104) ∧ Old w w1 ∧ (∀ F, Kp F w w1) ∧ w1.heap.size = w.heap.size + 4 ∧
    w1.cell? ⟨w.heap.size, 0, none⟩ = some (.pointer (some ⟨p, 0, none⟩)) ∧ w1.cell? ⟨w.heap.size + 1, 0, none⟩ = some (.string s) ∧ w1.cell? ⟨w.heap.size + 2, 0, none⟩ = some v ∧ w1.cell? ⟨w.heap.size + 3, 0, none⟩ = some u := by
  obtain ⟨w1, rfl, h1, h2, h3, h4, h5⟩ := box2 w p s
  generalize (w.alloc (.cells #[.pointer (some ⟨p, 0, none⟩)] 24)).alloc (.cells #[.string s] 9) = w1 at *
  have h6 : (w1.alloc (.cells #[v] 28)).heap.size = w.heap.size + 3 := by rw [heap_alloc, h3]
  refine ⟨_, rfl, (h1.alloc _).alloc _, fun F => ((h2 F).alloc _).alloc _, by rw [heap_alloc, h6], cell_alloc _ _ (cell_alloc _ _ h4), cell_alloc _ _ (cell_alloc _ _ h5), cell_alloc _ _ ?_, ?_⟩
  · have := (Bk.new w1 #[v] 28).cell 0 (v := v) rfl
    rwa [h3] at this
  · have := (Bk.new (w1.alloc (.cells #[v] 28)) #[u] 104).cell 0 (v := u) rfl
    rwa [h6] at this
theorem appended_fail (M : DK) (s : ByteArray) (zs : List Int) : appendedD M 33 s zs = ((apD M s zs (zs.length / 2)).1, 33) := by
  unfold appendedD apD
  cases findN M.names s with
  | none => rfl
  | some f =>
    simp only []
    by_cases h : ((usedD M + zs.length : Nat) : Int) ≤ M.quota
    · rw [if_pos h, if_pos h]; rfl
    · rw [if_neg h, if_neg h]; rfl
theorem appended_ok (M : DK) (s : ByteArray) (zs : List Int) : appendedD M 0 s zs = apD M s zs zs.length := by
  unfold appendedD apD
  cases findN M.names s with
  | none => rfl
  | some f =>
    simp only []
    by_cases h : ((usedD M + zs.length : Nat) : Int) ≤ M.quota
    · rw [if_pos h, if_pos h, List.take_length]; rfl
    · rw [if_neg h, if_neg h]; rfl
set_option maxHeartbeats 2000000 in
theorem append_any (g : G8) (k : Nat) (w : World) (F : Nat → Prop) (p : Nat) (M : DK) (hk : k ≤ 800) (hF : ∀ b, w.heap.size ≤ b → F b) (h : DD g k w F p M) (s : ByteArray) (hs : s.size ≤ 1000) (A : Option Addr) (n c : Nat) (zs : List Int) (hv : BV w A n zs) (hnc : n ≤ c) (hn : n ≤ 1000) (hA : n = 0 ∨ ∀ x, A = some x → ¬ F x.block) :
    Calls Try.prog 18 #[.pointer (some ⟨p, 0, none⟩), .string s, .slice A n c] w (Tells (Did (k + 3) F p w (appendD M s zs))) := by
  obtain ⟨w1, hw1, hO, hK, hS, c0, c1, c2, c3⟩ := box4 w p s (.slice A n c) (.func (.func 52) #[] #[.pointer (some ⟨w.heap.size, 0, none⟩), .pointer (some ⟨w.heap.size + 1, 0, none⟩), .pointer (some ⟨w.heap.size + 2, 0, none⟩)])
  have hd : DD g k w1 (But F w 4) p M := h.but hO
  have hzl := hv.1
  have hv1 : BV w1 A n zs := hv.old hO
  have hA1 : n = 0 ∨ ∀ x, A = some x → ¬ But F w 4 x.block := hA.imp id (fun hA x hx hb => hA x hx hb.1)
  have hc := step_any g k w1 (But F w 4) p M (by omega) (but_new hF hS) hd 54 55 #[.pointer (some ⟨w.heap.size + 3, 0, none⟩), .pointer (some ⟨w.heap.size + 2, 0, none⟩)] #[.pointer (some ⟨w.heap.size + 3, 0, none⟩), .pointer (some ⟨w.heap.size + 2, 0, none⟩)] (Did (k + 3) (But F w 4) p w1 (appendD M s zs))
    (enters_of Try.func54 (by kernel_rfl) rfl) (enters_of Try.func55 (by kernel_rfl) rfl)
    (fun e w2 h1 k1 => by unfold appendD; rw [if_pos e]; exact ⟨e.symm, ⟨g, h1.more (by omega)⟩, k1⟩)
    (fun e w2 h1 k1 => (append3_any g (k + 1) w2 (But F w 4) p _ (by omega) (fun b hb => but_new hF hS b (Nat.le_trans k1.size hb)) h1 s hs _ _ _ _ A n c zs (hv1.keep k1 hA1) hnc hn (but_not (i := 0) (by omega)) (k1.cell c0 (but_not (i := 0) (by omega))) (k1.cell c1 (but_not (i := 1) (by omega))) (k1.cell c2 (but_not (i := 2) (by omega))) (k1.cell c3 (but_not (i := 3) (by omega)))).mono (fun e1 w3 hr => by
      obtain ⟨rfl, v, h2, h3, h4⟩ := hr
      unfold appendD
      rw [if_neg (by rw [e]; decide), e, appended_fail, hzl]
      exact ⟨rfl, rfl, (by obtain ⟨g', h3⟩ := h3; exact ⟨g', h3.more (by omega)⟩), k1.trans h4⟩))
    (fun e w2 h1 k1 => (append2_any g (k + 1) w2 (But F w 4) p _ (by omega) (fun b hb => but_new hF hS b (Nat.le_trans k1.size hb)) h1 s hs _ _ _ _ A n c zs (hv1.keep k1 hA1) hnc hn (but_not (i := 0) (by omega)) (k1.cell c0 (but_not (i := 0) (by omega))) (k1.cell c1 (but_not (i := 1) (by omega))) (k1.cell c2 (but_not (i := 2) (by omega))) (k1.cell c3 (but_not (i := 3) (by omega)))).mono (fun e1 w3 hr => by
      obtain ⟨v, he, h2⟩ := hr
      unfold appendD
      rw [if_neg (by rw [e]; decide), e, appended_ok, hzl]
      exact ⟨v, he, h2.back k1 (fun _ h => h) (by omega)⟩))
  have HK := Lib.hid (hK F)
  rw [hw1] at hc c0
  have HC := Lib.hid hc
  have HW := Lib.hid hw1
  clear h hd hc hO hK c1 c2 c3 hw1 hS hv hv1 hA hA1
  go_enter Try.func18, Try.ntmps18
  go_wp2_with fail
  refine HC.out.mono ?_
  rintro e w' ⟨v, rfl, hv⟩
  have HV := Lib.hid hv
  clear hv
  go_wp2_with fail
  go_ret
  exact ⟨v, rfl, HV.out.back (HW.out ▸ HK.out) (fun _ h => h.1) (Nat.le_refl _)⟩
end Go.Proofs.Ytlagmjdldplblaa
