/- Texts that belong together, one behind the other: D8i, D8j, D8y, D8k, D8l. -/
import Derived.Test.YtlagmjdldplblaaDiskD
import Derived.Shelf.SlMaps.Clone
import Derived.Shelf.SlIter.Nil
import Derived.Shelf.SortM.Plain
import Derived.Shelf.SortM.SortNone
import Derived.Test.YtlagmjdldplblaaProg
import Derived.Test.YtlagmjdldplblaaBase
import Derived.Sort.KeysCollected
/- Contracts of package disk: what keeps names. -/
namespace Go.Proofs.Ytlagmjdldplblaa
open Go.ChangeShapes Go.WideShapes Go.ChangeAt Go.RowKit Go.WideMaps Go.Maps
set_option linter.unusedVariables false
set_option maxRecDepth 4000

set_option maxHeartbeats 2000000 in
theorem mclone_raw (b : Nat) (es : Array MapEntry) (clock : Nat) (w : World) (hb : w.heap[b]? = some (.map es clock)) :
    Calls Try.prog 43 #[.map (some b)] w fun e w' => e = .returned (.map (some w.heap.size)) ∧ w' = w.alloc (.map es clock) := by
  have hq := fun w => run_eql_map_nil_sl (P := Try.prog) w 67 _ _ (some b) Try.underlying67
  go_enter Try.func43, Try.ntmps43
  go_wp2_with fail
  rw [run_callFunc_extern Try.func75 (by kernel_rfl) (by kernel_rfl) (by kernel_rfl) (e := Extern.MapsClone.clone) (by kernel_rfl), run_maps_clone_sl w 67 hb]
  simp only [Result.andThen]
  rw [Oper.upon_value]
  go_wp2_with fail
  rw [run_typeAssert_map_sl _ 67 20 _ _ _ Try.underlying67]
  simp only [Result.andThen]
  rw [Oper.upon_value]
  go_wp2_with fail
  go_ret
  exact ⟨rfl, rfl⟩
set_option maxHeartbeats 2000000 in
theorem mclone_nil (w : World) : Calls Try.prog 43 #[.map none] w fun e w' => e = .returned (.map none) ∧ w' = w := by
  have hq := fun w => run_eql_map_nil_sl (P := Try.prog) w 67 _ _ none Try.underlying67
  go_enter Try.func43, Try.ntmps43
  go_wp2_with fail
  go_ret
  exact ⟨rfl, rfl⟩
theorem mclone_any {kt : TypeId} {R : Value → Option (DataW Value × List MemPlace)} {b n : Nat} {D : DataW Value} (w : World) (h : w.ownsMap Try.prog kt R b n D) :
    Calls Try.prog 43 #[.map (some b)] w fun e w' => e = .returned (.map (some w.heap.size)) ∧ w'.ownsMap Try.prog kt R w.heap.size n D ∧ Below w.heap.size w w' ∧ w'.heap.size = w.heap.size + 1 := by
  obtain ⟨es, clock, hb, F, hs, hD⟩ := h
  refine (mclone_raw b es clock w hb).mono ?_
  rintro e w' ⟨rfl, rfl⟩
  exact ⟨rfl, ⟨es, clock, (MapKept.heap_alloc w _).1, F, hs, hD⟩, (Below.refl _ w).alloc (Nat.le_refl _) _, by simp⟩
set_option maxHeartbeats 2000000 in
theorem xclone_raw (b : Nat) (es : Array MapEntry) (clock : Nat) (w : World) (hb : w.heap[b]? = some (.map es clock)) :
    Calls Try.prog 45 #[.map (some b)] w fun e w' => e = .returned (.map (some w.heap.size)) ∧ w' = w.alloc (.map es clock) := by
  have hq := fun w => run_eql_map_nil_sl (P := Try.prog) w 69 _ _ (some b) Try.underlying69
  go_enter Try.func45, Try.ntmps45
  go_wp2_with fail
  rw [run_callFunc_extern Try.func75 (by kernel_rfl) (by kernel_rfl) (by kernel_rfl) (e := Extern.MapsClone.clone) (by kernel_rfl), run_maps_clone_sl w 69 hb]
  simp only [Result.andThen]
  rw [Oper.upon_value]
  go_wp2_with fail
  rw [run_typeAssert_map_sl _ 69 20 _ _ _ Try.underlying69]
  simp only [Result.andThen]
  rw [Oper.upon_value]
  go_wp2_with fail
  go_ret
  exact ⟨rfl, rfl⟩
set_option maxHeartbeats 2000000 in
theorem xclone_nil (w : World) : Calls Try.prog 45 #[.map none] w fun e w' => e = .returned (.map none) ∧ w' = w := by
  have hq := fun w => run_eql_map_nil_sl (P := Try.prog) w 69 _ _ none Try.underlying69
  go_enter Try.func45, Try.ntmps45
  go_wp2_with fail
  go_ret
  exact ⟨rfl, rfl⟩
theorem xclone_any {kt : TypeId} {R : Value → Option (DataW Value × List MemPlace)} {b n : Nat} {D : DataW Value} (w : World) (h : w.ownsMap Try.prog kt R b n D) :
    Calls Try.prog 45 #[.map (some b)] w fun e w' => e = .returned (.map (some w.heap.size)) ∧ w'.ownsMap Try.prog kt R w.heap.size n D ∧ Below w.heap.size w w' ∧ w'.heap.size = w.heap.size + 1 := by
  obtain ⟨es, clock, hb, F, hs, hD⟩ := h
  refine (xclone_raw b es clock w hb).mono ?_
  rintro e w' ⟨rfl, rfl⟩
  exact ⟨rfl, ⟨es, clock, (MapKept.heap_alloc w _).1, F, hs, hD⟩, (Below.refl _ w).alloc (Nat.le_refl _) _, by simp⟩
theorem fm_look2 {g : G8} {k : Nat} {w w' : World} {F : Nat → Prop} {p : Nat} {M : DK} (h : DD g k w F p M) (hk : k ≤ 1000) (hb : w'.heap[g.bF]? = w.heap[g.bF]?) {f : Nat} (hf : g.lv f) :
    (Instr.lookup 66 (.map (some g.bF)) (oV (g.og f)) false).run Try.prog w' = .ok (fileV (g.sv f) (flN M f).2) w' := by
  have hx := h.each f hf
  obtain ⟨v, ps, hrun, hv⟩ := World.ownsMap.lookup (ownsMap_same h.files.1 hb) law8O Try.underlying66 (zero8F w') (eF_mk none 0 0 0) (h.key hk hx.place)
  rw [hx.at_] at hv
  obtain ⟨a, n, c, s, rfl, hy⟩ := eF_inv hv
  have hy := congrArg Prod.fst hy
  simp only [DataW.held.injEq] at hy
  rw [hrun, hy]
/-- what is kept of the files so far -/
def Kept8 (g : G8) (M : DK) (left : Lit → Bool) (D : DataW Value) : Prop :=
  (∀ n ∈ M.names, left (kN n.1) = false → Maps.has D (kO (g.og n.2)) = true ∧ ∀ z, D.atKey (kO (g.og n.2)) z = .held (fileV (g.sv n.2) (flN M n.2).2)) ∧ ∀ l, Maps.has D l = true → ∃ n ∈ M.names, l = kO (g.og n.2)
theorem kept8_step {g : G8} {k : Nat} {w : World} {F : Nat → Prop} {p : Nat} {M : DK} (h : DD g k w F p M) (hk : k ≤ 1000) {left : Lit → Bool} {D : DataW Value} (hD : Maps.Tidy D) (hK : Kept8 g M left D) {s : ByteArray} {f : Nat} (hf : findN M.names s = some f) :
    Kept8 g M (fun z => left z && !z.sameKey (kN s)) (D.put (kO (g.og f)) (.held (fileV (g.sv f) (flN M f).2))) := by
  have hpf := h.ok.place _ (findN_mem hf)
  have hkl := law8O.key (h.key hk hpf)
  refine ⟨?_, fun l hl => ?_⟩
  rotate_left
  · by_cases e : l = kO (g.og f)
    · exact ⟨_, findN_mem hf, e⟩
    · exact hK.2 l ((has_put_other e _).symm.trans hl)
  intro n hn hl
  by_cases e : n.2 = f
  · rw [e]
    exact ⟨has_put_same hD.isMap hkl _, fun z => atKey_put_same hD.isMap hkl _ z⟩
  · have hne := h.keyNe hk (h.ok.place n hn) hpf e
    have hl2 : left (kN n.1) = false := by
      simp only [kN_same, Bool.and_eq_false_iff, Bool.not_eq_false', decide_eq_true_eq] at hl
      rcases hl with hl | hl
      · exact hl
      · have := findN_of h.ok.sort hn
        rw [hl, hf] at this
        exact absurd (Option.some.inj this).symm e
    obtain ⟨a1, a2⟩ := hK.1 n hn hl2
    exact ⟨(has_put_other hne _).trans a1, fun z => (atKey_put_other hne _ z).trans (a2 z)⟩
set_option maxHeartbeats 4000000 in
theorem keep_any (g : G8) (k : Nat) (w : World) (F : Nat → Prop) (p : Nat) (M : DK) (hk : k ≤ 900) (hF : ∀ b, w.heap.size ≤ b → F b) (h : DD g k w F p M) :
    Calls Try.prog 41 #[.pointer (some ⟨p, 0, none⟩)] w fun e w' => e = .returned (.tuple #[]) ∧ (∃ g', DD g' k w' F p (keptD M)) ∧ Kp F w w' := by
  have hB := h.blk
  have hpl := hB.lt
  have c2 := hB.cell 2 (v := .map (some g.bN)) rfl
  have hNl := h.names.1.lt
  have hFl := h.files.1.lt
  have hpN : g.bN ≠ p := fun e => by have h1 := h.foot.2; have h2 := h.names.2.2; rw [← e] at h1; omega
  have hpF : g.bF ≠ p := fun e => by have h1 := h.foot.2; have h2 := h.files.2.2; rw [← e] at h1; omega
  have hcl := mclone_any w h.names.1
  have HH := Lib.hid h
  have HC := Lib.hid hcl
  clear h hcl
  go_enter Try.func41, Try.ntmps41
  go_wp2_with fail
  refine HC.out.mono ?_
  rintro e w1 ⟨rfl, hm1, hb1, hs1⟩
  have hB1 : Bk w1 p _ 71 := hB.below hb1
  have c3 := hB1.cell 3 (v := .map g.bK) rfl
  have f3 := hB1.free 3
  have c4 := (hB1.set 3 (.map (some w.heap.size))).cell 4 (v := g.ch) rfl
  have f4 := (hB1.set 3 (.map (some w.heap.size))).free 4
  have HM1 := Lib.hid hm1
  clear hm1 hB
  go_wp2_with fail
  have hB2 := (hB1.set 3 (.map (some w.heap.size))).set 4 (.slice none 0 0)
  have hk2 : ∀ b, b ≠ p → ((w1.setCell ⟨p, 3, none⟩ (.map (some w.heap.size))).setCell ⟨p, 4, none⟩ (.slice none 0 0)).heap[b]? = w1.heap[b]? := fun b hb => by
    rw [Below.heap_setCell _ _ _ _ hb, Below.heap_setCell _ _ _ _ hb]
  have hs2 : ((w1.setCell ⟨p, 3, none⟩ (.map (some w.heap.size))).setCell ⟨p, 4, none⟩ (.slice none 0 0)).heap.size = w1.heap.size := by rw [size_set, size_set]
  have hK2 : Kp F w ((w1.setCell ⟨p, 3, none⟩ (.map (some w.heap.size))).setCell ⟨p, 4, none⟩ (.slice none 0 0)) := (((Kp.refl F w).of_below hb1 (fun b hb _ => hb)).setCell (.inl HH.out.foot.1) _).setCell (.inl HH.out.foot.1) _
  have hm2 := ownsMap_same HM1.out (hk2 _ (by omega))
  generalize ((w1.setCell ⟨p, 3, none⟩ (.map (some w.heap.size))).setCell ⟨p, 4, none⟩ (.slice none 0 0)) = w2 at *
  have hkw : ∀ b, b < w.heap.size → b ≠ p → w2.heap[b]? = w.heap[b]? := fun b h1 h2 => (hk2 b h2).trans (hb1.block b h1)
  have hHm2 := Lib.hid hm2
  have hHB2 := Lib.hid hB2
  have e2 : w2.cell? ⟨p, 2, none⟩ = some (.map (some g.bN)) := hB2.cell 2 rfl
  have hown2 := ownsMap_same HH.out.names.1 (hkw _ hNl hpN)
  have hmk : ∀ wx, (Instr.makeMap 66 none).run Try.prog wx = .ok (.map (some wx.heap.size)) (wx.alloc (.map #[] 0)) := fun wx => run_makeMap ..
  have hmade := World.ownsMap_made w2 Try.prog 83 eF
  have hown3 := hown2.alloc (.map #[] 0)
  have HS := Lib.hid (show w2.heap.size = w.heap.size + 1 by omega)
  clear hm2 hB2 hB1 c3 f3 c4 f4 hown2 hs1 hs2
  rw [hmk w2]
  simp only [Result.andThen]
  rw [Oper.upon_value]
  have e3 := e2
  replace e2 : (w2.alloc (.map #[] 0)).cell? ⟨p, 2, none⟩ = some (.map (some g.bN)) := cell_alloc _ _ e2
  go_wp2_with (first | (at_range; refine wpList_range_own _ rfl _ 67 rfl 9 83 law8N Try.underlying67 _ g.bN _ _ rfl hown3 ?_; intro w3 hrg3 hg3 hs3) | fail)
  (try go_frame)
  have hsz2 : (w2.alloc (.map #[] 0)).heap.size = w2.heap.size + 1 := by simp
  have hmade3 : w3.ownsMap Try.prog 83 eF w2.heap.size 0 (.map []) := ownsMap_same hmade (hg3.block _ (by omega) (by simp))
  have hbl3 : Below w2.heap.size w2 w3 := ((Below.refl _ _).alloc (Nat.le_refl _) _).grown hg3 (by rw [hsz2]; omega) (fun j hj => by cases hj)
  generalize (w2.alloc (.map #[] 0)).heap.size = r at hsz2 hrg3 hs3 ⊢
  have HR := Lib.hid hsz2
  clear hsz2 hs3
  go_loopw [4] (fun _ wr => ∃ (left : Lit → Bool) (cnt : Nat) (D : DataW Value), wr.ranges Try.prog 9 eO g.bN r M.names.length (nmD g.og M.names) left cnt ∧ wr.ownsMap Try.prog 83 eF w2.heap.size (Maps.size D) D ∧ Maps.size D + cnt ≤ M.names.length ∧ Kept8 g M left D ∧ Below w2.heap.size w2 wr) (fun _ wr => wr.rangeLeft g.bN r)
  case atStart =>
    refine ⟨_, _, .map [], hrg3, hmade3, ?_, ?_, hbl3⟩
    · rw [nm_size]; simp [Maps.size]
    · refine ⟨fun n hn hl => ?_, fun l hl => by simp [Maps.has] at hl⟩
      rw [nm_has, findN_of HH.out.ok.sort hn] at hl; cases hl
  case round =>
    clear hrg3 hg3 hmade hmade3 hbl3 hown3
    obtain ⟨left, cnt, D, hrg, hown, hsz, hKp, hbel⟩ := hrel
    go_wp2_with (first | (at_next; refine wpList_next_ranges _ rfl _ rfl 9 law8N eO (fun s : ByteArray => Value.string s) oV (fun key kl hkey => by obtain ⟨s, h1, _⟩ := keyN_inv hkey; exact ⟨s, h1⟩) (fun v y hv => by obtain ⟨o, h1, _⟩ := eO_inv hv; exact ⟨o, h1⟩) g.bN r _ _ _ _ rfl hrg ?_ ?_) | fail)
    · intro _ hl0
      have hBr : Bk wr p _ 71 := hHB2.out.low hbel (by have := HS.out; omega)
      have c1 := hBr.cell 1 (v := .map (some g.bF)) rfl
      have f1 := hBr.free 1
      have hB5 : Bk (wr.setCell ⟨p, 1, none⟩ (.map (some w2.heap.size))) p (dC { g with bF := w2.heap.size, bK := some w.heap.size, ch := .slice none 0 0 } M) 71 := hBr.set 1 _
      have hk5 : ∀ b, b ≠ p → (wr.setCell ⟨p, 1, none⟩ (.map (some w2.heap.size))).heap[b]? = wr.heap[b]? := fun b hb => Below.heap_setCell _ _ _ _ hb
      have hkr : ∀ b, b < w2.heap.size → wr.heap[b]? = w2.heap[b]? := hbel.block
      have hSS := HS.out
      have hnl := kc_names HH.out
      have hset := HH.out.keptNow (w' := wr.setCell ⟨p, 1, none⟩ (.map (some w2.heap.size))) (b1 := w.heap.size) (b2 := w2.heap.size) (DF := D) (Nat.le_refl _) (by omega) (by omega) (hF _ (Nat.le_refl _)) (hF _ (by omega))
        (ownsMap_same hHm2.out ((hk5 _ (by omega)).trans (hkr _ (by omega)))) (ownsMap_same hown (hk5 _ (by omega))) (by omega) hKp.2 (fun n hn => hKp.1 n hn (hl0 _)) hB5
        (fun b h1 h2 h3 => by
          have hbp : b ≠ p := fun e => h3 (by rw [e]; exact HH.out.foot.2)
          rw [hk5 b hbp, hkr b (by omega)]; exact hkw b h2 hbp)
      have HSet := Lib.hid hset
      have HKF := Lib.hid ((hK2.of_below hbel (fun b hb _ => by omega)).setCell (b := p) (i := 1) (.inl HH.out.foot.1) (.map (some w2.heap.size)))
      clear hset hB5 hk5 hkr hBr hSS hnl hKp hown hrg hsz hbel hkw hk2 hK2 hl0
      go_wp2_with fail
      (try simp only [Exit.inBlock, Exit.then])
      refine Great.bodyPost_end0 rfl rfl ?_
      exact ⟨rfl, ⟨_, HSet.out⟩, HKF.out⟩
    · intro s o1 o2 kl yd yp w4 cnt1 hkey hlx hv hat hrg1 hlt hg1 hs1 hen
      obtain ⟨s', e1, rfl⟩ := keyN_inv hkey
      obtain rfl : s = s' := by simpa using e1
      have hrN : g.bN ≠ r := by have := HR.out; have := HS.out; omega
      have hrB : w2.heap.size ≠ r := by have := HR.out; omega
      have hb1' : Below w2.heap.size w2 w4 := hbel.grown hg1 hbel.size (fun j hj => by cases hj; have := HR.out; omega)
      have hh := has_true_of_atKey hat
      rw [nm_has] at hh
      obtain ⟨f, hf⟩ := Option.isSome_iff_exists.1 hh
      have hy := hat .nil
      rw [nm_at, hf] at hy
      simp only [] at hy
      have hvv : eO (oV (o1, o2)) = some (yd, yp) := hv
      rw [eO_mk] at hvv
      have hy2 : DataW.held (oV (o1, o2)) = yd := congrArg Prod.fst (Option.some.inj hvv)
      rw [← hy2] at hy
      have ho : g.og f = (o1, o2) := by
        have := hy
        simp only [DataW.held.injEq, oV, Value.agg.injEq, Array.mk.injEq, List.cons.injEq, Value.int.injEq, Value.string.injEq, true_and, and_true] at this
        exact Prod.ext this.1 this.2
      have hmem := findN_mem hf
      have hlv := HH.out.live f (.inl ⟨_, hmem, rfl⟩)
      obtain ⟨a, c, hsv⟩ := (HH.out.each f hlv).data.os.shape
      have hOW : Old w4 (w4.alloc (.cells #[.int .i64 o1, .string o2] 83)).drew := ((Old.refl w4).alloc _).drew
      have hbF4 : w4.heap[g.bF]? = w.heap[g.bF]? := (hb1'.block _ (by have := HS.out; omega)).trans (hkw _ hFl hpF)
      have hlk := fun wq (hq : Old (w4.alloc (.cells #[.int .i64 o1, .string o2] 83)).drew wq) => fm_look2 HH.out (by omega) (w' := wq) (((hOW.trans hq).block _ (by have := hb1'.size; have := HS.out; omega)).trans hbF4) hlv
      rw [ho, hsv] at hlk
      unfold oV fileV at hlk
      have hB4 : Bk w4 p _ 71 := hHB2.out.low hb1' (by have := HS.out; omega)
      have q1 := hOW.cell (hB4.cell 1 (v := .map (some g.bF)) rfl)
      have q2 : (w4.alloc (.cells #[.int .i64 o1, .string o2] 83)).drew.cell? ⟨w4.heap.size, 0, none⟩ = some (.int .i64 o1) := (Bk.new w4 #[.int .i64 o1, .string o2] 83).cell 0 rfl
      have q3 : (w4.alloc (.cells #[.int .i64 o1, .string o2] 83)).drew.cell? ⟨w4.heap.size, 1, none⟩ = some (.string o2) := (Bk.new w4 #[.int .i64 o1, .string o2] 83).cell 1 rfl
      have hown4 := ownsMap_same hown (hg1.block _ hown.lt (fun e => hrB (Option.some.inj e)))
      have hownW := ownsMap_same hown4 (hOW.block _ hown4.lt)
      obtain ⟨w5, hrun, hm5, hg5⟩ := hownW.update law8O Try.underlying66 (by have := kc_names HH.out; unfold maxLen; omega) (by have := HH.out.key (by omega) (HH.out.each f hlv).place; rw [ho] at this; exact this) (eF_mk a (flN M f).1.length c ((flN M f).2 : Int))
      have hrgW : (w4.alloc (.cells #[.int .i64 o1, .string o2] 83)).drew.ranges Try.prog 9 eO g.bN r M.names.length (nmD g.og M.names) (fun z => left z && !z.sameKey (kN s)) cnt1 := hrg1.alloc _
      have hrg5 := hrgW.kept hg5 (fun e => by have := Option.some.inj e; have := HS.out; omega) (fun e => hrB (Option.some.inj e).symm)
      have hbW : Below w2.heap.size w2 (w4.alloc (.cells #[.int .i64 o1, .string o2] 83)).drew := (hb1'.alloc hb1'.size _).drew
      have hb5 : Below w2.heap.size w2 w5 := hbW.grown hg5 hbW.size (fun j hj => by cases hj; exact Nat.le_refl _)
      have hst := kept8_step HH.out (by omega) (hown.tidy law8O) hKp hf
      rw [ho, hsv] at hst
      have hsp : Maps.size (D.put (kO (o1, o2)) (.held (fV a (flN M f).1.length c ((flN M f).2 : Int)))) ≤ Maps.size D + 1 := by
        rw [size_put (hown.tidy law8O)]; split <;> omega
      have HF := Lib.hid (And.intro hrg5 (And.intro (ownsMap_tight hm5) (And.intro (show Maps.size (D.put (kO (o1, o2)) (.held (fV a (flN M f).1.length c ((flN M f).2 : Int)))) + cnt1 ≤ M.names.length by omega) (And.intro hst (And.intro hb5 (And.intro hrg hlt))))))
      unfold fV oV at hrun
      clear hrg5 hm5 hst hb5 hsp hbW hrgW hg5 hownW hown4 hB4 hbF4 hOW hsv hmem hlv hf hy hy2 hvv hh hat hv hlx hkey hg1 hrg1 hrg hown hKp hsz hbel hb1' hlt e1 hs1 hkw hk2 hK2
      unfold oV at hen
      show wpList _ _ _ _ _ _
      unfold oV
      go_wp2_with fail
      refine wp_region_noPanic ?_
      refine region_g 8 (Old (w4.alloc (.cells #[.int .i64 o1, .string o2] 83)).drew) (by kernel_rfl) ((Old.refl _)) (fun hS => ?_)
      refine take_w (i := 0) (v := ?_) (some 26) rfl (by kernel_rfl) rfl (fun _ _ _ h => h) (Or.inl ⟨by rfl, ?_⟩) hS ?_
      rotate_left
      · (intro wq hq; go_simp); first | done | with_reducible rfl
      try simp only [Act.put, List.setIfInBounds_toArray, List.set_cons_zero, List.set_cons_succ]
      replace hS := Till.list 0 hS
      refine take_g (i := 1) (v := ?_) [1] (some 27) rfl (by kernel_rfl) rfl (fun _ _ _ h => h) (Or.inl ⟨by rfl, ?_⟩) hS ?_
      rotate_left
      · (intro wq hq; have p1 := hq.cell q1; have p2 := hq.cell q2; have p3 := hq.cell q3; go_simp); first | done | with_reducible rfl
      try simp only [Act.put, List.setIfInBounds_toArray, List.set_cons_zero, List.set_cons_succ]
      replace hS := Till.list 1 hS
      refine take_w (i := 2) (v := ?_) (some 28) rfl (by kernel_rfl) rfl (fun _ _ _ h => h) (Or.inl ⟨by rfl, ?_⟩) hS ?_
      rotate_left
      · (intro wq hq; go_simp); first | done | with_reducible rfl
      try simp only [Act.put, List.setIfInBounds_toArray, List.set_cons_zero, List.set_cons_succ]
      replace hS := Till.list 2 hS
      refine take_g (i := 6) (v := ?_) [6] (some 32) rfl (by kernel_rfl) rfl (fun _ _ _ h => h) (Or.inl ⟨by rfl, ?_⟩) hS ?_
      rotate_left
      · (intro wq hq; have p1 := hq.cell q1; have p2 := hq.cell q2; have p3 := hq.cell q3; go_simp); first | done | with_reducible rfl
      try simp only [Act.put, List.setIfInBounds_toArray, List.set_cons_zero, List.set_cons_succ]
      replace hS := Till.list 6 hS
      refine take_w (i := 3) (v := ?_) (some 29) rfl (by kernel_rfl) rfl (fun _ _ _ h => h) (Or.inl ⟨by rfl, ?_⟩) hS ?_
      rotate_left
      · (intro wq hq; go_simp); first | done | with_reducible rfl
      try simp only [Act.put, List.setIfInBounds_toArray, List.set_cons_zero, List.set_cons_succ]
      replace hS := Till.list 3 hS
      refine take_w (i := 4) (v := ?_) (some 30) rfl (by kernel_rfl) rfl (fun _ _ _ h => h) (Or.inl ⟨by rfl, ?_⟩) hS ?_
      rotate_left
      · (intro wq hq; go_simp); first | done | with_reducible rfl
      try simp only [Act.put, List.setIfInBounds_toArray, List.set_cons_zero, List.set_cons_succ]
      replace hS := Till.list 4 hS
      refine take_g (i := 5) (v := ?_) [5] (some 31) rfl (by kernel_rfl) rfl (fun _ _ _ h => h) (Or.inl ⟨by rfl, ?_⟩) hS ?_
      rotate_left
      · (intro wq hq; have p1 := hq.cell q1; have p2 := hq.cell q2; have p3 := hq.cell q3; go_simp); first | done | with_reducible rfl
      try simp only [Act.put, List.setIfInBounds_toArray, List.set_cons_zero, List.set_cons_succ]
      replace hS := Till.list 5 hS
      refine take_g (i := 7) (v := .agg #[.slice a (flN M f).1.length c, .int .i64 ((flN M f).2 : Int)]) [7] (some 33) rfl (by kernel_rfl) rfl (fun _ _ _ h => h) (Or.inl ⟨by rfl, ?_⟩) hS ?_
      · (intro wq hq; (have p1 := hlk wq hq; go_simp))
      try simp only [Act.put, List.setIfInBounds_toArray, List.set_cons_zero, List.set_cons_succ]
      replace hS := Till.list 7 hS
      refine ready_g (rs := [8]) (by kernel_rfl) (by simp) ?_
      refine AllReadyG.cons rfl (fun Kont hK => ?_) AllReadyG.nil
      go_simp
      refine hK.out _ _ (Or.inl (by kernel_rfl)) (fun hS0 => ?_)
      clear hK Kont
      try simp only [Act.put, List.setIfInBounds_toArray, List.set_cons_zero, List.set_cons_succ]
      clear hS
      have hS := hS0
      clear hS0
      refine done_g (by kernel_rfl) (NoPanic.normal ?_) _
      clear hS
      go_wp2_with fail
      go_roundw
      case rel => exact ⟨_, cnt1, _, HF.out.1, HF.out.2.1, HF.out.2.2.1, HF.out.2.2.2.1, HF.out.2.2.2.2.1⟩
      case measure => rw [HF.out.1.left_eq, HF.out.2.2.2.2.2.1.left_eq]; exact HF.out.2.2.2.2.2.2
end Go.Proofs.Ytlagmjdldplblaa
/- Contracts of package disk: SyncDir, Steps, Limit, Fail, New. -/
namespace Go.Proofs.Ytlagmjdldplblaa
open Go.ChangeShapes Go.WideShapes Go.ChangeAt Go.RowKit Go.WideMaps Go.Maps
set_option linter.unusedVariables false
set_option maxRecDepth 4000

set_option maxHeartbeats 1000000 in
theorem syncDir1_any (g : G8) (k : Nat) (w : World) (F : Nat → Prop) (p : Nat) (M : DK) (hk : k ≤ 900) (hF : ∀ b, w.heap.size ≤ b → F b) (h : DD g k w F p M) (b0 : Nat)
    (c0 : w.cell? ⟨b0, 0, none⟩ = some (.pointer (some ⟨p, 0, none⟩))) :
    Calls Try.prog 66 #[.pointer (some ⟨b0, 0, none⟩)] w (Tells (Did (k + 1) F p w (keptD M, 0))) := by
  have hc := Lib.hid (keep_any g k w F p M hk hF h)
  clear h
  go_enter Try.func66, Try.ntmps66
  go_wp2_with fail
  refine hc.out.mono ?_
  rintro e w' ⟨rfl, hd, hk1⟩
  have HD := Lib.hid hd
  clear hd
  go_wp2_with fail
  go_ret
  obtain ⟨g', hd⟩ := HD.out
  exact ⟨0, rfl, rfl, ⟨g', hd.more (by omega)⟩, hk1⟩
set_option maxHeartbeats 1000000 in
theorem syncDir_any (g : G8) (k : Nat) (w : World) (F : Nat → Prop) (p : Nat) (M : DK) (hk : k ≤ 800) (hF : ∀ b, w.heap.size ≤ b → F b) (h : DD g k w F p M) :
    Calls Try.prog 28 #[.pointer (some ⟨p, 0, none⟩)] w (Tells (Did (k + 3) F p w (syncDirD M))) := by
  have hO : Old w (w.alloc (.cells #[.pointer (some ⟨p, 0, none⟩)] 24)) := (Old.refl w).alloc _
  have hS : (w.alloc (.cells #[.pointer (some ⟨p, 0, none⟩)] 24)).heap.size = w.heap.size + 1 := by simp
  have c0 : (w.alloc (.cells #[.pointer (some ⟨p, 0, none⟩)] 24)).cell? ⟨w.heap.size, 0, none⟩ = some (.pointer (some ⟨p, 0, none⟩)) := (Bk.new w _ _).cell 0 rfl
  have hd : DD g k _ (But F w 1) p M := h.but hO
  have hc := whole_any g k _ (But F w 1) p M (by omega) (but_new hF hS) hd 66 #[.pointer (some ⟨w.heap.size, 0, none⟩)] (fun M => (keptD M, 0)) (enters_of Try.func66 (by kernel_rfl) rfl)
    (fun e0 w2 h1 k1 => (syncDir1_any g (k + 1) w2 (But F w 1) p _ (by omega) (fun b hb => but_new hF hS b (Nat.le_trans k1.size hb)) h1 _ (k1.cell c0 (but_not (i := 0) (by omega)))).mono (fun e w3 ⟨v, he, hv⟩ => ⟨v, he, hv.back (Kp.refl _ _) (fun _ h => h) (by omega)⟩))
  have HK := Lib.hid (show Kp F w (w.alloc (.cells #[.pointer (some ⟨p, 0, none⟩)] 24)) from (Kp.refl F w).alloc _)
  have HC := Lib.hid hc
  clear h hd hc hO hS
  go_enter Try.func28, Try.ntmps28
  go_wp2_with fail
  refine HC.out.mono ?_
  rintro e w' ⟨v, rfl, hv⟩
  have HV := Lib.hid hv
  clear hv
  go_wp2_with fail
  go_ret
  exact ⟨v, rfl, HV.out.back HK.out (fun _ h => h.1) (Nat.le_refl _)⟩
set_option maxHeartbeats 1000000 in
theorem steps_any (g : G8) (k : Nat) (w : World) (F : Nat → Prop) (p : Nat) (M : DK) (h : DD g k w F p M) :
    Calls Try.prog 33 #[.pointer (some ⟨p, 0, none⟩)] w fun e w' => e = .returned (.int .i64 (M.taken : Int)) ∧ w' = w := by
  have c5 := h.blk.cell 5 (v := .int .i64 (M.taken : Int)) rfl
  clear h
  go_enter Try.func33, Try.ntmps33
  go_wp2_with fail
  go_ret
  exact ⟨rfl, rfl⟩
set_option maxHeartbeats 1000000 in
theorem limit_any (g : G8) (k : Nat) (w : World) (F : Nat → Prop) (p : Nat) (M : DK) (h : DD g k w F p M) (n : Int) (hn : n ≤ maxI) :
    Calls Try.prog 21 #[.pointer (some ⟨p, 0, none⟩), .int .i64 n] w fun e w' => e = .returned (.tuple #[]) ∧ DD g k w' F p (limitD M n) ∧ Kp F w w' := by
  have hB := h.blk
  have c7 := hB.cell 7 (v := .bool M.limit.isSome) rfl
  have f7 := hB.free 7
  have c8 := (hB.set 7 (.bool true)).cell 8 (v := .int .i64 ((M.limit.getD 0 : Nat) : Int)) rfl
  have f8 := (hB.set 7 (.bool true)).free 8
  have HH := Lib.hid h
  clear h
  go_enter Try.func21, Try.ntmps21
  go_wp2_with fail
  (try simp only [Exit.inBlock, Exit.then])
  refine Great.bodyPost_end0 rfl rfl ?_
  refine ⟨rfl, ?_, ((Kp.refl F w).setCell (.inl HH.out.foot.1) _).setCell (.inl HH.out.foot.1) _⟩
  have hm : ((max n 0).toNat : Int) = max n 0 := by omega
  refine HH.out.hdr k (limitD M n) rfl rfl rfl rfl rfl rfl (Nat.le_refl _) HH.out.pl.taken ?_ (Nat.le_refl _) ?_ (fun b hb hne _ => by rw [Below.heap_setCell _ _ _ _ hne, Below.heap_setCell _ _ _ _ hne])
  · intro m hm2
    have : (max n 0).toNat = m := Option.some.inj hm2
    unfold maxI at hn ⊢; omega
  · have := (hB.set 7 (.bool true)).set 8 (.int .i64 (max n 0))
    rw [← hm] at this ⊢
    exact this
set_option maxHeartbeats 1000000 in
theorem new_any (w : World) (q : Int) (hq : q ≤ maxI) :
    Calls Try.prog 10 #[.int .i64 q] w fun e w' => ∃ g p, e = .returned (.pointer (some ⟨p, 0, none⟩)) ∧ DD g 0 w' (fun b => w.heap.size ≤ b) p (newD q) ∧ Below w.heap.size w w' := by
  have hmk1 : ∀ wx, (Instr.makeMap 66 none).run Try.prog wx = .ok (.map (some wx.heap.size)) (wx.alloc (.map #[] 0)) := fun wx => run_makeMap ..
  have hmk2 : ∀ wx, (Instr.makeMap 67 none).run Try.prog wx = .ok (.map (some wx.heap.size)) (wx.alloc (.map #[] 0)) := fun wx => run_makeMap ..
  go_enter Try.func10, Try.ntmps10
  go_wp2_with fail
  go_ret
  refine ⟨⟨fun _ => (0, noN), fun _ => .slice none 0 0, w.heap.size, w.heap.size + 1, none, none, .slice none 0 0, [], .map [], .map [], fun _ => False, fun b => if b = w.heap.size then 1 else if b = w.heap.size + 1 then 2 else 0⟩, w.heap.size + 2, rfl, ?_, ?_⟩
  · have hs1 : (w.alloc (.map #[] 0)).heap.size = w.heap.size + 1 := by simp
    have m1 := (((World.ownsMap_made w Try.prog 83 eF).alloc (.map #[] 0)).alloc (.cells #[.int .i64 (max q 0), .map (some w.heap.size), .map (some (w.heap.size + 1)), .map none, .slice none 0 0, .int .i64 0, .map none, .bool false, .int .i64 0, .bool false] 71))
    have m2 := ((World.ownsMap_made (w.alloc (.map #[] 0)) Try.prog 9 eO).alloc (.cells #[.int .i64 (max q 0), .map (some w.heap.size), .map (some (w.heap.size + 1)), .map none, .slice none 0 0, .int .i64 0, .map none, .bool false, .int .i64 0, .bool false] 71))
    rw [hs1] at m2
    have b1 := Bk.new ((w.alloc (.map #[] 0)).alloc (.map #[] 0)) #[.int .i64 (max q 0), .map (some w.heap.size), .map (some (w.heap.size + 1)), .map none, .slice none 0 0, .int .i64 0, .map none, .bool false, .int .i64 0, .bool false] 71
    rw [show ((w.alloc (.map #[] 0)).alloc (.map #[] 0)).heap.size = w.heap.size + 2 by simp] at b1
    refine ⟨(okD_new q).ok7, ⟨Nat.le_refl _, Nat.le_refl _, (fun x hx => by cases hx), (fun x hx => by cases hx), (by show max q 0 ≤ maxI; unfold maxI at *; omega), (fun n hn => by cases hn), (fun n hn => by cases hn), (fun n hn => by cases hn), (fun n hn => by cases hn), (fun n hn => by cases hn), Nat.le_refl _⟩, (fun f hf => by cases hf), (fun f f' hf => by cases hf), b1, ⟨by omega, ?_⟩, ⟨m2, Nat.le_succ _, ?_⟩, .inl ⟨rfl, rfl⟩, .inl ⟨rfl, rfl⟩, ⟨m1, Nat.le_refl _, ?_⟩, Nat.le_refl _, ?_, (fun f hf => hf.elim), ⟨rfl, (fun c hc => by cases hc)⟩, ⟨⟨rfl, (fun u hu => by cases hu), .inl ⟨rfl, rfl⟩⟩, (fun b hb => by cases hb)⟩, (fun l hl => by simp [Maps.has] at hl)⟩
    · show (if w.heap.size + 2 = w.heap.size then 1 else if w.heap.size + 2 = w.heap.size + 1 then 2 else 0) = 0
      rw [if_neg (by omega), if_neg (by omega)]
    · show (if w.heap.size + 1 = w.heap.size then 1 else if w.heap.size + 1 = w.heap.size + 1 then 2 else 0) = 2
      rw [if_neg (by omega), if_pos rfl]
    · show (if w.heap.size = w.heap.size then 1 else _) = 1
      rw [if_pos rfl]
    · intro f hf
      rcases hf with ⟨n, hn, -⟩ | ⟨n, hn, -⟩ | ⟨c, hc, -⟩
      · cases hn
      · cases hn
      · cases hc
  · exact (((Below.refl _ w).alloc (Nat.le_refl _) _).alloc (by simp) _).alloc (by simp; omega) _
/-- new numbers that fail -/
theorem DD.failing {g : G8} {k : Nat} {w w' : World} {F : Nat → Prop} {p : Nat} {M : DK} (h : DD g k w F p M) (l : List Int) (hl : ∀ x ∈ l, -9223372036854775808 ≤ x ∧ x ≤ maxI) {D : DataW Value} {b1 : Nat} (h1 : w.heap.size ≤ b1) (hF1 : F b1)
    (hm : w'.ownsMap Try.prog 3 unitElem b1 (Maps.size D) D) (hx : ∀ x : Int, -9223372036854775808 ≤ x → x ≤ maxI → Maps.has D (.int .i64 x) = decide (x ∈ l)) (hb : Bk w' p (dC { g with bX := some b1 } M) 71) (he : ∀ b, F b → b < w.heap.size → g.rl b ≠ 0 → w'.heap[b]? = w.heap[b]?) :
    DD { g with bX := some b1, DX := D, rl := rlN g w 4 } k w' F p (failD M l) := by
  have hw : ∀ (r b : Nat), F b → g.rl b = r → r ≠ 0 → b < w.heap.size → w'.heap[b]? = w.heap[b]? ∧ F b ∧ rlN g w 4 b = r := fun r b h1 h2 h3 h6 => ⟨he b h1 h6 (by omega), h1, by rw [rlN_old h6, h2]⟩
  obtain ⟨p1, p2, p3, p4, p5, p6, p7, p8, p9, p10, p11⟩ := h.pl
  refine ⟨⟨h.ok.quota, h.ok.sort, h.ok.keep, h.ok.place, h.ok.kplace, h.ok.cplace, h.ok.safe, h.ok.one⟩, ⟨p1, p2, p3, p4, p5, p6, p7, p8, hl, p10, p11⟩, h.org, h.inj, hb, ⟨h.foot.1, by show rlN g w 4 p = 0; rw [rlN_old h.blk.lt, h.foot.2]⟩, h.names.move (fun h1 h2 h3 => hw 2 _ h1 h2 (by omega) h3), h.kept.move (fun b h1 h2 h3 => hw 3 b h1 h2 (by omega) h3), .inr ⟨b1, rfl, hm, hx, hF1, rlN_new h1⟩, ?_, h.fsize, h.live, ?_, h.chs, ?_, h.full⟩
  · obtain ⟨a1, a2, a3⟩ := h.files
    obtain ⟨e1, e2, e3⟩ := hw 1 _ a2 a3 (by omega) a1.lt
    exact ⟨ownsMap_same a1 e1, e2, e3⟩
  · intro f hf
    have hx := h.each f hf
    exact ⟨hx.place, hx.has, hx.at_, hx.data.same8 (fun b hb hl => (hw _ b (hx.own b hb).1 (hx.own b hb).2 (by omega) hl).1), fun b hb => (hw _ b (hx.own b hb).1 (hx.own b hb).2 (by omega) (hx.data.low0 hb)).2⟩
  · exact ⟨h.chv.1.same8 (fun b hb hl => (hw 5 b (h.chv.2 b hb).1 (h.chv.2 b hb).2 (by omega) hl).1), fun b hb => (hw 5 b (h.chv.2 b hb).1 (h.chv.2 b hb).2 (by omega) (h.chv.1.low0 hb)).2⟩
theorem key8I {x : Int} (h0 : -9223372036854775808 ≤ x) (h1 : x ≤ maxI) : keyOf Try.prog 3 (.int .i64 x) = some (.int .i64 x) := keyOf_int_mk Try.underlying3 (by
  have e1 : IntKind.i64.min = -9223372036854775808 := by decide
  have e2 : IntKind.i64.max = 9223372036854775807 := by decide
  unfold maxI at h1
  simp [Lit.wf]; omega)
set_option maxHeartbeats 2000000 in
theorem fail_any (g : G8) (k : Nat) (w : World) (F : Nat → Prop) (p : Nat) (M : DK) (hF : ∀ b, w.heap.size ≤ b → F b) (h : DD g k w F p M) (A : Option Addr) (n c : Nat) (ts : List Int) (hv : IV w A n ts) (hn : n ≤ 1000) (hA : n = 0 ∨ ∀ x, A = some x → ¬ F x.block) (hr : ∀ x ∈ ts, -9223372036854775808 ≤ x ∧ x ≤ maxI) :
    Calls Try.prog 19 #[.pointer (some ⟨p, 0, none⟩), .slice A n c] w fun e w' => e = .returned (.tuple #[]) ∧ (∃ g', DD g' k w' F p (failD M ts)) ∧ Kp F w w' := by
  have hB := h.blk
  have hpl := hB.lt
  have c6 : (w.alloc (.map #[] 0)).cell? ⟨p, 6, none⟩ = some (.map g.bX) := (hB.alloc _).cell 6 rfl
  have f6 := (hB.alloc (.map #[] 0)).free 6
  have hl := Lib.hid (IV.len hv)
  have hmk : ∀ wx, (Instr.makeMap 69 none).run Try.prog wx = .ok (.map (some wx.heap.size)) (wx.alloc (.map #[] 0)) := fun wx => run_makeMap ..
  have hB2 := (hB.set 6 (.map (some w.heap.size))).alloc (.map #[] 0)
  have hK2 : Kp F w ((w.setCell ⟨p, 6, none⟩ (.map (some w.heap.size))).alloc (.map #[] 0)) := ((Kp.refl F w).setCell (.inl h.foot.1) _).alloc _
  have hm2 : ((w.setCell ⟨p, 6, none⟩ (.map (some w.heap.size))).alloc (.map #[] 0)).ownsMap Try.prog 3 (unitElem (H := Value)) w.heap.size 0 (.map []) := by
    have := World.ownsMap_made (H := Value) (w.setCell ⟨p, 6, none⟩ (.map (some w.heap.size))) Try.prog 3 unitElem
    rwa [size_set] at this
  have hs2 : ∀ b, b < w.heap.size → b ≠ p → ((w.setCell ⟨p, 6, none⟩ (.map (some w.heap.size))).alloc (.map #[] 0)).heap[b]? = w.heap[b]? := fun b h1 h2 => (Below.heap_alloc _ _ _ (by rw [size_set]; exact h1)).trans (Below.heap_setCell _ _ _ _ h2)
  have HH := Lib.hid h
  clear h hB
  go_enter Try.func19, Try.ntmps19
  go_wp2_with fail
  go_loopw [5, 12] (fun _ i wr => ∃ (j : Nat) (D : DataW Value), j ≤ n ∧ i = .int .i64 (j : Int) ∧ wr.ownsMap Try.prog 3 unitElem w.heap.size (Maps.size D) D ∧ Maps.size D ≤ j ∧ (∀ x : Int, -9223372036854775808 ≤ x → x ≤ maxI → Maps.has D (.int .i64 x) = decide (x ∈ ts.take j)) ∧ Bk wr p (dC { g with bX := some w.heap.size } M) 71 ∧ (∀ b, b < w.heap.size → b ≠ p → wr.heap[b]? = w.heap[b]?) ∧ Kp F w wr) (fun _ i _ => n - (intOf i).toNat)
  case atStart => exact ⟨0, .map [], by omega, rfl, hm2, Nat.le_refl _, (fun x _ _ => by simp [Maps.has]), hB2, hs2, hK2⟩
  case round =>
    clear hB2 hK2 hm2 hs2 c6 f6
    obtain ⟨j, D, hj, rfl, hm, hsz, hh, hBr, hsr, hKr⟩ := hrel
    by_cases hlt : j < n
    · have hji : (j : Int) < (n : Int) := by omega
      have hvr : IV wr A n ts := hv.other (fun x hx hlx => hsr _ hlx (fun e => (hA.resolve_left (by omega)) x hx (by rw [e]; exact HH.out.foot.1)))
      obtain ⟨b, off, rfl, hcl⟩ := hvr.at j hlt
      have hmem : ts.getD j 0 ∈ ts := by
        have := hl.out
        rw [List.getD_eq_getElem?_getD, List.getElem?_eq_getElem (by omega)]; exact List.getElem_mem _
      have htk := take_snocI ts j (by have := hl.out; omega)
      obtain ⟨hr0, hr1⟩ := hr _ hmem
      generalize ts.getD j 0 = x at *
      have e6 := hBr.cell 6 (v := .map (some w.heap.size)) rfl
      obtain ⟨w5, hrun, hm5, hg5⟩ := hm.update law8I Try.underlying69 (by unfold maxLen; omega) (key8I hr0 hr1) unitElem_mk
      have htd := hm.tidy law8I
      have hF5 := Lib.hid (show w5.ownsMap Try.prog 3 unitElem w.heap.size (Maps.size (D.put (.int .i64 x) (.agg []))) (D.put (.int .i64 x) (.agg [])) ∧ Maps.size (D.put (.int .i64 x) (.agg [])) ≤ j + 1 ∧ (∀ y : Int, -9223372036854775808 ≤ y → y ≤ maxI → Maps.has (D.put (.int .i64 x) (.agg [])) (.int .i64 y) = decide (y ∈ ts.take (j + 1))) ∧ Bk w5 p (dC { g with bX := some w.heap.size } M) 71 ∧ (∀ b, b < w.heap.size → b ≠ p → w5.heap[b]? = w.heap[b]?) ∧ Kp F w w5 from by
        refine ⟨ownsMap_tight hm5, ?_, ?_, ?_, ?_, ?_⟩
        · rw [size_put htd]; split <;> omega
        · intro y hy0 hy1
          rw [htk]
          by_cases e : y = x
          · subst e
            rw [has_put_same htd.isMap (k := .int .i64 y) trivial]; simp
          · rw [has_put_other (fun e2 => e (by simpa using e2)), hh y hy0 hy1]
            simp [e]
        · exact (hg5.block p (by have := hBr.lt; exact this) (fun e => by have := Option.some.inj e; omega)).trans hBr
        · intro b hb hne
          exact (hg5.block b (by have := hKr.size; omega) (fun e => by have := Option.some.inj e; omega)).trans (hsr b hb hne)
        · exact hKr.grown hg5 (fun k hk => by cases hk; exact .inr (Nat.le_refl _)))
      clear hm hm5 hh hsz hBr hsr hKr hg5 htd htk hvr hmem
      go_wp2_with fail
      go_roundw
      case rel => exact ⟨j + 1, _, by omega, by go_num, hF5.out⟩
      case measure => simp [intOf]; omega
    · have hji : ¬ (j : Int) < (n : Int) := by omega
      have hjn : j = n := by omega
      have hset := HH.out.failing ts hr (Nat.le_refl _) (hF _ (Nat.le_refl _)) hm (fun x h0 h1 => by rw [hh x h0 h1, List.take_of_length_le (by rw [hl.out]; omega)]) hBr (fun b h1 h2 h3 => hsr b h2 (fun e => h3 (by rw [e]; exact HH.out.foot.2)))
      have HS := Lib.hid hset
      have HK := Lib.hid hKr
      clear hset hm hh hBr hsr hKr hjn
      go_wp2_with fail
      (try simp only [Exit.inBlock, Exit.then])
      refine Great.bodyPost_end0 rfl rfl ?_
      exact ⟨rfl, ⟨_, HS.out⟩, HK.out⟩
end Go.Proofs.Ytlagmjdldplblaa
/-
  DERIVED: THE SHELF's CONTRACTS AT THIS DUMP, IN PLAIN WORDS (tools/lay-plain.mjs out of 'TryIter.lean', which tools/lay-shelf.mjs wrote): THE SAME DECLARATIONS UNDER THE SAME NAMES: 'import', 'namespace', 'open', 'def', 'theorem' AND NOTHING ELSE: no command of the shelf's: FOR A HAND-IN. Each laying: the table of numbers ('.._ren') and one theorem, a field a fact of the dump's own or the kernel's comparison; each contract: ONE APPLICATION.
-/
namespace Go.Proofs
open Go.Shelf
def Try.keys38_ren : Go.Shelf.Ren := ⟨fun | 7 => 38 | 10 => 72 | n => n, fun | 23 => 67 | 26 => 9 | 3 => 83 | 28 => 80 | 0 => 0 | 27 => 79 | 33 => 101 | 4 => 4 | n => n, fun | n => n⟩
theorem Try.keys38 : Go.Proofs.SlLaysZ.n7 Try.prog Try.keys38_ren := {
  mixed := by kernel_rfl
  f7 := ⟨Try.f38.name, by decide, Try.func38.trans (congrArg some (by kernel_rfl))⟩
  f10 := ⟨Try.f72.name, by decide, Try.func72.trans (congrArg some (by kernel_rfl))⟩
  t0 := Try.underlying0
  a0 := Try.isAgg0
  z0 := Try.sizeOf0
  v0 := Try.zeroValue0
  t4 := Try.underlying4
  a4 := Try.isAgg4
  z4 := Try.sizeOf4
  v4 := Try.zeroValue4
  t23 := Try.underlying67
  a23 := Try.isAgg67
  z23 := Try.sizeOf67
  v23 := Try.zeroValue67
  t26 := Try.underlying9
  a26 := Try.isAgg9
  z26 := Try.sizeOf9
  v26 := Try.zeroValue9
  t27 := Try.underlying79
  a27 := Try.isAgg79
  z27 := Try.sizeOf79
  v27 := Try.zeroValue79
  t28 := Try.underlying80
  a28 := Try.isAgg80
  z28 := Try.sizeOf80
  v28 := Try.zeroValue80
  t33 := Try.underlying101
  a33 := Try.isAgg101
  z33 := Try.sizeOf101
  v33 := Try.zeroValue101 }
def Try.sorted37_ren : Go.Shelf.Ren := ⟨fun | 6 => 37 | 8 => 70 | 9 => 71 | 11 => 82 | 13 => 84 | 12 => 83 | 23 => 94 | 24 => 95 | 14 => 85 | 15 => 86 | 16 => 87 | 17 => 88 | 18 => 89 | 19 => 90 | 20 => 91 | 21 => 92 | 22 => 93 | 25 => 96 | 26 => 97 | 27 => 98 | 28 => 99 | 29 => 100 | 30 => 101 | 31 => 102 | n => n, fun | 26 => 9 | 28 => 80 | 24 => 49 | 0 => 0 | 3 => 3 | 37 => 120 | 48 => 131 | 50 => 133 | 4 => 4 | 40 => 123 | 39 => 122 | 45 => 128 | 5 => 5 | 9 => 9 | 51 => 134 | 55 => 138 | 57 => 140 | 58 => 141 | 33 => 101 | n => n, fun | n => n⟩
theorem Try.sorted37 : Go.Proofs.SlLaysZ.n6 Try.prog Try.sorted37_ren := {
  mixed := by kernel_rfl
  f6 := ⟨Try.f37.name, by decide, Try.func37.trans (congrArg some (by kernel_rfl))⟩
  f8 := ⟨Try.f70.name, by decide, Try.func70.trans (congrArg some (by kernel_rfl))⟩
  f11 := ⟨Try.f82.name, by decide, Try.func82.trans (congrArg some (by kernel_rfl))⟩
  t0 := Try.underlying0
  a0 := Try.isAgg0
  z0 := Try.sizeOf0
  v0 := Try.zeroValue0
  t24 := Try.underlying49
  a24 := Try.isAgg49
  z24 := Try.sizeOf49
  v24 := Try.zeroValue49
  t26 := Try.underlying9
  a26 := Try.isAgg9
  z26 := Try.sizeOf9
  v26 := Try.zeroValue9
  t28 := Try.underlying80
  a28 := Try.isAgg80
  z28 := Try.sizeOf80
  v28 := Try.zeroValue80
  i26 := by kernel_rfl }
def Try.sort71_ren : Go.Shelf.Ren := ⟨fun | 6 => 71 | 8 => 84 | 9 => 83 | 19 => 94 | 20 => 95 | 21 => 85 | 22 => 86 | 23 => 87 | 24 => 88 | 25 => 89 | 26 => 90 | 27 => 91 | 28 => 92 | 29 => 93 | 36 => 96 | 31 => 97 | 32 => 98 | 37 => 99 | 38 => 100 | 39 => 101 | 41 => 102 | n => n, fun | 27 => 49 | 29 => 9 | 3 => 3 | 32 => 120 | 26 => 49 | 0 => 0 | 44 => 131 | 46 => 133 | 4 => 4 | 36 => 123 | 35 => 122 | 41 => 128 | 5 => 5 | 9 => 9 | 53 => 134 | 57 => 138 | 63 => 140 | 64 => 141 | n => n, fun | n => n⟩
theorem Try.sort71 : Go.Proofs.SlLaysM.n6 Try.prog Try.sort71_ren := {
  mixed := by kernel_rfl
  f6 := ⟨Try.f71.name, by decide, Try.func71.trans (congrArg some (by kernel_rfl))⟩
  f8 := Try.func84.trans (congrArg some (by kernel_rfl))
  f9 := ⟨Try.f83.name, by decide, Try.func83.trans (congrArg some (by kernel_rfl))⟩
  f19 := Try.func94.trans (congrArg some (by kernel_rfl))
  f20 := Try.func95.trans (congrArg some (by kernel_rfl))
  f21 := ⟨Try.f85.name, by decide, Try.func85.trans (congrArg some (by kernel_rfl))⟩
  f22 := ⟨Try.f86.name, by decide, Try.func86.trans (congrArg some (by kernel_rfl))⟩
  f23 := ⟨Try.f87.name, by decide, Try.func87.trans (congrArg some (by kernel_rfl))⟩
  f24 := ⟨Try.f88.name, by decide, Try.func88.trans (congrArg some (by kernel_rfl))⟩
  f25 := ⟨Try.f89.name, by decide, Try.func89.trans (congrArg some (by kernel_rfl))⟩
  f26 := ⟨Try.f90.name, by decide, Try.func90.trans (congrArg some (by kernel_rfl))⟩
  f27 := ⟨Try.f91.name, by decide, Try.func91.trans (congrArg some (by kernel_rfl))⟩
  f28 := ⟨Try.f92.name, by decide, Try.func92.trans (congrArg some (by kernel_rfl))⟩
  f29 := ⟨Try.f93.name, by decide, Try.func93.trans (congrArg some (by kernel_rfl))⟩
  f31 := Try.func97.trans (congrArg some (by kernel_rfl))
  f32 := Try.func98.trans (congrArg some (by kernel_rfl))
  f36 := ⟨Try.f96.name, by decide, Try.func96.trans (congrArg some (by kernel_rfl))⟩
  f37 := ⟨Try.f99.name, by decide, Try.func99.trans (congrArg some (by kernel_rfl))⟩
  f38 := ⟨Try.f100.name, by decide, Try.func100.trans (congrArg some (by kernel_rfl))⟩
  f39 := ⟨Try.f101.name, by decide, Try.func101.trans (congrArg some (by kernel_rfl))⟩
  f41 := ⟨Try.f102.name, by decide, Try.func102.trans (congrArg some (by kernel_rfl))⟩
  t0 := Try.underlying0
  a0 := Try.isAgg0
  z0 := Try.sizeOf0
  v0 := Try.zeroValue0
  t3 := Try.underlying3
  a3 := Try.isAgg3
  z3 := Try.sizeOf3
  v3 := Try.zeroValue3
  t4 := Try.underlying4
  a4 := Try.isAgg4
  z4 := Try.sizeOf4
  v4 := Try.zeroValue4
  t5 := Try.underlying5
  a5 := Try.isAgg5
  z5 := Try.sizeOf5
  v5 := Try.zeroValue5
  t9 := Try.underlying9
  a9 := Try.isAgg9
  z9 := Try.sizeOf9
  v9 := Try.zeroValue9
  t26 := Try.underlying49
  a26 := Try.isAgg49
  z26 := Try.sizeOf49
  v26 := Try.zeroValue49
  t27 := Try.underlying49
  a27 := Try.isAgg49
  z27 := Try.sizeOf49
  v27 := Try.zeroValue49
  t29 := Try.underlying9
  a29 := Try.isAgg9
  z29 := Try.sizeOf9
  v29 := Try.zeroValue9
  t32 := Try.underlying120
  a32 := Try.isAgg120
  z32 := Try.sizeOf120
  v32 := Try.zeroValue120
  t35 := Try.underlying122
  a35 := Try.isAgg122
  z35 := Try.sizeOf122
  v35 := Try.zeroValue122
  t36 := Try.underlying123
  a36 := Try.isAgg123
  z36 := Try.sizeOf123
  v36 := Try.zeroValue123
  t41 := Try.underlying128
  a41 := Try.isAgg128
  z41 := Try.sizeOf128
  v41 := Try.zeroValue128
  t44 := Try.underlying131
  a44 := Try.isAgg131
  z44 := Try.sizeOf131
  v44 := Try.zeroValue131
  t46 := Try.underlying133
  a46 := Try.isAgg133
  z46 := Try.sizeOf133
  v46 := Try.zeroValue133
  t53 := Try.underlying134
  a53 := Try.isAgg134
  z53 := Try.sizeOf134
  v53 := Try.zeroValue134
  t57 := Try.underlying138
  a57 := Try.isAgg138
  z57 := Try.sizeOf138
  v57 := Try.zeroValue138
  t63 := Try.underlying140
  a63 := Try.isAgg140
  z63 := Try.sizeOf140
  v63 := Try.zeroValue140
  t64 := Try.underlying141
  a64 := Try.isAgg141
  z64 := Try.sizeOf141
  v64 := Try.zeroValue141 }
open Go.RowKit Go.Maps Go.Sort in
theorem Try.sorts37 (m : Nat) : AnyZ.SortsIn Try.prog Try.sorted37_ren Fence.wide m :=
  ⟨fun blk off cap ss W hH hblk hsz => callsIn_wide.2 (AnyM.slices_Sort_string Try.sort71 blk off cap ss W hH hblk hsz),
   fun p cap W => callsIn_wide.2 (AnyM.slices_Sort_string_none Try.sort71 p cap W)⟩
open Go.RowKit Go.Maps Go.Sort in
theorem Try.maps_Keys_38 (mb : Option Nat) (W : World) : CallsIn Fence.wide 5 Try.prog 38 #[.map mb] W fun e w' => e = .returned (.func (.func 72) #[] #[.pointer (some ⟨W.heap.size, 0, none⟩)]) ∧ w' = W.alloc (.cells #[.map mb] 67) :=
  AnyZ.keys_in Try.keys38 Fence.wide 5 trivial rfl mb W
open Go.RowKit Go.Maps Go.Sort in
theorem Try.slices_Sorted_keys_37_38 {H : Type} (b nn : Nat) (D0 : DataW H) (R : Value → Option (DataW H × List MemPlace)) (w : World) (hown : w.ownsMap Try.prog 9 R b nn D0) (hmax : Maps.size D0 ≤ maxLen) (hbytes : Maps.size D0 * 16 ≤ 140737488355328) :
    CallsIn Fence.wide 5 Try.prog 37 #[.func (.func 72) #[] #[.pointer (some ⟨w.heap.size, 0, none⟩)]] (w.alloc (.cells #[.map (some b)] 67)) fun e w' => ∃ (v : Value) (ss : List (List UInt8)), e = .returned v ∧ ss.Perm (strKeys D0) ∧
      w'.ownsRow (w.alloc (.cells #[.map (some b)] 67)).heap.size 9 1 v ss.length ((ss.mergeSort (fun x y => decide (x ≤ y))).map encStr) ∧ (v = .slice none 0 0 ↔ ss = []) ∧ Below (w.alloc (.cells #[.map (some b)] 67)).heap.size (w.alloc (.cells #[.map (some b)] 67)) w' := by
  have hbl := hown.lt
  have hseq : SeqGives Fence.wide 2 Try.prog 72 #[.pointer (some ⟨w.heap.size, 0, none⟩)] encStr (fun ss => ss.Perm (strKeys D0)) (Maps.size D0) (w.alloc (.cells #[.map (some b)] 67)) :=
    AnyZ.keys_gives (ρ := Try.keys38_ren) { Try.keys38 with } Fence.wide _ trivial rfl (by omega) w.heap.size b nn D0 _ (by simp) (by simp) (by
      obtain ⟨es, clock, hb, Ft, hs, hD⟩ := hown
      exact ⟨es, clock, (Below.heap_alloc _ _ b hbl).trans hb, Ft, hs, hD⟩)
  exact AnyZ.sorted_in Try.sorted37 Fence.wide 5 trivial trivial trivial trivial rfl (by omega) (Try.sorts37 _) (enters_of Try.func71 (by kernel_rfl) rfl) 72 #[.pointer (some ⟨w.heap.size, 0, none⟩)] trivial (enters_of Try.func72 (by kernel_rfl) rfl) _ _ hmax hbytes _ hseq
open Go.RowKit Go.Maps Go.Sort in
theorem Try.slices_Sorted_keys_nil_37_38 (w : World) :
    CallsIn Fence.wide 5 Try.prog 37 #[.func (.func 72) #[] #[.pointer (some ⟨w.heap.size, 0, none⟩)]] (w.alloc (.cells #[.map none] 67)) fun e w' => ∃ (v : Value) (ss : List (List UInt8)), e = .returned v ∧ ss = [] ∧
      w'.ownsRow (w.alloc (.cells #[.map none] 67)).heap.size 9 1 v ss.length ((ss.mergeSort (fun x y => decide (x ≤ y))).map encStr) ∧ (v = .slice none 0 0 ↔ ss = []) ∧ Below (w.alloc (.cells #[.map none] 67)).heap.size (w.alloc (.cells #[.map none] 67)) w' := by
  have hseq : SeqGives Fence.wide 2 Try.prog 72 #[.pointer (some ⟨w.heap.size, 0, none⟩)] encStr (fun ss : List (List UInt8) => ss = []) 0 (w.alloc (.cells #[.map none] 67)) :=
    AnyZ.keys_gives_nil (ρ := Try.keys38_ren) { Try.keys38 with } Fence.wide _ trivial rfl w.heap.size _ (by simp) (by simp)
  exact AnyZ.sorted_in Try.sorted37 Fence.wide 5 trivial trivial trivial trivial rfl (by omega) (Try.sorts37 _) (enters_of Try.func71 (by kernel_rfl) rfl) 72 #[.pointer (some ⟨w.heap.size, 0, none⟩)] trivial (enters_of Try.func72 (by kernel_rfl) rfl) _ 0 (Nat.zero_le _) (by omega) _ hseq
end Go.Proofs
/- Contracts of package disk: Read, Names. -/
namespace Go.Proofs.Ytlagmjdldplblaa
open Go.ChangeShapes Go.WideShapes Go.ChangeAt Go.RowKit Go.WideMaps Go.Maps
set_option linter.unusedVariables false
set_option maxRecDepth 4000

set_option maxHeartbeats 1000000 in
theorem clone8_any (a : Option Addr) (n cap : Nat) (zs : List Int) (w : World) (hv : BV w a n zs) (hl : n ≤ 140000000000000) :
    Calls Try.prog 40 #[.slice a n cap] w fun e w' => ∃ v, e = .returned v ∧ OW w' w.heap.size v zs ∧ Below w.heap.size w w' := by
  cases a with
  | none =>
    have hn : n = 0 := by
      rcases hv.2.2 with h | ⟨b, off, h, _⟩
      · exact h
      · cases h
    subst hn
    have hz : zs = [] := List.eq_nil_of_length_eq_zero hv.1
    clear hv
    have hnil : ∀ wx, (binOp .eql 28 (.slice none 0 cap) (.slice none 0 0)).run Try.prog wx = .ok (.bool true) wx := fun wx => Lib.run_eql_slice_nil wx 28 5 none 0 cap 0 0 Try.underlying28
    go_enter Try.func40, Try.ntmps40
    go_wp2
    go_ret
    exact ⟨_, rfl, .inl ⟨rfl, hz⟩, Below.refl _ _⟩
  | some x =>
    have hnil : ∀ wx, (binOp .eql 28 (.slice (some x) n cap) (.slice none 0 0)).run Try.prog wx = .ok (.bool false) wx := fun wx => Lib.run_eql_slice_nil wx 28 5 (some x) n cap 0 0 Try.underlying28
    go_enter Try.func40, Try.ntmps40
    go_wp2_with (at_builtin; refine append_ow rfl (.tmp 5) (.tmp 6) rfl w.heap.size _ [] rfl (OW.empty _ _ (Nat.le_refl _) _ rfl) _ n _ zs rfl (hv.alloc _) (by simp only [List.length_nil]; omega) (by rw [heap_alloc]; omega) ?_; intro v2 w2 ho2 hb2)
    go_ret
    rw [List.nil_append] at ho2
    exact ⟨_, rfl, ho2, ((Below.refl _ _).alloc (Nat.le_refl _) _).trans hb2⟩
/-- what Read tells -/
def ReadE (w w' : World) (N : List Int × Int) (e : Ending) : Prop := ∃ v, e = .returned (.tuple #[v, .int .i64 N.2]) ∧ OW w' w.heap.size v N.1 ∧ Below w.heap.size w w'
set_option maxHeartbeats 2000000 in
theorem read_any (g : G8) (k : Nat) (w : World) (F : Nat → Prop) (p : Nat) (M : DK) (hk : k ≤ 1000) (h : DD g k w F p M) (s : ByteArray) (hs : s.size ≤ 1000) :
    Calls Try.prog 31 #[.pointer (some ⟨p, 0, none⟩), .string s] w fun e w' => ReadE w w' (readD M s) e := by
  have c9 := h.blk.cell 9 (v := .bool M.dead) rfl
  have c2 := h.blk.cell 2 (v := .map (some g.bN)) rfl
  have c1 := h.blk.cell 1 (v := .map (some g.bF)) rfl
  cases hd : M.dead with
  | true =>
    have hm : readD M s = ([], 34) := by unfold readD; rw [if_pos hd]
    rw [hm]
    rw [hd] at c9
    clear h hm hd
    go_enter Try.func31, Try.ntmps31
    go_wp2_with fail
    go_ret2
    exact ⟨_, rfl, .inl ⟨rfl, rfl⟩, Below.refl _ _⟩
  | false =>
    rw [hd] at c9
    have hlk := nm_look h.names.1 (s := s) hs
    cases hf : findN M.names s with
    | none =>
      have hm : readD M s = ([], 30) := by unfold readD; rw [if_neg (by rw [hd]; decide), hf]
      rw [hm]
      rw [hf] at hlk
      simp only [lookO, hf] at hlk
      unfold oV at hlk
      clear h hm hd hf
      go_enter Try.func31, Try.ntmps31
      go_wp2_with fail
      go_ret2
      exact ⟨_, rfl, .inl ⟨rfl, rfl⟩, Joins.below_alloc1 _ _⟩
    | some f =>
      have hm : readD M s = ((flN M f).1, 0) := by unfold readD; rw [if_neg (by rw [hd]; decide), hf]
      rw [hm]
      rw [hf] at hlk
      simp only [lookO, hf] at hlk
      have hlv := h.live f (.inl ⟨_, findN_mem hf, rfl⟩)
      have hx := h.each f hlv
      have hby : ∀ z ∈ (flN M f).1, 0 ≤ z ∧ z ≤ 255 := h.pl.bytes _ (h.mem hx.place)
      have hdl := h.pl.len _ (h.mem hx.place)
      obtain ⟨a, c, hsv, hlc, -, hbv, -⟩ := hx.data.bvn hby _ rfl
      have hlf := fun wq (hq : Old w wq) => fm_look (h.old hq) (by omega) hlv
      generalize hO : g.og f = o at hlk hlf
      rw [hsv] at hlf
      unfold oV at hlk
      unfold oV fileV at hlf
      have hfield := field8 a (flN M f).1.length c ((flN M f).2 : Int)
      have hO1 : Old w (w.alloc (.cells #[.int .i64 o.1, .string o.2] 83)) := (Old.refl w).alloc _
      have hN1 := Bk.new w #[.int .i64 o.1, .string o.2] 83
      have x0 := hN1.cell 0 (v := .int .i64 o.1) rfl
      have x1 := hN1.cell 1 (v := .string o.2) rfl
      have y1 := hO1.cell c1
      have HB := Lib.hid (And.intro (hbv.old hO1) (show Below w.heap.size w (w.alloc (.cells #[.int .i64 o.1, .string o.2] 83)) from Joins.below_alloc1 _ _))
      have hlf2 := fun wq (hq : Old (w.alloc (.cells #[.int .i64 o.1, .string o.2] 83)) wq) => hlf wq (hO1.trans hq)
      clear h hm hd hf hx hby hsv hbv hO hN1 hO1 hlf
      go_enter Try.func31, Try.ntmps31
      go_wp2_with fail
      generalize w.alloc (.cells #[.int .i64 o.1, .string o.2] 83) = w1 at *
      refine wp_region_noPanic ?_
      refine region_g 10 (Old w1) (by kernel_rfl) ((Old.refl w1).drew) (fun hS => ?_)
      refine take_w (i := 0) (v := ?_) (some 23) rfl (by kernel_rfl) rfl (fun _ _ _ h => h) (Or.inl ⟨by rfl, ?_⟩) hS ?_
      rotate_left
      · (intro wq hq; go_simp); first | done | with_reducible rfl
      try simp only [Act.put, List.setIfInBounds_toArray, List.set_cons_zero, List.set_cons_succ]
      replace hS := Till.list 0 hS
      refine take_n (i := 4) (v := ?_) (some 27) rfl (by kernel_rfl) rfl (fun _ _ _ h => h) (Or.inl ⟨by rfl, ?_⟩) hS ?_
      rotate_left
      · (intro wq hq; have q0 := hq.cell x0; have q1 := hq.cell x1; have q2 := hq.cell y1; go_simp); first | done | with_reducible rfl
      try simp only [Act.put, List.setIfInBounds_toArray, List.set_cons_zero, List.set_cons_succ]
      replace hS := Till.list 4 hS
      refine take_w (i := 1) (v := ?_) (some 24) rfl (by kernel_rfl) rfl (fun _ _ _ h => h) (Or.inl ⟨by rfl, ?_⟩) hS ?_
      rotate_left
      · (intro wq hq; go_simp); first | done | with_reducible rfl
      try simp only [Act.put, List.setIfInBounds_toArray, List.set_cons_zero, List.set_cons_succ]
      replace hS := Till.list 1 hS
      refine take_w (i := 2) (v := ?_) (some 25) rfl (by kernel_rfl) rfl (fun _ _ _ h => h) (Or.inl ⟨by rfl, ?_⟩) hS ?_
      rotate_left
      · (intro wq hq; go_simp); first | done | with_reducible rfl
      try simp only [Act.put, List.setIfInBounds_toArray, List.set_cons_zero, List.set_cons_succ]
      replace hS := Till.list 2 hS
      refine take_n (i := 3) (v := ?_) (some 26) rfl (by kernel_rfl) rfl (fun _ _ _ h => h) (Or.inl ⟨by rfl, ?_⟩) hS ?_
      rotate_left
      · (intro wq hq; have q0 := hq.cell x0; have q1 := hq.cell x1; have q2 := hq.cell y1; go_simp); first | done | with_reducible rfl
      try simp only [Act.put, List.setIfInBounds_toArray, List.set_cons_zero, List.set_cons_succ]
      replace hS := Till.list 3 hS
      refine take_n (i := 5) (v := .agg #[.slice a (flN M f).1.length c, .int .i64 ((flN M f).2 : Int)]) (some 28) rfl (by kernel_rfl) rfl (fun _ _ _ h => h) (Or.inl ⟨by rfl, ?_⟩) hS ?_
      · (intro wq hq; (have q0 := hlf2 wq hq; go_simp))
      try simp only [Act.put, List.setIfInBounds_toArray, List.set_cons_zero, List.set_cons_succ]
      replace hS := Till.list 5 hS
      refine take_w (i := 6) (v := ?_) (some 29) rfl (by kernel_rfl) rfl (fun _ _ _ h => h) (Or.inl ⟨by rfl, ?_⟩) hS ?_
      rotate_left
      · (intro wq hq; go_simp); first | done | with_reducible rfl
      try simp only [Act.put, List.setIfInBounds_toArray, List.set_cons_zero, List.set_cons_succ]
      replace hS := Till.list 6 hS
      refine ready_g (rs := [7]) (by kernel_rfl) (by simp) ?_
      refine AllReadyG.cons rfl (fun Kont hK => ?_) AllReadyG.nil
      go_simp
      refine (clone8_any a _ c _ _ HB.out.1.drew (by omega)).mono ?_
      rintro e w2 ⟨v, rfl, ho2, hb2⟩
      refine hK.out _ _ (Or.inr (((hS.get (by kernel_rfl)).below hb2))) (fun hS0 => ?_)
      clear hK Kont
      try simp only [Act.put, List.setIfInBounds_toArray, List.set_cons_zero, List.set_cons_succ]
      clear hS
      have hS := hS0
      clear hS0
      refine take_w (i := 8) (v := ?_) (some 4) rfl (by kernel_rfl) rfl (fun _ _ _ h => h) (Or.inl ⟨by rfl, ?_⟩) hS ?_
      rotate_left
      · (intro wq hq; go_simp); first | done | with_reducible rfl
      try simp only [Act.put, List.setIfInBounds_toArray, List.set_cons_zero, List.set_cons_succ]
      replace hS := Till.list 8 hS
      refine take_w (i := 9) (v := ?_) (some 5) rfl (by kernel_rfl) rfl (fun _ _ _ h => h) (Or.inl ⟨by rfl, ?_⟩) hS ?_
      rotate_left
      · (intro wq hq; go_simp); first | done | with_reducible rfl
      try simp only [Act.put, List.setIfInBounds_toArray, List.set_cons_zero, List.set_cons_succ]
      replace hS := Till.list 9 hS
      refine done_g (by kernel_rfl) (NoPanic.normal ?_) _
      clear hS
      have HF := Lib.hid (show OW w2 w.heap.size v (flN M f).1 ∧ Below w.heap.size w w2 from by
        have h1 := HB.out.2.size
        refine ⟨ho2.mono h1, HB.out.2.trans (Below.mono ⟨hb2.os, hb2.tape, hb2.output, hb2.size, hb2.block⟩ h1)⟩)
      clear ho2 hb2
      go_wp2_with fail
      go_ret2
      exact ⟨_, rfl, HF.out⟩
theorem bl_lt : ∀ a b : List UInt8, Op.bytesLess a b = true ↔ a < b
  | a, [] => by cases a <;> simp [Op.bytesLess]
  | [], b :: l => by simp [Op.bytesLess]
  | x :: a, y :: b => by
    have ih := bl_lt a b
    rw [List.cons_lt_cons_iff, ← ih]
    simp [Op.bytesLess]
theorem ltN_le {a b : ByteArray} (h : ltN a b = true) : a.data.toList ≤ b.data.toList := by
  have h2 := ltN_anti h
  have h3 : ¬ b.data.toList < a.data.toList := fun e => by
    have := (bl_lt _ _).2 e
    unfold ltN at h2; rw [h2] at this; cases this
  exact h3
theorem keys_nm (og : Nat → Or8) : ∀ l : List Nm8, strKeys (nmD og l) = l.map (fun n => n.1.data.toList)
  | [] => rfl
  | n :: l => by
    have := keys_nm og l
    show n.1.data.toList :: strKeys (nmD og l) = _
    rw [this]; rfl
theorem keys_sorted : ∀ {l : List Nm8}, SortN l → (l.map (fun n => n.1.data.toList)).Pairwise (fun a b => leB a b = true)
  | [], _ => List.Pairwise.nil
  | n :: l, h => by
    rw [List.map_cons]
    refine List.Pairwise.cons (fun x hx => ?_) (keys_sorted h.2)
    obtain ⟨m, hm, rfl⟩ := List.mem_map.1 hx
    exact decide_eq_true (ltN_le (h.1 m hm))
theorem keys_merge {og : Nat → Or8} {l : List Nm8} (h : SortN l) {ss : List (List UInt8)} (hp : ss.Perm (strKeys (nmD og l))) : ss.mergeSort leB = l.map (fun n => n.1.data.toList) := by
  rw [mergeSort_of_perm hp, keys_nm]
  exact List.mergeSort_of_pairwise (keys_sorted h)
theorem row_os {w : World} {base : Nat} {e : TypeId} {v : Value} {n : Nat} {cs : List Value} (h : w.ownsRow base e 1 v n cs) (h1 : ∀ u ∈ cs, u.oneCell' = true) (hl : cs.length = n) : OS 1 w base v n cs := by
  refine ⟨by omega, h1, ?_⟩
  rcases h.2 with ⟨rfl, h0⟩ | ⟨g, cap, cur, rfl, hg, hh, hl, hm, hs, ht⟩
  · exact .inl ⟨rfl, h0⟩
  · exact .inr ⟨g, cap, cur, e, rfl, hg, hh, hl, hm, by omega, ht⟩
/-- the sorted names of a map -/
theorem sorted_any {og : Nat → Or8} {l : List Nm8} {b : Nat} (w : World) (hs : SortN l) (hm : w.ownsMap Try.prog 9 eO b l.length (nmD og l)) (hl : l.length ≤ 2000) :
    Calls Try.prog 37 #[.func (.func 72) #[] #[.pointer (some ⟨w.heap.size, 0, none⟩)]] (w.alloc (.cells #[.map (some b)] 67)) fun e w' => ∃ v, e = .returned v ∧ OS 1 w' w.heap.size v l.length (tcells (l.map (fun n => n.1))) ∧ Below w.heap.size w w' := by
  refine (callsIn_wide.1 (Try.slices_Sorted_keys_37_38 b _ (nmD og l) eO w hm (by rw [nm_size]; unfold maxLen; omega) (by rw [nm_size]; omega))).mono ?_
  rintro e w' ⟨v, ss, rfl, hp, hrow, -, hb⟩
  have hk := keys_merge hs hp
  have hlen : ss.length = l.length := by have := hp.length_eq; rw [this, keys_nm, List.length_map]
  rw [show (fun x y : List UInt8 => decide (x ≤ y)) = leB from rfl, hk, hlen] at hrow
  have hc : (l.map (fun n => n.1.data.toList)).map encStr = tcells (l.map (fun n => n.1)) := by
    rw [tcells, List.map_map, List.map_map]
    refine List.map_congr_left (fun n _ => ?_)
    show encStr n.1.data.toList = Value.string n.1
    unfold encStr
    congr 1
  rw [hc] at hrow
  refine ⟨v, rfl, ?_, (Joins.below_alloc1 _ _).trans (hb.mono (by simp))⟩
  have hos := row_os hrow (tcells_one _) (by simp [tcells])
  obtain ⟨h1, h2, h3⟩ := hos
  refine ⟨h1, h2, ?_⟩
  rcases h3 with h3 | ⟨g, cap, cur, T, hv, hg, hr⟩
  · exact .inl h3
  · exact .inr ⟨g, cap, cur, T, hv, Nat.le_trans (by simp) hg, hr⟩
set_option maxHeartbeats 1000000 in
theorem names_any (g : G8) (k : Nat) (w : World) (F : Nat → Prop) (p : Nat) (M : DK) (hk : k ≤ 1000) (h : DD g k w F p M) :
    Calls Try.prog 29 #[.pointer (some ⟨p, 0, none⟩)] w fun e w' => ∃ v, e = .returned v ∧ OS 1 w' w.heap.size v M.names.length (tcells (textsD M)) ∧ Below w.heap.size w w' := by
  have c2 := h.blk.cell 2 (v := .map (some g.bN)) rfl
  have hs := Lib.hid (sorted_any w h.ok.sort h.names.1 (by have := kc_names h; omega))
  have hkk := Lib.hid (callsIn_wide.1 (Try.maps_Keys_38 (some g.bN) w))
  clear h
  go_enter Try.func29, Try.ntmps29
  go_wp2_with fail
  refine hkk.out.mono ?_
  rintro e w1 ⟨rfl, rfl⟩
  go_wp2_with fail
  refine hs.out.mono ?_
  rintro e w2 ⟨v, rfl, ho, hb⟩
  have HF := Lib.hid (And.intro ho hb)
  clear ho hb
  go_wp2_with fail
  go_ret
  exact ⟨v, rfl, HF.out⟩
end Go.Proofs.Ytlagmjdldplblaa
/- Contracts of package disk: tail, what is copied of names, what is found. -/
namespace Go.Proofs.Ytlagmjdldplblaa
open Go.ChangeShapes Go.WideShapes Go.ChangeAt Go.RowKit Go.WideMaps Go.Maps
set_option linter.unusedVariables false
set_option maxRecDepth 4000

set_option maxHeartbeats 2000000 in
theorem tail_any (A : Option Addr) (n c : Nat) (ts : List Int) (i m : Nat) (w : World) (hv : IV w A n ts) (hn : n ≤ 1000) (hi : i ≤ 100000) (hm : m ≤ 1000000000) (hr : ∀ x ∈ ts, -9223372036854775808 ≤ x ∧ x ≤ maxI) :
    Calls Try.prog 39 #[.slice A n c, .int .i64 (i : Int), .int .i64 (m : Int)] w fun e w' => e = .returned (.int .i64 (tailD ts i m : Int)) ∧ w' = w := by
  have hl := IV.len hv
  by_cases h0 : n = 0
  · have hD : Hid (tailD ts i m = 0) := Lib.hid (by unfold tailD; rw [if_pos (List.eq_nil_of_length_eq_zero (by omega))])
    subst h0
    clear hv
    go_enter Try.func39, Try.ntmps39
    go_wp2_with fail
    go_ret
    exact ⟨by rw [hD.out]; rfl, rfl⟩
  · have hne : ts ≠ [] := fun e => by rw [e] at hl; simp at hl; omega
    have hjn : i % n < n := Nat.mod_lt _ (by omega)
    obtain ⟨b, off, rfl, hcl⟩ := hv.at (i % n) hjn
    have hmem : ts.getD (i % n) 0 ∈ ts := by
      rw [List.getD_eq_getElem?_getD, List.getElem?_eq_getElem (by omega)]; exact List.getElem_mem _
    obtain ⟨hr0, hr1⟩ := hr _ hmem
    have hD0 : tailD ts i m = (ts.getD (i % n) 0 % ((m : Int) + 1)).toNat := by unfold tailD; rw [if_neg hne, hl]
    unfold maxI at hr1
    generalize ts.getD (i % n) 0 = x at *
    have hn0 : ¬ (n : Int) = 0 := by omega
    have hmod : (i : Int).tmod (n : Int) = ((i % n : Nat) : Int) := by rw [Int.tmod_eq_emod_of_nonneg (by omega)]; omega
    have hm1 : IntKind.i64.wrap ((m : Int) + 1) = (m : Int) + 1 := by rw [IntKind.wrap_i64]; omega
    have hlt : (i % n : Nat) < n := hjn
    have hlti : ((i % n : Nat) : Int) < (n : Int) := by omega
    obtain ⟨y, hy⟩ : ∃ y, x.tmod ((m : Int) + 1) = y := ⟨_, rfl⟩
    have hd : (0 ≤ y → y = x % ((m : Int) + 1)) ∧ (y < 0 → y + ((m : Int) + 1) = x % ((m : Int) + 1)) ∧ y < (m : Int) + 1 ∧ -((m : Int) + 1) < y := by
      have h1 := Int.tmod_eq_emod (a := x) (b := (m : Int) + 1)
      have h2 := Int.emod_nonneg x (show (m : Int) + 1 ≠ 0 by omega)
      have h3 := Int.emod_lt_of_pos x (show 0 < (m : Int) + 1 by omega)
      have h4 : ((((m : Int) + 1).natAbs : Nat) : Int) = (m : Int) + 1 := by omega
      rw [hy] at h1
      split at h1
      · have h1 : y = x % ((m : Int) + 1) := by simpa using h1
        refine ⟨fun _ => h1, fun _ => ?_, ?_, ?_⟩ <;> omega
      · rename_i hno
        rw [h4] at h1
        have hx0 : x < 0 := by omega
        have hnz : x % ((m : Int) + 1) ≠ 0 := fun e => hno (.inr (Int.dvd_of_emod_eq_zero e))
        refine ⟨fun _ => ?_, fun _ => ?_, ?_, ?_⟩ <;> omega
    have h2 := Int.emod_nonneg x (show (m : Int) + 1 ≠ 0 by omega)
    have HD := Lib.hid (And.intro hD0 (And.intro hd h2))
    clear hD0 h2 hv hmem hr hne hr0 hr1
    by_cases hneg : y < 0
    · clear hd
      go_enter Try.func39, Try.ntmps39
      go_wp2_with fail
      go_ret
      refine ⟨?_, rfl⟩
      obtain ⟨e1, ⟨e2, e3, e4, e5⟩, e6⟩ := HD.out
      rw [e1]
      have e7 := e3 hneg
      show Ending.returned (.int .i64 (wrap64 (y + ((m : Int) + 1)))) = _
      have e8 : wrap64 (y + ((m : Int) + 1)) = (((x % ((m : Int) + 1)).toNat : Nat) : Int) := by unfold wrap64; omega
      rw [e8]
    · clear hd
      have hneg' : 0 ≤ y := by omega
      go_enter Try.func39, Try.ntmps39
      go_wp2_with fail
      go_ret
      refine ⟨?_, rfl⟩
      obtain ⟨e1, ⟨e2, e3, e4, e5⟩, e6⟩ := HD.out
      rw [e1]
      have e7 := e2 hneg'
      show Ending.returned (.int .i64 y) = _
      have e8 : y = (((x % ((m : Int) + 1)).toNat : Nat) : Int) := by omega
      rw [e8]
theorem findN_filter (q : ByteArray → Bool) (t : ByteArray) : ∀ l : List Nm8, findN (l.filter (fun n => q n.1)) t = if q t = true then findN l t else none
  | [] => by simp [findN]
  | n :: l => by
    have ih := findN_filter q t l
    rw [List.filter_cons]
    by_cases h : q n.1 = true
    · rw [if_pos h, findN, ih, findN]
      by_cases e : n.1 = t
      · rw [if_pos e, if_pos e, if_pos (by rw [← e]; exact h)]
      · rw [if_neg e, if_neg e]
    · rw [if_neg h, ih, findN]
      by_cases e : n.1 = t
      · rw [if_neg (by rw [← e]; exact h), if_neg (by rw [← e]; exact h)]
      · rw [if_neg e]
/-- names that are not left -/
def gone8 (left : Lit → Bool) (l : List Nm8) : List Nm8 := l.filter (fun n => !left (kN n.1))
theorem gone8_step {left : Lit → Bool} {l : List Nm8} (hs : SortN l) {s : ByteArray} {f : Nat} (hf : findN l s = some f) :
    withN (gone8 left l) (s, f) = gone8 (fun z => left z && !z.sameKey (kN s)) l := by
  refine sortN_one (withN_sort (sortN_sub _ hs) _) (sortN_sub _ hs) (fun t => ?_)
  unfold gone8
  rw [findN_with, findN_filter (fun x => !left (kN x)), findN_filter (fun x => !(left (kN x) && !(kN x).sameKey (kN s)))]
  by_cases e : t = s
  · subst e
    simp [kN_same, hf]
  · simp [kN_same, e]
theorem gone8_all {left : Lit → Bool} {l : List Nm8} (h : ∀ n ∈ l, left (kN n.1) = true) : gone8 left l = [] := List.filter_eq_nil_iff.2 (fun n hn => by simp [h n hn])
theorem gone8_none {left : Lit → Bool} {l : List Nm8} (h : ∀ x, left x = false) : gone8 left l = l := List.filter_eq_self.2 (fun n hn => by simp [h])
set_option maxHeartbeats 2000000 in
theorem mcopy_nil (b : Nat) (w : World) : Calls Try.prog 68 #[.map (some b), .map none] w fun e w' => e = .returned (.tuple #[]) ∧ w' = w.alloc (.mapIter none 0 #[] 0) := by
  have hrg := run_range_nilMap (P := Try.prog) w 67 _ _ Try.underlying67
  have hnx : ∀ ty, (Instr.next (.pointer (some ⟨w.heap.size, 0, none⟩)) false ty).run Try.prog (w.alloc (.mapIter none 0 #[] 0)) = _ := fun ty => run_next_nilMap _ ty 0 0 #[]
  go_enter Try.func68, Try.ntmps68
  go_wp2_with fail
  refine wp_loop_rounds 1 ?_
  rw [rounds_succ]
  go_wp2_with fail
  (try simp only [Exit.inBlock, Exit.then])
  refine Great.bodyPost_end0 rfl rfl ?_
  exact ⟨rfl, rfl⟩
set_option maxHeartbeats 2000000 in
theorem mcopy_any (og : Nat → Or8) (l : List Nm8) (b bs : Nat) (w : World) (hs : SortN l) (hd : w.ownsMap Try.prog 9 eO b 0 (nmD og [])) (hm : w.ownsMap Try.prog 9 eO bs l.length (nmD og l)) (hne : b ≠ bs) (hl : l.length ≤ 2000) :
    Calls Try.prog 68 #[.map (some b), .map (some bs)] w fun e w' => e = .returned (.tuple #[]) ∧ w'.ownsMap Try.prog 9 eO b l.length (nmD og l) ∧ Kp (fun x => x = b) w w' := by
  have hbl := hd.lt
  have hbs := hm.lt
  have HD := Lib.hid hd
  go_enter Try.func68, Try.ntmps68
  go_wp2_with (first | (at_range; refine wpList_range_own _ rfl _ 67 rfl 9 83 law8N Try.underlying67 _ bs _ _ rfl hm ?_; intro w0 hrg0 hg0 hs0) | fail)
  (try go_frame)
  go_loopw [4] (fun _ wr => ∃ (left : Lit → Bool) (cnt : Nat), wr.ranges Try.prog 9 eO bs w.heap.size l.length (nmD og l) left cnt ∧ wr.ownsMap Try.prog 9 eO b (gone8 left l).length (nmD og (gone8 left l)) ∧ Kp (fun x => x = b) w wr) (fun _ wr => wr.rangeLeft bs w.heap.size)
  case atStart =>
    refine ⟨_, _, hrg0, ?_, (Kp.refl _ _).grown hg0 (fun j hj => by cases hj)⟩
    rw [gone8_all (fun n hn => by rw [nm_has, findN_of hs hn]; rfl)]
    exact ownsMap_same HD.out (hg0.block _ hbl (by simp))
  case round =>
    clear hrg0 hg0 hs0 hd hm
    obtain ⟨left, cnt, hrg, hown, hK⟩ := hrel
    go_wp2_with (first | (at_next; refine wpList_next_ranges _ rfl _ rfl 9 law8N eO (fun s : ByteArray => Value.string s) oV (fun key kl hkey => by obtain ⟨s, h1, _⟩ := keyN_inv hkey; exact ⟨s, h1⟩) (fun v y hv => by obtain ⟨o, h1, _⟩ := eO_inv hv; exact ⟨o, h1⟩) bs w.heap.size _ _ _ _ rfl hrg ?_ ?_) | fail)
    · intro _ hl0
      rw [gone8_none hl0] at hown
      have HF := Lib.hid (And.intro hown hK)
      clear hown hK hrg
      go_wp2_with fail
      (try simp only [Exit.inBlock, Exit.then])
      refine Great.bodyPost_end0 rfl rfl ?_
      exact ⟨rfl, HF.out⟩
    · intro s o1 o2 kl yd yp w1 cnt1 hkey hlx hv hat hrg1 hlt hg1 hs1 hen
      obtain ⟨s', e1, rfl⟩ := keyN_inv hkey
      obtain rfl : s = s' := by simpa using e1
      have hh := has_true_of_atKey hat
      rw [nm_has] at hh
      obtain ⟨f, hf⟩ := Option.isSome_iff_exists.1 hh
      have hy := hat .nil
      rw [nm_at, hf] at hy
      simp only [] at hy
      have hvv : eO (oV (o1, o2)) = some (yd, yp) := hv
      rw [eO_mk] at hvv
      have hy2 : DataW.held (oV (o1, o2)) = yd := congrArg Prod.fst (Option.some.inj hvv)
      rw [← hy2] at hy
      have ho : oV (og f) = oV (o1, o2) := by simpa only [DataW.held.injEq] using hy
      have hown1 := (ownsMap_same hown (hg1.block _ hown.lt (fun e => by have := Option.some.inj e; omega))).alloc (.cells #[.int .i64 o1, .string o2] 83)
      have hgl : (gone8 left l).length ≤ l.length := List.length_filter_le _ _
      obtain ⟨w5, hrun, hm5, hg5⟩ := hown1.update law8N Try.underlying67 (by unfold maxLen; omega) hkey (eO_mk (og f))
      rw [nm_put, gone8_step hs hf] at hm5
      rw [ho] at hrun
      have q2 : (w1.alloc (.cells #[.int .i64 o1, .string o2] 83)).cell? ⟨w1.heap.size, 0, none⟩ = some (.int .i64 o1) := (Bk.new w1 #[.int .i64 o1, .string o2] 83).cell 0 rfl
      have q3 : (w1.alloc (.cells #[.int .i64 o1, .string o2] 83)).cell? ⟨w1.heap.size, 1, none⟩ = some (.string o2) := (Bk.new w1 #[.int .i64 o1, .string o2] 83).cell 1 rfl
      have hrg5 := (hrg1.alloc (.cells #[.int .i64 o1, .string o2] 83)).kept hg5 (fun e => hne (Option.some.inj e).symm) (fun e => by have := Option.some.inj e; omega)
      have hK5 : Kp (fun x => x = b) w w5 := ((hK.grown hg1 (fun j hj => by cases hj; exact .inr (Nat.le_refl _))).alloc _).grown hg5 (fun j hj => by cases hj; exact .inl rfl)
      have HF := Lib.hid (And.intro hrg5 (And.intro (ownsMap_len hm5) (And.intro hK5 (And.intro hrg hlt))))
      unfold oV at hrun
      clear hrg5 hm5 hK5 hg5 hown1 hown hK ho hf hy hy2 hvv hh hat hv hlx hkey hg1 hrg1 hrg hlt e1 hs1
      unfold oV at hen
      show wpList _ _ _ _ _ _
      unfold oV
      go_wp2_with fail
      go_roundw
      case rel => exact ⟨_, cnt1, HF.out.1, HF.out.2.1, HF.out.2.2.1⟩
      case measure => rw [HF.out.1.left_eq, HF.out.2.2.2.1.left_eq]; exact HF.out.2.2.2.2
end Go.Proofs.Ytlagmjdldplblaa
