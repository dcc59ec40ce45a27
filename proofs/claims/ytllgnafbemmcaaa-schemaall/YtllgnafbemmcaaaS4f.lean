/- Contracts of Made and made: a schema that may be, of any numbers. -/
import Derived.Test.YtllgnafbemmcaaaS4e
import Derived.Test.YtllgnafbemmcaaaG4
import Derived.Test.YtllgnafbemmcaaaR2
namespace Go.Proofs.Ytllgnafbemmcaaa
open Go.ChangeShapes Go.WideShapes Go.ChangeAt Go.RowKit
set_option linter.unusedVariables false

theorem el_ints : El 22 3 1 8 (.int .i64 0) := ⟨Try.underlying22, by kernel_rfl, rfl, by omega⟩
theorem ld_ss {w : World} (b : Nat) {A : Option Addr} {N C : Nat} {k m g : Int} (hc : Sx w b A N C k m g) : (loadVar 24 ⟨b, 0, none⟩).run Try.prog w = .ok (SS A N C k m g) w := by
  obtain ⟨h0, h1, h2, h3⟩ := hc
  go_simp
theorem res_ss {fn : Func} {p : Tmp} (h : fn.results = #[.cell p 24]) (tmps : Array Value) {w : World} (b : Nat) {A : Option Addr} {N C : Nat} {k m g : Int} (hp : tmps.getD p undef = .pointer (some ⟨b, 0, none⟩)) (hc : Sx w b A N C k m g) :
    (results fn tmps).run Try.prog w = .ok (SS A N C k m g) w := by
  have hp' : tmps[p]?.getD undef = .pointer (some ⟨b, 0, none⟩) := by simpa using hp
  simp [results, h, hp', asAddr, ld_ss b hc]
theorem Bk.sx {w : World} {b : Nat} {A : Option Addr} {N C : Nat} {k m g : Int} {T : TypeId} (h : Bk w b #[.slice A N C, .int .i64 k, .int .i64 m, .int .i64 g] T) : Sx w b A N C k m g :=
  ⟨h.cell 0 rfl, h.cell 1 rfl, h.cell 2 rfl, h.cell 3 rfl⟩
theorem Bk.put4 {w : World} {b : Nat} {x0 x1 x2 x3 : Value} {T : TypeId} (h : Bk w b #[x0, x1, x2, x3] T) (y0 y1 y2 y3 : Value) :
    Bk ((((w.setCell ⟨b, 0, none⟩ y0).setCell ⟨b, 1, none⟩ y1).setCell ⟨b, 2, none⟩ y2).setCell ⟨b, 3, none⟩ y3) b #[y0, y1, y2, y3] T := (((h.set 0 y0).set 1 y1).set 2 y2).set 3 y3
/-- the types of a schema that is made -/
def madeT (ls : List Int) (N : Nat) : List Int := (ls.take N).map fun x => 1 + x % 3
theorem madeT_len (ls : List Int) (N : Nat) (h : N ≤ ls.length) : (madeT ls N).length = N := by simp [madeT]; omega
theorem madeT_snoc (ls : List Int) (j : Nat) (h : j < ls.length) : madeT ls (j + 1) = madeT ls j ++ [1 + ls.getD j 0 % 3] := by
  rw [madeT, take_snocI ls j h, List.map_append]; rfl
theorem madeT_mem {ls : List Int} {N : Nat} : ∀ x ∈ madeT ls N, 1 ≤ x ∧ x ≤ 3 := by
  intro x hx
  obtain ⟨y, _, rfl⟩ := List.mem_map.1 hx
  omega
theorem icells_app (a b : List Int) : icells (a ++ b) = icells a ++ icells b := by simp [icells]
/-- the array of eight bytes -/
abbrev ar8 (l0 l1 l2 l3 l4 l5 l6 l7 : Int) : Array Value := #[.int .u8 l0, .int .u8 l1, .int .u8 l2, .int .u8 l3, .int .u8 l4, .int .u8 l5, .int .u8 l6, .int .u8 l7]
theorem ar8_at (l0 l1 l2 l3 l4 l5 l6 l7 : Int) (j : Nat) (h : j < 8) : (ar8 l0 l1 l2 l3 l4 l5 l6 l7)[j]? = some (.int .u8 ([l0, l1, l2, l3, l4, l5, l6, l7].getD j 0)) := by
  match j, h with
  | 0, _ | 1, _ | 2, _ | 3, _ | 4, _ | 5, _ | 6, _ | 7, _ => rfl
abbrev U8s (l : List Int) : Prop := ∀ x ∈ l, 0 ≤ x ∧ x ≤ 255
theorem U8s.at {l : List Int} (h : U8s l) {j : Nat} (hj : j < l.length) : 0 ≤ l.getD j 0 ∧ l.getD j 0 ≤ 255 := by
  have := h _ (List.getElem_mem hj)
  simpa [List.getD, hj] using this
/-- a schema that was made -/
def MadeE (w w' : World) (ls : List Int) (n keys mode grain : Int) (e : Ending) : Prop :=
  ∃ (A : Option Addr) (C : Nat), e = .returned (SS A (1 + n % 8).toNat C (1 + keys % (1 + n % 8)) (1 + mode % 3) (1 + grain % 8)) ∧ OS 1 w' w.heap.size (.slice A (1 + n % 8).toNat C) (1 + n % 8).toNat (icells (madeT ls (1 + n % 8).toNat)) ∧ Below w.heap.size w w'
set_option maxHeartbeats 2000000 in
theorem rmade_any (l0 l1 l2 l3 l4 l5 l6 l7 n keys mode grain : Int) (w : World) (hls : U8s [l0, l1, l2, l3, l4, l5, l6, l7]) (hn : 0 ≤ n ∧ n ≤ 255) (hk : 0 ≤ keys ∧ keys ≤ 255) (hm : 0 ≤ mode ∧ mode ≤ 255) (hg : 0 ≤ grain ∧ grain ≤ 255) :
    Calls Try.prog 38 #[.agg (ar8 l0 l1 l2 l3 l4 l5 l6 l7), .int .u8 n, .int .u8 keys, .int .u8 mode, .int .u8 grain] w fun e w' => MadeE w w' [l0, l1, l2, l3, l4, l5, l6, l7] n keys mode grain e := by
  obtain ⟨N, hN, hN1, hN8⟩ : ∃ N : Nat, 1 + n % 8 = (N : Int) ∧ 1 ≤ N ∧ N ≤ 8 := ⟨(1 + n % 8).toNat, by omega, by omega, by omega⟩
  have hkm : 0 ≤ keys % (N : Int) ∧ keys % (N : Int) ≤ 8 := ⟨Int.emod_nonneg _ (by omega), by have := Int.emod_lt_of_pos keys (show (0 : Int) < N by omega); omega⟩
  unfold MadeE
  rw [hN, Int.toNat_natCast]
  obtain ⟨km, hkq⟩ : ∃ km, keys % (N : Int) = km := ⟨_, rfl⟩
  rw [hkq] at hkm ⊢
  go_enter Try.func38, Try.ntmps38
  go_wp2_with fail
  clear hkq
  go_loopw [13] (fun i wr => ∃ (j : Nat) (a : Option Addr) (c : Nat), j ≤ N ∧ i = .int .i64 (j : Int) ∧ OS 1 wr (w.heap.size + 3) (.slice a j c) j (icells (madeT [l0, l1, l2, l3, l4, l5, l6, l7] j)) ∧ Bk wr (w.heap.size + 1 + 1) #[.slice a j c, .int .i64 (1 + km), .int .i64 (1 + mode % 3), .int .i64 (1 + grain % 8)] 24 ∧ Bk wr w.heap.size (ar8 l0 l1 l2 l3 l4 l5 l6 l7) 41 ∧ Bk wr (w.heap.size + 1) #[.slice none 0 0, .int .i64 0, .int .i64 0, .int .i64 0] 24 ∧ Below w.heap.size w wr) (fun i _ => N - (intOf i).toNat)
  case atStart =>
    refine ⟨0, none, 0, by omega, rfl, OS.nil _ _, ?_, ((Bk.new _ _ _).alloc _).alloc _, ?_, Joins.below_alloc3 _ _ _ _⟩
    · have := Bk.new ((w.alloc (.cells (ar8 l0 l1 l2 l3 l4 l5 l6 l7) 41)).alloc (.cells #[.slice none 0 0, .int .i64 0, .int .i64 0, .int .i64 0] 24)) #[.slice none 0 0, .int .i64 (1 + km), .int .i64 (1 + mode % 3), .int .i64 (1 + grain % 8)] 24
      rw [heap_alloc, heap_alloc] at this; exact this
    · have := (Bk.new (w.alloc (.cells (ar8 l0 l1 l2 l3 l4 l5 l6 l7) 41)) #[.slice none 0 0, .int .i64 0, .int .i64 0, .int .i64 0] 24).alloc (.cells #[.slice none 0 0, .int .i64 (1 + km), .int .i64 (1 + mode % 3), .int .i64 (1 + grain % 8)] 24)
      rw [heap_alloc] at this; exact this
  case round =>
    obtain ⟨j, a, c, hj, rfl, ho, t2, t0, t1, hbel⟩ := hrel
    have hsz : w.heap.size + 3 ≤ wr.heap.size := by have := t2.lt; omega
    by_cases hlt : j < N
    · have hj8 : j < 8 := by omega
      have hj8' : (j : Int) < 8 := by omega
      have hx := hls.at (j := j) (by simp; omega)
      have HX := Lib.hid (ar8_at l0 l1 l2 l3 l4 l5 l6 l7 j hj8)
      have HS := Lib.hid (madeT_snoc [l0, l1, l2, l3, l4, l5, l6, l7] j (by simp; omega))
      generalize [l0, l1, l2, l3, l4, l5, l6, l7].getD j 0 = x at hx HX HS
      have hw1 : IntKind.i64.wrap x = x := by rw [IntKind.wrap_i64]; omega
      have hw2 : x.tmod 3 = x % 3 := Int.tmod_eq_emod_of_nonneg hx.1
      have hw3 : IntKind.i64.wrap (1 + x % 3) = 1 + x % 3 := by rw [IntKind.wrap_i64]; omega
      have hc0 := t0.cell j HX.out
      have c2 := t2.cell 0 (v := .slice a j c) rfl
      have hsz' : w.heap.size ≤ wr.drew.heap.size := by show w.heap.size ≤ wr.heap.size; omega
      go_wp2_with fail
      have hsz : w.heap.size ≤ wr.drew.heap.size := hsz'
      refine wp_region_noPanic ?_
      refine region_g 9 (Ext (World.drew _)) (by kernel_rfl) (Ext.refl _) (fun hS => ?_)
      refine take_w (i := 0) (v := ?_) (some 37) rfl (by kernel_rfl) rfl (fun _ _ _ h => h) (Or.inl ⟨by rfl, ?_⟩) hS ?_
      rotate_left
      · (intro wq hq; go_simp); first | done | with_reducible rfl
      try simp only [Act.put, List.setIfInBounds_toArray, List.set_cons_zero, List.set_cons_succ]
      replace hS := Till.list 0 hS
      refine take_w (i := 2) (v := ?_) (some 39) rfl (by kernel_rfl) rfl (fun _ _ _ h => h) (Or.inl ⟨by rfl, ?_⟩) hS ?_
      rotate_left
      · (intro wq hq; go_simp); first | done | with_reducible rfl
      try simp only [Act.put, List.setIfInBounds_toArray, List.set_cons_zero, List.set_cons_succ]
      replace hS := Till.list 2 hS
      refine take_g (i := 1) (v := ?_) [1] (some 38) rfl (by kernel_rfl) rfl (fun _ _ _ h => h) (Or.inl ⟨by rfl, ?_⟩) hS ?_
      rotate_left
      · (intro wq hq; have q0 := hq _ _ _ hc0; have q1 := hq _ _ _ c2; go_simp); first | done | with_reducible rfl
      try simp only [Act.put, List.setIfInBounds_toArray, List.set_cons_zero, List.set_cons_succ]
      replace hS := Till.list 1 hS
      refine take_w (i := 3) (v := ?_) (some 40) rfl (by kernel_rfl) rfl (fun _ _ _ h => h) (Or.inl ⟨by rfl, ?_⟩) hS ?_
      rotate_left
      · (intro wq hq; go_simp); first | done | with_reducible rfl
      try simp only [Act.put, List.setIfInBounds_toArray, List.set_cons_zero, List.set_cons_succ]
      replace hS := Till.list 3 hS
      refine take_g (i := 4) (v := ?_) [8, 7, 6, 5, 4] (some 41) rfl (by kernel_rfl) rfl (fun _ _ _ h => h) (Or.inl ⟨by rfl, ?_⟩) hS ?_
      rotate_left
      · (intro wq hq; have q0 := hq _ _ _ hc0; have q1 := hq _ _ _ c2; go_simp); first | done | with_reducible rfl
      try simp only [Act.put, List.setIfInBounds_toArray, List.set_cons_zero, List.set_cons_succ]
      replace hS := Till.list 4 hS
      refine take_w (i := 5) (v := ?_) (some 42) rfl (by kernel_rfl) rfl (fun _ _ _ h => h) (Or.inl ⟨by rfl, ?_⟩) hS ?_
      rotate_left
      · (intro wq hq; go_simp); first | done | with_reducible rfl
      try simp only [Act.put, List.setIfInBounds_toArray, List.set_cons_zero, List.set_cons_succ]
      replace hS := Till.list 5 hS
      refine take_w (i := 6) (v := ?_) (some 43) rfl (by kernel_rfl) rfl (fun _ _ _ h => h) (Or.inl ⟨by rfl, ?_⟩) hS ?_
      rotate_left
      · (intro wq hq; go_simp); first | done | with_reducible rfl
      try simp only [Act.put, List.setIfInBounds_toArray, List.set_cons_zero, List.set_cons_succ]
      replace hS := Till.list 6 hS
      refine take_w (i := 7) (v := ?_) (some 44) rfl (by kernel_rfl) rfl (fun _ _ _ h => h) (Or.inl ⟨by rfl, ?_⟩) hS ?_
      rotate_left
      · (intro wq hq; go_simp); first | done | with_reducible rfl
      try simp only [Act.put, List.setIfInBounds_toArray, List.set_cons_zero, List.set_cons_succ]
      replace hS := Till.list 7 hS
      refine ready_g (rs := [8]) (by kernel_rfl) (by simp) ?_
      refine AllReadyG.cons rfl (fun Kont hK => ?_) AllReadyG.nil
      go_simp
      refine hK.out _ _ (Or.inr ((hS.get (by kernel_rfl)).alloc _)) (fun hS0 => ?_)
      clear hK Kont
      try simp only [Act.put, List.setIfInBounds_toArray, List.set_cons_zero, List.set_cons_succ]
      clear hS
      have hS := hS0
      clear hS0
      refine ready_g (rs := [9]) (by kernel_rfl) (by simp) ?_
      refine AllReadyG.cons rfl (fun Kont hK => ?_) AllReadyG.nil
      refine want (by kernel_rfl) ?_
      refine wp_append_os el_ints (some 46) rfl (.tmp 38) (.tmp 45) rfl (w.heap.size + 3) _ j _ rfl (ho.drew.alloc _) (some ⟨wr.heap.size, 0, none⟩) 1 1 (icells [1 + x % 3]) rfl (SV.lit (k := 1) wr.drew (icells [1 + x % 3]) 1 3 rfl (icells_one _)) (by omega) (by omega) (by show w.heap.size + 3 ≤ (wr.alloc _).heap.size; rw [heap_alloc]; omega) ?_
      intro v2 w2 ho2 hb2
      obtain ⟨a3, c3, rfl⟩ := ho2.shape
      have t0' := (t0.drew.alloc (.cells #[.int .i64 (1 + x % 3)] 3)).low hb2 (by omega)
      have t1' := (t1.drew.alloc (.cells #[.int .i64 (1 + x % 3)] 3)).low hb2 (by omega)
      have t2' := (t2.drew.alloc (.cells #[.int .i64 (1 + x % 3)] 3)).low hb2 (by omega)
      refine hK.out _ _ (Or.inl (by kernel_rfl)) (fun hS0 => ?_)
      clear hK Kont
      try simp only [Act.put, List.setIfInBounds_toArray, List.set_cons_zero, List.set_cons_succ]
      clear hS
      have hS := hS0
      clear hS0
      have e2 := t2'.cell 0 (v := .slice a j c) rfl
      have f2 := t2'.free 0
      refine take_w (i := 10) (v := ?_) (some 47) rfl (by kernel_rfl) rfl (fun _ _ _ h => h) (Or.inl ⟨by rfl, ?_⟩) hS ?_
      rotate_left
      · (intro wq hq; go_simp); first | done | with_reducible rfl
      try simp only [Act.put, List.setIfInBounds_toArray, List.set_cons_zero, List.set_cons_succ]
      replace hS := Till.list 10 hS
      refine ready_g (rs := [11]) (by kernel_rfl) (by simp) ?_
      refine AllReadyG.cons rfl (fun Kont hK => ?_) AllReadyG.nil
      go_simp
      refine hK.out _ _ (Or.inl (by kernel_rfl)) (fun hS0 => ?_)
      clear hK Kont
      try simp only [Act.put, List.setIfInBounds_toArray, List.set_cons_zero, List.set_cons_succ]
      clear hS
      have hS := hS0
      clear hS0
      refine done_g (by kernel_rfl) (NoPanic.normal ?_) _
      clear hS
      have hw' : Below w.heap.size w (w2.setCell ⟨w.heap.size + 1 + 1, 0, none⟩ (.slice a3 (j + 1) c3)) := (((hbel.drew.alloc hsz _).trans (hb2.mono (by omega))).setCell (by show w.heap.size ≤ w.heap.size + 1 + 1; omega) _)
      have q0 := t0'.other (c := w.heap.size + 1 + 1) (i := 0) (by omega) (.slice a3 (j + 1) c3)
      have q1 := t1'.other (c := w.heap.size + 1 + 1) (i := 0) (by omega) (.slice a3 (j + 1) c3)
      have q2 := t2'.set 0 (.slice a3 (j + 1) c3)
      have ho3 := ho2.set (b := w.heap.size + 1 + 1) (i := 0) (by omega) (.slice a3 (j + 1) c3)
      clear e2 f2 t0 t1 t2 t0' t1' t2' ho ho2 hb2 hbel c2 hc0
      go_wp2_with fail
      go_roundw
      case rel => exact ⟨j + 1, a3, c3, by omega, by go_num, by rw [HS.out, icells_app]; exact ho3, q2, q0, q1, hw'⟩
      case measure => simp [intOf]; omega
    · obtain rfl : j = N := by omega
      obtain ⟨c0, c1, c2, c3⟩ := t2.sx
      obtain ⟨d0, d1, d2, d3⟩ := t1.sx
      have f0 := t1.free 0
      have f1 := t1.free 1
      have f2 := t1.free 2
      have f3 := t1.free 3
      go_wp2_with fail
      have r := t1.put4 (.slice a j c) (.int .i64 (1 + km)) (.int .i64 (1 + mode % 3)) (.int .i64 (1 + grain % 8))
      have ho4 := (((ho.set (b := w.heap.size + 1) (i := 0) (by omega) (.slice a j c)).set (b := w.heap.size + 1) (i := 1) (by omega) (.int .i64 (1 + km))).set (b := w.heap.size + 1) (i := 2) (by omega) (.int .i64 (1 + mode % 3))).set (b := w.heap.size + 1) (i := 3) (by omega) (.int .i64 (1 + grain % 8))
      exact bodyPost_ret (res_ss rfl _ _ rfl r.sx) rfl ⟨_, _, rfl, ho4.lower (by omega), (((hbel.setCell (by simp) _).setCell (by simp) _).setCell (by simp) _).setCell (by simp) _⟩
/-- a shape, as it comes in -/
abbrev ShV (l0 l1 l2 l3 l4 l5 l6 l7 n keys mode grain : Int) : Value := .agg #[.int .u8 l0, .int .u8 l1, .int .u8 l2, .int .u8 l3, .int .u8 l4, .int .u8 l5, .int .u8 l6, .int .u8 l7, .int .u8 n, .int .u8 keys, .int .u8 mode, .int .u8 grain]
set_option maxHeartbeats 2000000 in
theorem made_any (l0 l1 l2 l3 l4 l5 l6 l7 n keys mode grain : Int) (w : World) (hls : U8s [l0, l1, l2, l3, l4, l5, l6, l7]) (hn : 0 ≤ n ∧ n ≤ 255) (hk : 0 ≤ keys ∧ keys ≤ 255) (hm : 0 ≤ mode ∧ mode ≤ 255) (hg : 0 ≤ grain ∧ grain ≤ 255) :
    Calls Try.prog 23 #[ShV l0 l1 l2 l3 l4 l5 l6 l7 n keys mode grain] w fun e w' => MadeE w w' [l0, l1, l2, l3, l4, l5, l6, l7] n keys mode grain e := by
  go_enter Try.func23, Try.ntmps23
  go_wp2_with fail
  refine (rmade_any l0 l1 l2 l3 l4 l5 l6 l7 n keys mode grain _ hls hn hk hm hg).mono ?_
  rintro e w1 ⟨A, C, rfl, ho, hb⟩
  have t1 := Bk.new (w.alloc (.cells #[.int .u8 l0, .int .u8 l1, .int .u8 l2, .int .u8 l3, .int .u8 l4, .int .u8 l5, .int .u8 l6, .int .u8 l7, .int .u8 n, .int .u8 keys, .int .u8 mode, .int .u8 grain] 43)) #[.slice none 0 0, .int .i64 0, .int .i64 0, .int .i64 0] 24
  rw [heap_alloc] at t1
  have t1 := t1.below hb
  have hbw := after2 hb
  rw [heap_alloc, heap_alloc] at ho
  clear hb
  obtain ⟨d0, d1, d2, d3⟩ := t1.sx
  have f0 := t1.free 0
  have f1 := t1.free 1
  have f2 := t1.free 2
  have f3 := t1.free 3
  go_wp2_with fail
  have r := t1.put4 (.slice A (1 + n % 8).toNat C) (.int .i64 (1 + keys % (1 + n % 8))) (.int .i64 (1 + mode % 3)) (.int .i64 (1 + grain % 8))
  have ho4 := (((ho.set (b := w.heap.size + 1) (i := 0) (by omega) (.slice A (1 + n % 8).toNat C)).set (b := w.heap.size + 1) (i := 1) (by omega) (.int .i64 (1 + keys % (1 + n % 8)))).set (b := w.heap.size + 1) (i := 2) (by omega) (.int .i64 (1 + mode % 3))).set (b := w.heap.size + 1) (i := 3) (by omega) (.int .i64 (1 + grain % 8))
  exact bodyPost_ret (res_ss rfl _ _ rfl r.sx) rfl ⟨_, _, rfl, ho4.lower (by omega), (((hbw.setCell (by simp) _).setCell (by simp) _).setCell (by simp) _).setCell (by simp) _⟩
end Go.Proofs.Ytllgnafbemmcaaa
