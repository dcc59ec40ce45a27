/- Contracts of read, Take. -/
import Derived.Test.YtmoppmifhhnolaaT6u
namespace Go.Proofs.Ytmoppmifhhnolaa
open Go.ChangeShapes Go.WideShapes Go.ChangeAt Go.RowKit
set_option linter.unusedVariables false

/-- what read tells -/
def ReadT (w w' : World) (zs : List Int) (e : Ending) : Prop :=
  (∃ (A : Option Addr) (N C : Nat) (l : List ByteArray), e = .returned (.tuple #[.slice A N C, .bool true]) ∧ N ≤ C ∧ N ≤ 2000 ∧ Few60 l ∧ TV w' A N l ∧ (∀ k, OkT k → putT k = zs → k = l) ∧ Below w.heap.size w w') ∨
  (e = .returned (.tuple #[.slice none 0 0, .bool false]) ∧ NoT zs ∧ Below w.heap.size w w')
theorem WayE.all {w0 w w' : World} {N : Nat} {G : List ByteArray → Prop} {e : Ending} {zs : List Int} (h : WayE w w' N G e) (hb0 : Below w0.heap.size w0 w) (hN : N ≤ 2000) (hG : ∀ k : List ByteArray, k.length ≤ 2000 → putT k = zs → k.length = N ∧ G k) : ReadT w0 w' zs e := by
  rcases h with ⟨A, C, l, he, hc, hi, hv, hu, hb⟩ | ⟨he, hn, hb⟩
  · refine .inl ⟨A, N, C, l, he, hc, hN, hi, hv, fun k hk hp => ?_, Below.then hb0 hb⟩
    obtain ⟨h1, h2⟩ := hG k hk.1 hp
    exact hu k hk.2 h1 h2
  · refine .inr ⟨he, fun k hk hp => ?_, Below.then hb0 hb⟩
    obtain ⟨h1, h2⟩ := hG k hk.1 hp
    exact hn k hk.2 h1 h2
theorem ReadT.shape {w w' : World} {zs : List Int} {e : Ending} (h : ReadT w w' zs e) : ∃ (A : Option Addr) (N C : Nat) (ok : Bool), e = .returned (.tuple #[.slice A N C, .bool ok]) := by
  rcases h with ⟨A, N, C, l, he, _⟩ | ⟨he, _⟩
  · exact ⟨A, N, C, _, he⟩
  · exact ⟨none, 0, 0, _, he⟩
theorem EachE.way {w w' : World} {a0 : Option Addr} {n0 N : Nat} {zs : List Int} {e : Ending} (h : EachE w w' a0 n0 zs N e) :
    ∃ (A : Option Addr) (n C : Nat) (a : Option Addr) (m c : Nat) (ok : Bool), e = .returned (.tuple #[.slice A n C, .slice a m c, .bool ok]) ∧ WayE w w' N (fun u => eachL u = zs) (.returned (.tuple #[.slice A n C, .bool ok])) := by
  rcases h with ⟨A, C, l, r, a, n, c, he, hC, hf, hv, hz, _, _, _, hb⟩ | ⟨he, hno, hb⟩
  · exact ⟨A, N, C, a, n, c, true, he, .inl ⟨A, C, l, rfl, hC, hf, hv, fun u hu hn hp => (each_one hz (TV.len hv) hf u hu hn [] (by rw [List.append_nil]; exact hp)).1, hb⟩⟩
  · exact ⟨none, 0, 0, none, 0, 0, false, he, .inr ⟨rfl, fun u hu hn hp => hno u hu hn [] (by rw [List.append_nil]; exact hp), hb⟩⟩
set_option maxHeartbeats 2000000 in
theorem tread_any (a : Option Addr) (n c : Nat) (zs : List Int) (w : World) (hv : BV w a n zs) (hc : n ≤ c) :
    Calls Try.prog 20 #[.slice a n c] w fun e w' => ReadT w w' zs e := by
  go_enter Try.func20, Try.ntmps20
  go_wp2_with fail
  refine (treadb_any 2001 (by omega) (by omega) a n c zs _ hv hc).mono ?_
  rintro e w1 he
  rcases he with ⟨N, body, a1, n1, c1, rfl, hN0, hz, hc1, hn1, hV1, hb1⟩ | ⟨rfl, hno, hb1⟩
  rotate_left
  · have HF := Lib.hid (noT_below hno)
    clear hno
    go_wp2_with fail
    go_ret2
    exact .inr ⟨rfl, HF.out, hb1⟩
  have hN : N ≤ 2000 := by omega
  have hv1 := hV1 _ (hv.below hb1)
  have hlb := hv1.1
  clear hV1 hv
  cases body with
  | nil =>
    obtain rfl : n1 = 0 := by simpa using hlb.symm
    have HF := Lib.hid (noT_empty (by omega) hz)
    clear hz hlb
    go_wp2_with fail
    go_ret2
    exact .inr ⟨rfl, HF.out, hb1⟩
  | cons x r =>
    have HZ := Lib.hid hz
    rw [List.length_cons] at hlb
    obtain ⟨a2, hsl0, bv2⟩ := hv1.slice_lo 1 c1 (by omega) hc1
    rw [show (x :: r).drop 1 = r from rfl] at bv2
    have hxb : 0 ≤ x ∧ x ≤ 255 := hv1.2.1 x (List.mem_cons_self ..)
    obtain ⟨b, off, rfl, hcell⟩ := hv1.opened (by omega)
    have hsl : ∀ wx, (Instr.slice 23 (.slice (some ⟨b, off, none⟩) n1 c1) (some (.int .i64 1)) none none).run Try.prog wx = .ok (.slice a2 (n1 - 1) (c1 - 1)) wx := hsl0
    have hcw : w1.cell? ⟨b, off, none⟩ = some (.int .u8 x) := hcell 0 (by omega)
    have hne : ((n1 : Int) == 0) = false := by rw [beq_eq_false_iff_ne]; omega
    have hn0 : (0 : Int) < (n1 : Int) := by omega
    have hn0n : 0 < n1 := by omega
    clear hsl0 hcell hz hlb hv1
    go_wp2_with fail
    refine wp_region_noPanic ?_
    refine region_g 7 (Ext (World.drew _)) (by kernel_rfl) (Ext.refl _) (fun hS => ?_)
    refine take_w (i := 0) (v := ?_) (some 24) rfl (by kernel_rfl) rfl (fun _ _ _ h => h) (Or.inl ⟨by rfl, ?_⟩) hS ?_
    rotate_left
    · (intro wq hq; go_simp); first | done | with_reducible rfl
    try simp only [Act.put, List.setIfInBounds_toArray, List.set_cons_zero, List.set_cons_succ]
    replace hS := Till.list 0 hS
    refine take_w (i := 3) (v := ?_) (some 27) rfl (by kernel_rfl) rfl (fun _ _ _ h => h) (Or.inl ⟨by rfl, ?_⟩) hS ?_
    rotate_left
    · (intro wq hq; go_simp); first | done | with_reducible rfl
    try simp only [Act.put, List.setIfInBounds_toArray, List.set_cons_zero, List.set_cons_succ]
    replace hS := Till.list 3 hS
    refine take_w (i := 1) (v := ?_) (some 25) rfl (by kernel_rfl) rfl (fun _ _ _ h => h) (Or.inl ⟨by rfl, ?_⟩) hS ?_
    rotate_left
    · (intro wq hq; go_simp); first | done | with_reducible rfl
    try simp only [Act.put, List.setIfInBounds_toArray, List.set_cons_zero, List.set_cons_succ]
    replace hS := Till.list 1 hS
    refine take_w (i := 4) (v := ?_) (some 28) rfl (by kernel_rfl) rfl (fun _ _ _ h => h) (Or.inl ⟨by rfl, ?_⟩) hS ?_
    rotate_left
    · (intro wq hq; go_simp); first | done | with_reducible rfl
    try simp only [Act.put, List.setIfInBounds_toArray, List.set_cons_zero, List.set_cons_succ]
    replace hS := Till.list 4 hS
    refine take_n (i := 2) (v := ?_) (some 26) rfl (by kernel_rfl) rfl (fun _ _ _ h => h) (Or.inl ⟨by rfl, ?_⟩) hS ?_
    rotate_left
    · (intro wq hq; have q0 := hq _ _ _ hcw; go_simp); first | done | with_reducible rfl
    try simp only [Act.put, List.setIfInBounds_toArray, List.set_cons_zero, List.set_cons_succ]
    replace hS := Till.list 2 hS
    refine take_w (i := 5) (v := ?_) (some 7) rfl (by kernel_rfl) rfl (fun _ _ _ h => h) (Or.inl ⟨by rfl, ?_⟩) hS ?_
    rotate_left
    · (intro wq hq; go_simp); first | done | with_reducible rfl
    try simp only [Act.put, List.setIfInBounds_toArray, List.set_cons_zero, List.set_cons_succ]
    replace hS := Till.list 5 hS
    refine take_w (i := 6) (v := ?_) (some 5) rfl (by kernel_rfl) rfl (fun _ _ _ h => h) (Or.inl ⟨by rfl, ?_⟩) hS ?_
    rotate_left
    · (intro wq hq; go_simp); first | done | with_reducible rfl
    try simp only [Act.put, List.setIfInBounds_toArray, List.set_cons_zero, List.set_cons_succ]
    replace hS := Till.list 6 hS
    refine done_g (by kernel_rfl) (NoPanic.normal ?_) _
    clear hS
    have bvd := bv2.drew
    replace hb1 := hb1.drew
    clear hcw bv2 hsl
    by_cases w0 : x = 0
    · subst w0
      go_wp2_with fail
      refine (treade_any N hN a2 (n1 - 1) (c1 - 1) r _ bvd (by omega)).mono ?_
      rintro e w2 he
      obtain ⟨A2, N2, C2, a3, n3, c3, ok2, rfl, hA⟩ := he.way
      replace hA := hA.all hb1 hN (fun k hk hp => wayT0 HZ.out hN hk hp)
      clear he
      go_wp2_with fail
      go_ret2
      exact hA
    · have n0 : (x == 0) = false := by rw [beq_eq_false_iff_ne]; exact w0
      by_cases w1' : x = 1
      · subst w1'
        go_wp2_with fail
        refine (treadd_any N hN a2 (n1 - 1) (c1 - 1) r _ bvd (by omega)).mono ?_
        rintro e w2 he
        have hA := he.all hb1 hN (fun k hk hp => wayT1 HZ.out hN hk hp)
        clear he
        obtain ⟨A2, N2, C2, ok2, rfl⟩ := hA.shape
        go_wp2_with fail
        go_ret2
        exact hA
      · have n1' : (x == 1) = false := by rw [beq_eq_false_iff_ne]; exact w1'
        have HF := Lib.hid (noT_way (c := (N : Int)) (by omega) HZ.out w0 w1')
        go_wp2_with fail
        go_ret2
        exact .inr ⟨rfl, HF.out, hb1⟩
/-- what Take tells -/
def TakeT (w w' : World) (zs : List Int) (e : Ending) : Prop :=
  (∃ (A : Option Addr) (N C : Nat) (l : List ByteArray), e = .returned (.tuple #[.slice A N C, .int .i64 0]) ∧ N ≤ C ∧ N ≤ 2000 ∧ Few60 l ∧ TV w' A N l ∧ putT l = zs ∧ Below w.heap.size w w') ∨
  (e = .returned (.tuple #[.slice none 0 0, .int .i64 10]) ∧ NoT zs ∧ Below w.heap.size w w')
set_option maxHeartbeats 2000000 in
theorem takeT_any (a : Option Addr) (n c : Nat) (zs : List Int) (w : World) (hv : BV w a n zs) (hc : n ≤ c) :
    Calls Try.prog 11 #[.slice a n c] w fun e w' => TakeT w w' zs e := by
  go_enter Try.func11, Try.ntmps11
  go_wp2_with fail
  refine (tread_any a n c zs _ hv hc).mono ?_
  rintro e w1 he
  rcases he with ⟨A, N, C, l, rfl, hC, hN, hi, hl, hu, hb1⟩ | ⟨rfl, hno, hb1⟩
  · have HU := Lib.hid hu
    have HPB := Lib.hid (putT_bytes (l := l) (by rw [TV.len hl]; omega))
    clear hu
    replace hv := hv.below hb1
    go_wp2_with fail
    refine (putT_any A N C l _ hl hi.sm (by omega)).mono ?_
    rintro e w2 ⟨vp, rfl, op, hb2⟩
    obtain ⟨ap, cp, rfl, -, -, bp, -⟩ := op.bvn HPB.out _ rfl
    replace hv := hv.below hb2
    replace hl := hl.below hb2
    replace hb1 := Below.then hb1 hb2
    clear op hb2
    go_wp2_with fail
    refine (equal_any ap a _ n cp c (putT l) zs _ bp hv).mono ?_
    rintro e w' ⟨rfl, rfl⟩
    clear bp hv
    by_cases hp : putT l = zs
    · rw [decide_eq_true hp]
      have HP := Lib.hid hp
      clear hp
      go_wp2_with fail
      go_ret2
      exact .inl ⟨A, N, C, l, rfl, hC, hN, hi, hl, HP.out, hb1⟩
    · rw [decide_eq_false hp]
      have HF : Hid (NoT zs) := Lib.hid (fun k hk h => hp (by rw [← HU.out k hk h]; exact h))
      clear hp
      go_wp2_with fail
      go_ret2
      exact .inr ⟨rfl, HF.out, hb1⟩
  · have HF := Lib.hid hno
    clear hno
    go_wp2_with fail
    go_ret2
    exact .inr ⟨rfl, HF.out, hb1⟩
theorem TakeT.no {w w' : World} {zs : List Int} {e : Ending} (h : TakeT w w' zs e) (hn : NoT zs) : e = .returned (.tuple #[.slice none 0 0, .int .i64 10]) ∧ Below w.heap.size w w' := by
  rcases h with ⟨A, N, C, l, _, _, hN, hi, hl, hp, _⟩ | ⟨he, _, hb⟩
  · exact absurd hp (hn l ⟨by rw [TV.len hl]; exact hN, hi⟩)
  · exact ⟨he, hb⟩
theorem TakeT.yes {w w' : World} {l : List ByteArray} {e : Ending} (h : TakeT w w' (putT l) e) (hi : OkT l) :
    ∃ (A : Option Addr) (N C : Nat), e = .returned (.tuple #[.slice A N C, .int .i64 0]) ∧ N ≤ 2000 ∧ TV w' A N l ∧ Below w.heap.size w w' := by
  rcases h with ⟨A, N, C, k, he, hc, hN, hk, hv, hp, hb⟩ | ⟨_, hno, _⟩
  · have hkl := TV.len hv
    have := hi.1
    obtain rfl := putT_inj hk.fit hi.fit (by omega) (by omega) hp
    exact ⟨A, N, C, he, hN, hv, hb⟩
  · exact absurd rfl (hno l hi)
end Go.Proofs.Ytmoppmifhhnolaa
