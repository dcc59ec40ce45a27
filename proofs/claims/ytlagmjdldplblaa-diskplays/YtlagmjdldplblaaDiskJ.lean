/- Texts that belong together, one behind the other: D8sb, D8xl, R8j. -/
import Derived.Test.YtlagmjdldplblaaBase
import Derived.Test.YtlagmjdldplblaaDiskI
import Derived.Deep.CutBlock
import Derived.Deep.DeepCutAuto
/- Contract of Same (of the reference of stage 6), where no texts are about. -/
namespace Go.Proofs.Ytlagmjdldplblaa
open Go.ChangeShapes Go.WideShapes Go.ChangeAt Go.RowKit
set_option linter.unusedVariables false
set_option maxRecDepth 4000

set_option maxHeartbeats 2000000 in
theorem same8_any (A : Option Addr) (N C : Nat) (l : List ByteArray) (A' : Option Addr) (N' C' : Nat) (k : List ByteArray) (w : World) (hv : TV w A N l) (hv' : TV w A' N' k) (hN : N ≤ 1000000) (hN' : N' ≤ 1000000) :
    Calls Try.prog 32 #[.slice A N C, .slice A' N' C'] w fun e w' => e = .returned (.bool (decide (l = k))) ∧ Below w.heap.size w w' := by
  have hl := Lib.hid (TV.len hv)
  have hl' := Lib.hid (TV.len hv')
  by_cases h1 : N = N'
  · subst h1
    go_enter Try.func32, Try.ntmps32
    go_wp2_with fail
    go_loopw [5] (fun i wr => ∃ j : Nat, j ≤ N ∧ i = .int .i64 (j : Int) ∧ Hid (∀ i, i < j → l.getD i ⟨#[]⟩ = k.getD i ⟨#[]⟩) ∧ Below w.heap.size w wr) (fun i _ => N - (intOf i).toNat)
    case atStart => exact ⟨0, by omega, rfl, Lib.hid (fun i hi => by omega), Below.refl _ _⟩
    case round =>
      obtain ⟨j, hj, rfl, HT, hbel⟩ := hrel
      by_cases hlt : j < N
      · obtain ⟨b, off, rfl, e1⟩ := TV.at hv j hlt
        obtain ⟨b', off', rfl, e2⟩ := TV.at hv' j hlt
        replace e1 := keepc e1 hbel
        replace e2 := keepc e2 hbel
        have hji : (j : Int) < (N : Int) := by omega
        generalize hx1 : l.getD j ⟨#[]⟩ = x at e1
        generalize hy1 : k.getD j ⟨#[]⟩ = y at e2
        have HX := Lib.hid hx1
        have HY := Lib.hid hy1
        clear hx1 hy1 hv hv'
        by_cases hxy : x = y
        · subst hxy
          have hss : (x.toList == x.toList) = true := by simp
          have HT' : Hid (∀ i, i < j + 1 → l.getD i ⟨#[]⟩ = k.getD i ⟨#[]⟩) := Lib.hid (fun i hi => by
            by_cases hij : i < j
            · exact HT.out i hij
            · obtain rfl : i = j := by omega
              rw [HX.out, HY.out])
          go_wp2_with fail
          refine wp_region_noPanic ?_
          refine region_g 9 (Ext (World.drew _)) (by kernel_rfl) (Ext.refl _) (fun hS => ?_)
          refine take_w (i := 0) (v := ?_) (some 17) rfl (by kernel_rfl) rfl (fun _ _ _ h => h) (Or.inl ⟨by rfl, ?_⟩) hS ?_
          rotate_left
          · (intro wq hq; go_simp); first | done | with_reducible rfl
          try simp only [Act.put, List.setIfInBounds_toArray, List.set_cons_zero, List.set_cons_succ]
          replace hS := Till.list 0 hS
          refine take_w (i := 1) (v := ?_) (some 18) rfl (by kernel_rfl) rfl (fun _ _ _ h => h) (Or.inl ⟨by rfl, ?_⟩) hS ?_
          rotate_left
          · (intro wq hq; go_simp); first | done | with_reducible rfl
          try simp only [Act.put, List.setIfInBounds_toArray, List.set_cons_zero, List.set_cons_succ]
          replace hS := Till.list 1 hS
          refine take_w (i := 4) (v := ?_) (some 21) rfl (by kernel_rfl) rfl (fun _ _ _ h => h) (Or.inl ⟨by rfl, ?_⟩) hS ?_
          rotate_left
          · (intro wq hq; go_simp); first | done | with_reducible rfl
          try simp only [Act.put, List.setIfInBounds_toArray, List.set_cons_zero, List.set_cons_succ]
          replace hS := Till.list 4 hS
          refine take_w (i := 5) (v := ?_) (some 22) rfl (by kernel_rfl) rfl (fun _ _ _ h => h) (Or.inl ⟨by rfl, ?_⟩) hS ?_
          rotate_left
          · (intro wq hq; go_simp); first | done | with_reducible rfl
          try simp only [Act.put, List.setIfInBounds_toArray, List.set_cons_zero, List.set_cons_succ]
          replace hS := Till.list 5 hS
          refine take_w (i := 2) (v := ?_) (some 19) rfl (by kernel_rfl) rfl (fun _ _ _ h => h) (Or.inl ⟨by rfl, ?_⟩) hS ?_
          rotate_left
          · (intro wq hq; go_simp); first | done | with_reducible rfl
          try simp only [Act.put, List.setIfInBounds_toArray, List.set_cons_zero, List.set_cons_succ]
          replace hS := Till.list 2 hS
          refine take_w (i := 6) (v := ?_) (some 23) rfl (by kernel_rfl) rfl (fun _ _ _ h => h) (Or.inl ⟨by rfl, ?_⟩) hS ?_
          rotate_left
          · (intro wq hq; go_simp); first | done | with_reducible rfl
          try simp only [Act.put, List.setIfInBounds_toArray, List.set_cons_zero, List.set_cons_succ]
          replace hS := Till.list 6 hS
          refine take_n (i := 3) (v := ?_) (some 20) rfl (by kernel_rfl) rfl (fun _ _ _ h => h) (Or.inl ⟨by rfl, ?_⟩) hS ?_
          rotate_left
          · (intro wq hq; have q0 := hq _ _ _ e1; have q1 := hq _ _ _ e2; go_simp); first | done | with_reducible rfl
          try simp only [Act.put, List.setIfInBounds_toArray, List.set_cons_zero, List.set_cons_succ]
          replace hS := Till.list 3 hS
          refine take_n (i := 7) (v := ?_) (some 24) rfl (by kernel_rfl) rfl (fun _ _ _ h => h) (Or.inl ⟨by rfl, ?_⟩) hS ?_
          rotate_left
          · (intro wq hq; have q0 := hq _ _ _ e1; have q1 := hq _ _ _ e2; go_simp); first | done | with_reducible rfl
          try simp only [Act.put, List.setIfInBounds_toArray, List.set_cons_zero, List.set_cons_succ]
          replace hS := Till.list 7 hS
          refine take_w (i := 8) (v := ?_) (some 25) rfl (by kernel_rfl) rfl (fun _ _ _ h => h) (Or.inl ⟨by rfl, ?_⟩) hS ?_
          rotate_left
          · (intro wq hq; go_simp); first | done | with_reducible rfl
          try simp only [Act.put, List.setIfInBounds_toArray, List.set_cons_zero, List.set_cons_succ]
          replace hS := Till.list 8 hS
          refine done_g (by kernel_rfl) (NoPanic.normal ?_) _
          clear hS
          go_wp2_with fail
          go_roundw
          case rel => exact ⟨j + 1, by omega, by go_num, HT', hbel.drew⟩
          case measure => simp [intOf]; omega
        · have hne : (x.toList == y.toList) = false := by rw [beq_eq_false_iff_ne]; exact fun h => hxy (toList_inj h)
          have HF : Hid (decide (l = k) = false) := Lib.hid (decide_eq_false (fun h => hxy (by rw [← HX.out, ← HY.out, h])))
          go_wp2_with fail
          refine wp_region_noPanic ?_
          refine region_g 9 (Ext (World.drew _)) (by kernel_rfl) (Ext.refl _) (fun hS => ?_)
          refine take_w (i := 0) (v := ?_) (some 17) rfl (by kernel_rfl) rfl (fun _ _ _ h => h) (Or.inl ⟨by rfl, ?_⟩) hS ?_
          rotate_left
          · (intro wq hq; go_simp); first | done | with_reducible rfl
          try simp only [Act.put, List.setIfInBounds_toArray, List.set_cons_zero, List.set_cons_succ]
          replace hS := Till.list 0 hS
          refine take_w (i := 1) (v := ?_) (some 18) rfl (by kernel_rfl) rfl (fun _ _ _ h => h) (Or.inl ⟨by rfl, ?_⟩) hS ?_
          rotate_left
          · (intro wq hq; go_simp); first | done | with_reducible rfl
          try simp only [Act.put, List.setIfInBounds_toArray, List.set_cons_zero, List.set_cons_succ]
          replace hS := Till.list 1 hS
          refine take_w (i := 4) (v := ?_) (some 21) rfl (by kernel_rfl) rfl (fun _ _ _ h => h) (Or.inl ⟨by rfl, ?_⟩) hS ?_
          rotate_left
          · (intro wq hq; go_simp); first | done | with_reducible rfl
          try simp only [Act.put, List.setIfInBounds_toArray, List.set_cons_zero, List.set_cons_succ]
          replace hS := Till.list 4 hS
          refine take_w (i := 5) (v := ?_) (some 22) rfl (by kernel_rfl) rfl (fun _ _ _ h => h) (Or.inl ⟨by rfl, ?_⟩) hS ?_
          rotate_left
          · (intro wq hq; go_simp); first | done | with_reducible rfl
          try simp only [Act.put, List.setIfInBounds_toArray, List.set_cons_zero, List.set_cons_succ]
          replace hS := Till.list 5 hS
          refine take_w (i := 2) (v := ?_) (some 19) rfl (by kernel_rfl) rfl (fun _ _ _ h => h) (Or.inl ⟨by rfl, ?_⟩) hS ?_
          rotate_left
          · (intro wq hq; go_simp); first | done | with_reducible rfl
          try simp only [Act.put, List.setIfInBounds_toArray, List.set_cons_zero, List.set_cons_succ]
          replace hS := Till.list 2 hS
          refine take_w (i := 6) (v := ?_) (some 23) rfl (by kernel_rfl) rfl (fun _ _ _ h => h) (Or.inl ⟨by rfl, ?_⟩) hS ?_
          rotate_left
          · (intro wq hq; go_simp); first | done | with_reducible rfl
          try simp only [Act.put, List.setIfInBounds_toArray, List.set_cons_zero, List.set_cons_succ]
          replace hS := Till.list 6 hS
          refine take_n (i := 3) (v := ?_) (some 20) rfl (by kernel_rfl) rfl (fun _ _ _ h => h) (Or.inl ⟨by rfl, ?_⟩) hS ?_
          rotate_left
          · (intro wq hq; have q0 := hq _ _ _ e1; have q1 := hq _ _ _ e2; go_simp); first | done | with_reducible rfl
          try simp only [Act.put, List.setIfInBounds_toArray, List.set_cons_zero, List.set_cons_succ]
          replace hS := Till.list 3 hS
          refine take_n (i := 7) (v := ?_) (some 24) rfl (by kernel_rfl) rfl (fun _ _ _ h => h) (Or.inl ⟨by rfl, ?_⟩) hS ?_
          rotate_left
          · (intro wq hq; have q0 := hq _ _ _ e1; have q1 := hq _ _ _ e2; go_simp); first | done | with_reducible rfl
          try simp only [Act.put, List.setIfInBounds_toArray, List.set_cons_zero, List.set_cons_succ]
          replace hS := Till.list 7 hS
          refine take_w (i := 8) (v := ?_) (some 25) rfl (by kernel_rfl) rfl (fun _ _ _ h => h) (Or.inl ⟨by rfl, ?_⟩) hS ?_
          rotate_left
          · (intro wq hq; go_simp); first | done | with_reducible rfl
          try simp only [Act.put, List.setIfInBounds_toArray, List.set_cons_zero, List.set_cons_succ]
          replace hS := Till.list 8 hS
          refine done_g (by kernel_rfl) (NoPanic.normal ?_) _
          clear hS
          go_wp2_with fail
          go_ret
          exact ⟨by rw [HF.out]; rfl, hbel.drew⟩
      · obtain rfl : j = N := by omega
        have HF : Hid (decide (l = k) = true) := Lib.hid (decide_eq_true (listT_getD (by rw [hl.out, hl'.out]) (fun i hi => HT.out i (by rw [← hl.out]; exact hi))))
        go_wp2_with fail
        go_ret
        exact ⟨by rw [HF.out]; rfl, hbel⟩
  · have hne : ((N : Int) == (N' : Int)) = false := by rw [beq_eq_false_iff_ne]; omega
    have HF : Hid (decide (l = k) = false) := Lib.hid (decide_eq_false (fun h => h1 (by rw [← hl.out, ← hl'.out, h])))
    clear hv hv'
    go_enter Try.func32, Try.ntmps32
    go_wp2_with fail
    go_ret
    exact ⟨by rw [HF.out]; rfl, Below.refl _ _⟩
end Go.Proofs.Ytlagmjdldplblaa
/- A disk at work while other blocks are left alone. -/
namespace Go.Proofs.Ytlagmjdldplblaa
open Go.ChangeShapes Go.WideShapes Go.ChangeAt Go.RowKit Go.WideMaps Go.Maps
set_option linter.unusedVariables false
set_option maxRecDepth 4000

/-- what a disk may turn: what is new since w0, but not what is of I -/
abbrev NotI (w0 : World) (I : Nat → Prop) : Nat → Prop := fun x => w0.heap.size ≤ x ∧ ¬ I x
/-- the disk at p; the blocks of I are left alone -/
structure LF (w0 : World) (I : Nat → Prop) (w : World) (p k : Nat) (M : DK) : Prop where
  disk : ∃ g, DD g k w (NotI w0 I) p M
  below : Below w0.heap.size w0 w
  idle : ∀ x, I x → x < w.heap.size
  low : ∀ x, I x → w0.heap.size ≤ x
section
variable {w0 w w' : World} {I : Nat → Prop} {p k : Nat} {M : DK}
theorem LD.lf (h : LD w0 w p k M) : LF w0 (fun _ => False) w p k M := ⟨by obtain ⟨⟨g, hd⟩, _⟩ := h; exact ⟨g, hd.refoot (fun x hx _ => ⟨hx, fun h => h⟩)⟩, h.2, fun _ h => h.elim, fun _ h => h.elim⟩
theorem LF.ld (h : LF w0 I w p k M) : LD w0 w p k M := ⟨by obtain ⟨g, hd⟩ := h.disk; exact ⟨g, hd.refoot (fun x hx _ => hx.1)⟩, h.below⟩
theorem LF.more (h : LF w0 I w p k M) {q : Nat} (hq : k ≤ q) : LF w0 I w p q M := ⟨by obtain ⟨g, hd⟩ := h.disk; exact ⟨g, hd.more hq⟩, h.below, h.idle, h.low⟩
theorem LF.new (h : LF w0 I w p k M) : ∀ b, w.heap.size ≤ b → NotI w0 I b := fun b hb => ⟨Nat.le_trans h.below.size hb, fun hi => by have := h.idle b hi; omega⟩
theorem LF.keep (h : LF w0 I w p k M) (hb : Below w.heap.size w w') : LF w0 I w' p k M :=
  ⟨by obtain ⟨g, hd⟩ := h.disk; exact ⟨g, hd.below hb⟩, h.below.trans (hb.mono h.below.size), fun x hx => Nat.lt_of_lt_of_le (h.idle x hx) hb.size, h.low⟩
theorem LF.drew (h : LF w0 I w p k M) : LF w0 I w.drew p k M := h.keep ((Below.refl _ _).drew)
theorem LF.alloc (h : LF w0 I w p k M) (o : Obj) : LF w0 I (w.alloc o) p k M := h.keep ((Below.refl _ _).alloc (Nat.le_refl _) o)
/-- others are at work: on what is new, and on what is of I: what is new is left alone from then on -/
theorem LF.other (h : LF w0 I w p k M) (hk : Kp I w w') : LF w0 (AndNew I w w') w' p k M := by
  obtain ⟨g, hd⟩ := h.disk
  refine ⟨⟨g, hd.move g.rl (fun x hx hl => ⟨hk.block x hl hx.2, ⟨hx.1, ?_⟩, rfl⟩)⟩, ⟨hk.os.trans h.below.os, hk.tape.trans h.below.tape, hk.output.trans h.below.output, Nat.le_trans h.below.size hk.size, fun x hx => ?_⟩, ?_, ?_⟩
  · rintro (hi | ⟨h1, h2⟩)
    · exact hx.2 hi
    · omega
  · have hs := h.below.size
    exact (hk.block x (by omega) (fun hi => by have := h.low x hi; omega)).trans (h.below.block x hx)
  · rintro x (hi | ⟨h1, h2⟩)
    · have := h.idle x hi; have := hk.size; omega
    · exact h2
  · rintro x (hi | ⟨h1, h2⟩)
    · exact h.low x hi
    · exact Nat.le_trans h.below.size h1
/-- what a step of the disk tells, and makes -/
def LFE (w0 : World) (I : Nat → Prop) (w : World) (p k : Nat) (N : DK × Int) (e : Ending) (w' : World) : Prop := e = .returned (.int .i64 N.2) ∧ LF w0 I w' p k N.1 ∧ Kp (NotI w0 I) w w'
theorem LF.did (h : LF w0 I w p k M) {q : Nat} {N : DK × Int} {e : Ending} (ht : Tells (Did q (NotI w0 I) p w N) e w') : LFE w0 I w p q N e w' := by
  obtain ⟨v, rfl, rfl, hg, hk⟩ := ht
  exact ⟨rfl, ⟨hg, h.below.trans (hk.below (fun x hx => hx.1) h.below.size), fun x hx => Nat.lt_of_lt_of_le (h.idle x hx) hk.size, h.low⟩, hk⟩
theorem create_f (h : LF w0 I w p k M) (hk : k ≤ 800) (s : ByteArray) (hs : s.size ≤ 1000) : Calls Try.prog 16 #[.pointer (some ⟨p, 0, none⟩), .string s] w (LFE w0 I w p (k + 3) (createD M s)) := by
  obtain ⟨g, hd⟩ := h.disk
  exact (create_any g k w _ p M hk h.new hd s hs).mono (fun e w' => h.did)
theorem remove_f (h : LF w0 I w p k M) (hk : k ≤ 800) (s : ByteArray) (hs : s.size ≤ 1000) : Calls Try.prog 17 #[.pointer (some ⟨p, 0, none⟩), .string s] w (LFE w0 I w p (k + 3) (removeD M s)) := by
  obtain ⟨g, hd⟩ := h.disk
  exact (remove_any g k w _ p M (by omega) h.new hd s hs).mono (fun e w' => h.did)
theorem sync_f (h : LF w0 I w p k M) (hk : k ≤ 800) (s : ByteArray) (hs : s.size ≤ 1000) : Calls Try.prog 27 #[.pointer (some ⟨p, 0, none⟩), .string s] w (LFE w0 I w p (k + 3) (syncD M s)) := by
  obtain ⟨g, hd⟩ := h.disk
  exact (sync_any g k w _ p M hk h.new hd s hs).mono (fun e w' => h.did)
theorem syncDir_f (h : LF w0 I w p k M) (hk : k ≤ 800) : Calls Try.prog 28 #[.pointer (some ⟨p, 0, none⟩)] w (LFE w0 I w p (k + 3) (syncDirD M)) := by
  obtain ⟨g, hd⟩ := h.disk
  exact (syncDir_any g k w _ p M hk h.new hd).mono (fun e w' => h.did)
/-- bytes that are left alone -/
abbrev LowI8 (w0 : World) (I : Nat → Prop) (A : Option Addr) (n : Nat) : Prop := n = 0 ∨ ∀ x, A = some x → x.block < w0.heap.size ∨ I x.block
theorem LowI8.not {A : Option Addr} {n : Nat} (h : LowI8 w0 I A n) : n = 0 ∨ ∀ x, A = some x → ¬ NotI w0 I x.block := h.imp id (fun h x hx hn => by rcases h x hx with h | h; have := hn.1; omega; exact hn.2 h)
theorem append_f (h : LF w0 I w p k M) (hk : k ≤ 800) (s : ByteArray) (hs : s.size ≤ 1000) (A : Option Addr) (n c : Nat) (zs : List Int) (hv : BV w A n zs) (hnc : n ≤ c) (hn : n ≤ 1000) (hA : LowI8 w0 I A n) :
    Calls Try.prog 18 #[.pointer (some ⟨p, 0, none⟩), .string s, .slice A n c] w (LFE w0 I w p (k + 3) (appendD M s zs)) := by
  obtain ⟨g, hd⟩ := h.disk
  exact (append_any g k w _ p M hk h.new hd s hs A n c zs hv hnc hn hA.not).mono (fun e w' => h.did)
theorem does_f (h : LF w0 I w p k M) (hk : k ≤ 800) (kd num : Int) (s t : ByteArray) (A : Option Addr) (n c : Nat) (bz : List Int) (L : Value) (hkd : 0 ≤ kd ∧ kd ≤ 255) (hs : s.size ≤ maxLen) (ht : t.size ≤ maxLen) (hb : BV w A n bz) (hnc : n ≤ c) (hA : LowI8 w0 I A n) :
    Calls Try.prog 23 #[.pointer (some ⟨p, 0, none⟩), .agg #[.int .u8 kd, .string s, .string t, .slice A n c, .int .i64 num, L]] w (LFE w0 I w p (k + 3) (doesD M (kd % 10).toNat (sh24 s) (sh24 t) (bz.take 100))) := by
  obtain ⟨g, hd⟩ := h.disk
  exact (does8_any g k w _ p M hk h.new hd kd num s t A n c bz L hkd hs ht hb hnc hA.not).mono (fun e w' => h.did)
theorem limit_f (h : LF w0 I w p k M) (n : Int) (hn : n ≤ maxI) : Calls Try.prog 21 #[.pointer (some ⟨p, 0, none⟩), .int .i64 n] w fun e w' => e = .returned (.tuple #[]) ∧ LF w0 I w' p k (limitD M n) ∧ Kp (NotI w0 I) w w' := by
  obtain ⟨g, hd⟩ := h.disk
  exact (limit_any g k w _ p M hd n hn).mono (fun e w' ⟨he, h1, h2⟩ => ⟨he, ⟨⟨g, h1⟩, h.below.trans (h2.below (fun x hx => hx.1) h.below.size), fun x hx => Nat.lt_of_lt_of_le (h.idle x hx) h2.size, h.low⟩, h2⟩)
theorem fail_f (h : LF w0 I w p k M) (A : Option Addr) (n c : Nat) (ts : List Int) (hv : IV w A n ts) (hn : n ≤ 1000) (hA : LowI8 w0 I A n) (hr : ∀ x ∈ ts, -9223372036854775808 ≤ x ∧ x ≤ maxI) :
    Calls Try.prog 19 #[.pointer (some ⟨p, 0, none⟩), .slice A n c] w fun e w' => e = .returned (.tuple #[]) ∧ LF w0 I w' p k (failD M ts) ∧ Kp (NotI w0 I) w w' := by
  obtain ⟨g, hd⟩ := h.disk
  exact (fail_any g k w _ p M h.new hd A n c ts hv hn hA.not hr).mono (fun e w' ⟨he, h1, h2⟩ => ⟨he, ⟨h1, h.below.trans (h2.below (fun x hx => hx.1) h.below.size), fun x hx => Nat.lt_of_lt_of_le (h.idle x hx) h2.size, h.low⟩, h2⟩)
end
end Go.Proofs.Ytlagmjdldplblaa
/- Contract of the statements' helper same: a disk, and the document's own, that are one. -/
namespace Go.Proofs.Ytlagmjdldplblaa
open Go.ChangeShapes Go.WideShapes Go.ChangeAt Go.RowKit
set_option linter.unusedVariables false
set_option maxRecDepth 4000

abbrev noneN : ByteArray := { data := #[110, 111, 110, 101] }
section
variable {w0 w : World} {I : Nat → Prop} {p k y : Nat} {M : DK}
set_option maxHeartbeats 4000000 in
theorem seen_any (hd : LD w0 w p k M) (hk : k ≤ 1000) (hr : RD w I y M) (hs8 : Sm8 M) (hub : usedD M ≤ 1000000000) (hlen : ∀ x ∈ M.files, x.1.length ≤ 5000000) (hby : ∀ x ∈ M.files, ∀ z ∈ x.1, 0 ≤ z ∧ z ≤ 255) :
    Calls Try.prog 25 #[.pointer (some ⟨p, 0, none⟩), .pointer (some ⟨y, 0, none⟩)] w fun e w' => e = .returned (.bool true) ∧ Below w.heap.size w w' := by
  obtain ⟨vF, vN, vK, vC, vX, hR⟩ := hr
  have HD := Lib.hid hd
  have HR := Lib.hid hR
  have HS := Lib.hid (And.intro hs8 (And.intro hub (And.intro hlen hby)))
  have hnl := hs8.names
  clear hd hR hs8 hub hlen hby
  go_enter Try.func25, Try.ntmps25
  go_wp2_with fail
  refine (names_l HD.out hk).mono ?_
  rintro e w1 ⟨v, rfl, ho, hb1⟩
  obtain ⟨lA, lc, rfl, hlc, -, hlv, -, -⟩ := ho.sv
  clear ho
  go_wp2_with fail
  refine (rall_any (HR.out.still hb1) (by omega)).mono ?_
  rintro e w2 ⟨v, rfl, ho2, hb2⟩
  obtain ⟨aA, ac, rfl, hac, -, hav, -, -⟩ := ho2.sv
  clear ho2
  go_wp2_with fail
  refine (same8_any lA _ lc (textsD M) aA _ ac (textsD M) w2 (SV.below hlv hb2) hav (by omega) (by omega)).mono ?_
  rintro e w3 ⟨rfl, hb3⟩
  rw [decide_eq_true (rfl : textsD M = textsD M)]
  have hbel := Below.then (Below.then hb1 hb2) hb3
  have hlv3 : TV w3 lA M.names.length (textsD M) := SV.below (SV.below hlv hb2) hb3
  have hd3 := Lib.hid (HD.out.below hbel)
  have hr3 := Lib.hid (HR.out.still hbel)
  have HB := Lib.hid hbel
  clear hb1 hb2 hb3 hlv hav hbel
  go_upto_region 3 with fail
  have c1 := hr3.out.blk.cell 1 (v := .int .i64 (M.taken : Int)) rfl
  go_cut [35] (fun v wx => v = .bool false ∧ Below w3.heap.size w3 wx)
  case first =>
    go_wp2_with fail
    refine wp_region_noPanic ?_
    refine region_g 18 (Old w3) (by kernel_rfl) ((Old.refl w3).drew) (fun hS => ?_)
    refine take_w (i := 0) (v := ?_) (some 18) rfl (by kernel_rfl) rfl (fun _ _ _ h => h) (Or.inl ⟨by rfl, ?_⟩) hS ?_
    rotate_left
    · (intro wq hq; go_simp); first | done | with_reducible rfl
    try simp only [Act.put, List.setIfInBounds_toArray, List.set_cons_zero, List.set_cons_succ]
    replace hS := Till.list 0 hS
    refine take_w (i := 1) (v := ?_) (some 19) rfl (by kernel_rfl) rfl (fun _ _ _ h => h) (Or.inl ⟨by rfl, ?_⟩) hS ?_
    rotate_left
    · (intro wq hq; go_simp); first | done | with_reducible rfl
    try simp only [Act.put, List.setIfInBounds_toArray, List.set_cons_zero, List.set_cons_succ]
    replace hS := Till.list 1 hS
    refine take_w (i := 2) (v := ?_) (some 20) rfl (by kernel_rfl) rfl (fun _ _ _ h => h) (Or.inl ⟨by rfl, ?_⟩) hS ?_
    rotate_left
    · (intro wq hq; go_simp); first | done | with_reducible rfl
    try simp only [Act.put, List.setIfInBounds_toArray, List.set_cons_zero, List.set_cons_succ]
    replace hS := Till.list 2 hS
    refine take_w (i := 3) (v := ?_) (some 21) rfl (by kernel_rfl) rfl (fun _ _ _ h => h) (Or.inl ⟨by rfl, ?_⟩) hS ?_
    rotate_left
    · (intro wq hq; go_simp); first | done | with_reducible rfl
    try simp only [Act.put, List.setIfInBounds_toArray, List.set_cons_zero, List.set_cons_succ]
    replace hS := Till.list 3 hS
    refine take_w (i := 5) (v := ?_) (some 23) rfl (by kernel_rfl) rfl (fun _ _ _ h => h) (Or.inl ⟨by rfl, ?_⟩) hS ?_
    rotate_left
    · (intro wq hq; go_simp); first | done | with_reducible rfl
    try simp only [Act.put, List.setIfInBounds_toArray, List.set_cons_zero, List.set_cons_succ]
    replace hS := Till.list 5 hS
    refine ready_g (rs := [4]) (by kernel_rfl) (by simp) ?_
    refine AllReadyG.cons rfl (fun Kont hK => ?_) AllReadyG.nil
    go_simp
    refine (used_l (hd3.out.below ((Below.refl _ _).drew)) hk).mono ?_
    rintro e w4 ⟨rfl, hb4⟩
    have hb4' : Below w3.heap.size w3 w4 := ((Below.refl _ _).drew).trans hb4
    refine hK.out _ _ (Or.inr (((hS.get (by kernel_rfl)).below hb4))) (fun hS0 => ?_)
    clear hK Kont
    try simp only [Act.put, List.setIfInBounds_toArray, List.set_cons_zero, List.set_cons_succ]
    clear hS
    have hS := hS0
    clear hS0
    refine ready_g (rs := [6]) (by kernel_rfl) (by simp) ?_
    refine AllReadyG.cons rfl (fun Kont hK => ?_) AllReadyG.nil
    go_simp
    refine (rused_any (hr3.out.still hb4') HS.out.1.names HS.out.1.place HS.out.2.1).mono ?_
    rintro e w5 ⟨rfl, hb5'⟩
    have hb5 := Below.then hb4' hb5'
    refine hK.out _ _ (Or.inr (((hS.get (by kernel_rfl)).below hb5'))) (fun hS0 => ?_)
    clear hK Kont
    try simp only [Act.put, List.setIfInBounds_toArray, List.set_cons_zero, List.set_cons_succ]
    clear hS
    have hS := hS0
    clear hS0
    refine take_w (i := 7) (v := ?_) (some 25) rfl (by kernel_rfl) rfl (fun _ _ _ h => h) (Or.inl ⟨by rfl, ?_⟩) hS ?_
    rotate_left
    · (intro wq hq; go_simp); first | done | with_reducible rfl
    try simp only [Act.put, List.setIfInBounds_toArray, List.set_cons_zero, List.set_cons_succ]
    replace hS := Till.list 7 hS
    refine take_w (i := 8) (v := ?_) (some 26) rfl (by kernel_rfl) rfl (fun _ _ _ h => h) (Or.inl ⟨by rfl, ?_⟩) hS ?_
    rotate_left
    · (intro wq hq; go_simp); first | done | with_reducible rfl
    try simp only [Act.put, List.setIfInBounds_toArray, List.set_cons_zero, List.set_cons_succ]
    replace hS := Till.list 8 hS
    refine take_w (i := 9) (v := ?_) (some 27) rfl (by kernel_rfl) rfl (fun _ _ _ h => h) (Or.inl ⟨by rfl, ?_⟩) hS ?_
    rotate_left
    · (intro wq hq; go_simp); first | done | with_reducible rfl
    try simp only [Act.put, List.setIfInBounds_toArray, List.set_cons_zero, List.set_cons_succ]
    replace hS := Till.list 9 hS
    refine take_w (i := 10) (v := ?_) (some 28) rfl (by kernel_rfl) rfl (fun _ _ _ h => h) (Or.inl ⟨by rfl, ?_⟩) hS ?_
    rotate_left
    · (intro wq hq; go_simp); first | done | with_reducible rfl
    try simp only [Act.put, List.setIfInBounds_toArray, List.set_cons_zero, List.set_cons_succ]
    replace hS := Till.list 10 hS
    refine take_w (i := 12) (v := ?_) (some 30) rfl (by kernel_rfl) rfl (fun _ _ _ h => h) (Or.inl ⟨by rfl, ?_⟩) hS ?_
    rotate_left
    · (intro wq hq; go_simp); first | done | with_reducible rfl
    try simp only [Act.put, List.setIfInBounds_toArray, List.set_cons_zero, List.set_cons_succ]
    replace hS := Till.list 12 hS
    refine take_w (i := 13) (v := ?_) (some 31) rfl (by kernel_rfl) rfl (fun _ _ _ h => h) (Or.inl ⟨by rfl, ?_⟩) hS ?_
    rotate_left
    · (intro wq hq; go_simp); first | done | with_reducible rfl
    try simp only [Act.put, List.setIfInBounds_toArray, List.set_cons_zero, List.set_cons_succ]
    replace hS := Till.list 13 hS
    refine take_w (i := 14) (v := ?_) (some 32) rfl (by kernel_rfl) rfl (fun _ _ _ h => h) (Or.inl ⟨by rfl, ?_⟩) hS ?_
    rotate_left
    · (intro wq hq; go_simp); first | done | with_reducible rfl
    try simp only [Act.put, List.setIfInBounds_toArray, List.set_cons_zero, List.set_cons_succ]
    replace hS := Till.list 14 hS
    refine take_n (i := 15) (v := ?_) (some 33) rfl (by kernel_rfl) rfl (fun _ _ _ h => h) (Or.inl ⟨by rfl, ?_⟩) hS ?_
    rotate_left
    · (intro wq hq; have q0 := hq.cell c1; go_simp); first | done | with_reducible rfl
    try simp only [Act.put, List.setIfInBounds_toArray, List.set_cons_zero, List.set_cons_succ]
    replace hS := Till.list 15 hS
    refine ready_g (rs := [11]) (by kernel_rfl) (by simp) ?_
    refine AllReadyG.cons rfl (fun Kont hK => ?_) AllReadyG.nil
    go_simp
    refine (steps_l (hd3.out.below (hb5.trans (Below.refl _ _)))).mono ?_
    rintro e w6 ⟨rfl, e6⟩
    subst e6
    refine hK.out _ _ (Or.inr ((hS.get (by kernel_rfl)))) (fun hS0 => ?_)
    clear hK Kont
    try simp only [Act.put, List.setIfInBounds_toArray, List.set_cons_zero, List.set_cons_succ]
    clear hS
    have hS := hS0
    clear hS0
    refine take_w (i := 16) (v := ?_) (some 34) rfl (by kernel_rfl) rfl (fun _ _ _ h => h) (Or.inl ⟨by rfl, ?_⟩) hS ?_
    rotate_left
    · (intro wq hq; go_simp); first | done | with_reducible rfl
    try simp only [Act.put, List.setIfInBounds_toArray, List.set_cons_zero, List.set_cons_succ]
    replace hS := Till.list 16 hS
    refine take_w (i := 17) (v := ?_) (some 35) rfl (by kernel_rfl) rfl (fun _ _ _ h => h) (Or.inl ⟨by rfl, ?_⟩) hS ?_
    rotate_left
    · (intro wq hq; go_simp); first | done | with_reducible rfl
    try simp only [Act.put, List.setIfInBounds_toArray, List.set_cons_zero, List.set_cons_succ]
    replace hS := Till.list 17 hS
    refine done_g (by kernel_rfl) (NoPanic.normal ?_) _
    clear hS
    go_wp2_with fail
    go_meet
    exact ⟨rfl, hb5⟩
  case rest =>
    obtain ⟨rfl, hb6⟩ := hcut
    have HB6 := Lib.hid (Below.then HB.out hb6)
    have hd6 := Lib.hid (hd3.out.below hb6)
    have hr6 := Lib.hid (hr3.out.still hb6)
    have hlv6 := SV.below hlv3 hb6
    clear hb6 hlv3 c1
    obtain ⟨N, hN⟩ : ∃ N, M.names.length = N := ⟨_, rfl⟩
    rw [hN] at hlv6 hnl hlc ⊢
    have HN := Lib.hid hN
    clear hN
    have hw1 : Below wc.heap.size wc (wc.alloc (.cells #[] 9)) := Joins.below_alloc1 _ _
    have o0 : OS 1 (wc.alloc (.cells #[] 9)) wc.heap.size (.slice (some ⟨wc.heap.size, 0, none⟩) 0 0) 0 [] := OS.lit (k := 1) wc wc.heap.size (Nat.le_refl _) [] 0 9 rfl (by simp) (by simp) _ rfl
    have hlv7 := SV.below hlv6 hw1
    have hone : ∀ wx : World, SV 1 (wx.alloc (.cells #[.string noneN] 9)) (some ⟨wx.heap.size, 0, none⟩) 1 [.string noneN] := fun wx => SV.lit' (k := 1) wx [.string noneN] 1 9 rfl (by simp [Value.oneCell']) _ rfl
    go_upto_region 6 with (at_builtin; first | (refine append_os el_texts rfl (.tmp 36) (.tmp 37) rfl wc.heap.size _ 0 [] rfl o0 lA N lc (tcells (textsD M)) rfl hlv7 (by omega) (by omega) hw1.size ?_; intro v4 w4 ho4 hb4; rw [Nat.zero_add, List.nil_append] at ho4; have hw4 := hw1.trans hb4; clear o0 hlv7) | (refine append_os el_texts rfl (.tmp 38) (.tmp 39) rfl wc.heap.size _ N (tcells (textsD M)) rfl (ho4.alloc _) _ 1 1 [.string noneN] rfl (hone _) (by omega) (by omega) (hw4.alloc hw4.size _).size ?_; intro v5 w5 ho5 hb5; have hw5 := (hw4.alloc hw4.size (.cells #[.string noneN] 9)).trans hb5; obtain ⟨A5, C5, rfl⟩ := ho5.shape))
    have hv5 : TV w5 A5 (N + 1) (textsD M ++ [noneN]) := by
      obtain ⟨A6, C6, h6, -, -, hv, -⟩ := ho5.sv
      rw [(Value.slice.inj h6).1, TV, tcells_app]
      exact hv
    have hd5 := Lib.hid (hd6.out.below hw5)
    have hr5 := Lib.hid (hr6.out.still hw5)
    have HB5 := Lib.hid (Below.then HB6.out hw5)
    have HL := Lib.hid (show ∀ s ∈ textsD M ++ [noneN], s.size ≤ 1000 by
      intro s hs
      rcases List.mem_append.1 hs with hs | hs
      · obtain ⟨n, hn, rfl⟩ := List.mem_map.1 hs
        have := okN_le (HS.out.1.nm n hn); omega
      · rw [List.mem_singleton.1 hs]; decide)
    have hvl := TV.len hv5
    have HVL := Lib.hid hvl
    generalize textsD M ++ [noneN] = l at *
    clear ho5 hb5 hw5 hw4 hb4 ho4 hone hlv6 hw1 hvl
    go_wp2_with fail
    go_loopw [7] (fun i wr => ∃ j : Nat, j ≤ N + 1 ∧ i = .int .i64 (j : Int) ∧ Below w5.heap.size w5 wr) (fun i _ => N + 1 - (intOf i).toNat)
    case atStart => exact ⟨0, by omega, rfl, Below.refl _ _⟩
    case round =>
      obtain ⟨j, hj, rfl, hbel⟩ := hrel
      by_cases hlt : j < N + 1
      · obtain ⟨b, off, rfl, e1⟩ := TV.at hv5 j hlt
        replace e1 := keepc e1 hbel
        have hji : (j : Int) < ((N + 1 : Nat) : Int) := by omega
        have hji2 : (j : Int) < (N : Int) + 1 := by omega
        obtain ⟨s, hs⟩ : ∃ s, l.getD j ⟨#[]⟩ = s := ⟨_, rfl⟩
        have hsz : s.size ≤ 1000 := by
          rw [← hs, List.getD_eq_getElem?_getD, List.getElem?_eq_getElem (by rw [HVL.out]; exact hlt), Option.getD_some]
          exact HL.out _ (List.getElem_mem _)
        rw [hs] at e1
        clear hs
        go_wp2_with fail
        refine (read_l (hd5.out.below hbel) hk s hsz).mono ?_
        rintro e w6 ⟨v6, rfl, ho6, hb6⟩
        replace e1 := keepc e1 hb6
        have hbyt : ∀ z ∈ (readD M s).1, 0 ≤ z ∧ z ≤ 255 := by
          unfold readD
          split
          · intro z hz; cases hz
          · split
            · intro z hz; cases hz
            · rename_i f hf
              refine HS.out.2.2.2 _ ?_
              unfold flN
              rw [List.getD_eq_getElem?_getD, List.getElem?_eq_getElem (HS.out.1.place _ (findN_mem hf)), Option.getD_some]
              exact List.getElem_mem _
        obtain ⟨nr, hnr⟩ : ∃ nr, (readD M s).1.length = nr := ⟨_, rfl⟩
        obtain ⟨a6, c6, rfl, -, -, hv6, -⟩ := ho6.bvn hbyt nr hnr
        have hbel6 := hbel.trans (hb6.mono hbel.size)
        clear ho6 hb6
        go_wp2_with fail
        refine (rread_any (hr5.out.still hbel6) HS.out.1.names HS.out.1.place HS.out.2.2.1 s).mono ?_
        rintro e w7 ⟨v7, rfl, ho7, hb7⟩
        obtain ⟨a7, c7, rfl, -, -, hv7, -⟩ := ho7.bvn hbyt nr hnr
        have hbel7 := hbel6.trans (hb7.mono hbel6.size)
        have hv6' := hv6.below hb7
        obtain ⟨bs, hbs⟩ : ∃ bs, (readD M s).1 = bs := ⟨_, rfl⟩
        obtain ⟨er, her⟩ : ∃ er, (readD M s).2 = er := ⟨_, rfl⟩
        rw [hbs] at hv6' hv7
        rw [her]
        have f1 := conv_any hv6' c6
        have f2 := conv_any hv7 c7
        clear ho7 hb7 hbyt hnr hv6 hbs her hbel6 hbel hv6' hv7
        go_wp2_with fail
        go_roundw
        case rel => exact ⟨j + 1, by omega, by go_num, hbel7⟩
        case measure => simp [intOf]; omega
      · obtain rfl : j = N + 1 := by omega
        go_wp2_with fail
        go_ret
        exact ⟨rfl, HB5.out.trans (hbel.mono HB5.out.size)⟩
end
end Go.Proofs.Ytlagmjdldplblaa
