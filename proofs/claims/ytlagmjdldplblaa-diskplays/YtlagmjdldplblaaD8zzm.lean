/-
  DiskPlays: for every number and every slice of things that are done the statement's function returns true, and its arguments read as they did. No condition.
-/
import Derived.Test.YtlagmjdldplblaaDiskJ
import Derived.Test.YtlagmjdldplblaaDiskK
import Derived.Test.YtlagmjdldplblaaDiskI
import Derived.Deep.CutBlock
import Derived.Test.YtlagmjdldplblaaRows
import Derived.WalkKit
import Derived.ProofKit
import Derived.OpenShut
import Derived.ShutString
import Derived.ChangeOld
import Derived.Below
import Derived.Test.YtlagmjdldplblaaBase
/- A disk, and the document's own, side by side: each works while the other's memory is left alone. -/
namespace Go.Proofs.Ytlagmjdldplblaa
open Go.ChangeShapes Go.WideShapes Go.ChangeAt Go.RowKit Go.WideMaps Go.Maps
set_option linter.unusedVariables false
set_option maxRecDepth 4000

/-- the disk at p is N, the document's own at y is M -/
def TQ (w0 w : World) (p y k : Nat) (N M : DK) : Prop := ∃ I, LF w0 I w p k N ∧ RD w I y M
section
variable {w0 w w' : World} {p y k : Nat} {N M : DK}
theorem RD.foot {I : Nat → Prop} (h : RD w I y M) : I y := by obtain ⟨_, _, _, _, _, h⟩ := h; exact h.foot
theorem TQ.below (h : TQ w0 w p y k N M) : Below w0.heap.size w0 w := by obtain ⟨I, h, -⟩ := h; exact h.below
theorem TQ.more (h : TQ w0 w p y k N M) {q : Nat} (hq : k ≤ q) : TQ w0 w p y q N M := by obtain ⟨I, h, hr⟩ := h; exact ⟨I, h.more hq, hr⟩
theorem TQ.keep (h : TQ w0 w p y k N M) (hb : Below w.heap.size w w') : TQ w0 w' p y k N M := by obtain ⟨I, h, hr⟩ := h; exact ⟨I, h.keep hb, hr.still hb⟩
theorem TQ.young (h : TQ w0 w p y k N M) : w0.heap.size ≤ y := by obtain ⟨I, h, hr⟩ := h; exact h.low y hr.foot
theorem TQ.dd (h : TQ w0 w p y k N M) : ∃ g F, DD g k w F p N := by obtain ⟨I, h, hr⟩ := h; obtain ⟨g, hd⟩ := h.disk; exact ⟨g, _, hd⟩
/-- the disk has done something -/
theorem TQ.did {I : Nat → Prop} {q : Nat} {N' : DK} (hr : RD w I y M) (h' : LF w0 I w' p q N') (hk : Kp (NotI w0 I) w w') : TQ w0 w' p y q N' M := ⟨I, h', hr.kp hk (fun b hb hn => hn.2 hb) (fun b hb => hb)⟩
/-- the document's own has done something -/
theorem TQ.ref {I : Nat → Prop} {y' : Nat} {M' : DK} (h : LF w0 I w p k N) (hr : RD w' (AndNew I w w') y' M') (hk : Kp I w w') : TQ w0 w' p y' k N M' := ⟨_, h.other hk, hr⟩
theorem kp_y {I : Nat → Prop} (hI : I y) (hk : Kp (fun b => b = y) w w') : Kp I w w' := hk.mono (fun b _ e => by have e : b = y := e; rw [e]; exact hI)
theorem does_t (h : TQ w0 w p y k N M) (hk : k ≤ 800) (kd num : Int) (s t : ByteArray) (A : Option Addr) (n c : Nat) (bz : List Int) (L : Value) (hkd : 0 ≤ kd ∧ kd ≤ 255) (hs : s.size ≤ maxLen) (ht : t.size ≤ maxLen) (hb : BV w0 A n bz) (hnc : n ≤ c) :
    Calls Try.prog 23 #[.pointer (some ⟨p, 0, none⟩), .agg #[.int .u8 kd, .string s, .string t, .slice A n c, .int .i64 num, L]] w fun e w' => e = .returned (.int .i64 (doesD N (kd % 10).toNat (sh24 s) (sh24 t) (bz.take 100)).2) ∧ TQ w0 w' p y (k + 3) (doesD N (kd % 10).toNat (sh24 s) (sh24 t) (bz.take 100)).1 M := by
  obtain ⟨I, h, hr⟩ := h
  exact (does_f h hk kd num s t A n c bz L hkd hs ht (hb.below h.below) hnc ((Low.of hb).imp id (fun h x hx => .inl (h x hx)))).mono (fun e w' ⟨h1, h2, h3⟩ => ⟨h1, TQ.did hr h2 h3⟩)
theorem did_t (h : TQ w0 w p y k N M) (hs8 : Sm8 M) (hub : usedD M ≤ 1000000000) (hlen : ∀ x ∈ M.files, x.1.length ≤ 5000000) (kd num : Int) (s t : ByteArray) (A : Option Addr) (n c : Nat) (bz : List Int) (L : Value) (hkd : 0 ≤ kd ∧ kd ≤ 255) (hs : s.size ≤ maxLen) (ht : t.size ≤ maxLen) (hb : BV w0 A n bz) (hnc : n ≤ c) :
    Calls Try.prog 24 #[.pointer (some ⟨y, 0, none⟩), .agg #[.int .u8 kd, .string s, .string t, .slice A n c, .int .i64 num, L]] w fun e w' => e = .returned (.int .i64 (doesD M (kd % 10).toNat (sh24 s) (sh24 t) (bz.take 100)).2) ∧ TQ w0 w' p y k N (doesD M (kd % 10).toNat (sh24 s) (sh24 t) (bz.take 100)).1 := by
  have hy := h.young
  obtain ⟨I, h, hr⟩ := h
  exact (did8_any hr hs8 hub hlen kd num s t A n c bz L hkd hs ht (hb.below h.below) hnc ((Low.of hb).imp id (fun h x hx => by have := h x hx; omega))).mono (fun e w' ⟨h1, h2, h3⟩ => ⟨h1, TQ.ref h h2 (kp_y hr.foot h3)⟩)
theorem limit_t (h : TQ w0 w p y k N M) (n : Int) (hn : n ≤ maxI) : Calls Try.prog 21 #[.pointer (some ⟨p, 0, none⟩), .int .i64 n] w fun e w' => e = .returned (.tuple #[]) ∧ TQ w0 w' p y k (limitD N n) M := by
  obtain ⟨I, h, hr⟩ := h
  exact (limit_f h n hn).mono (fun e w' ⟨h1, h2, h3⟩ => ⟨h1, TQ.did hr h2 h3⟩)
theorem rlimit_t (h : TQ w0 w p y k N M) (n : Int) : Calls Try.prog 22 #[.pointer (some ⟨y, 0, none⟩), .int .i64 n] w fun e w' => e = .returned (.tuple #[]) ∧ TQ w0 w' p y k N (limitD M n) := by
  obtain ⟨I, h, hr⟩ := h
  exact (rlimit_any hr n).mono (fun e w' ⟨h1, h2, h3⟩ => ⟨h1, TQ.ref h (h2.mono (fun b hb => .inl hb)) (kp_y hr.foot h3)⟩)
theorem fail_t (h : TQ w0 w p y k N M) (A : Option Addr) (n c : Nat) (ts : List Int) (hv : IV w0 A n ts) (hn : n ≤ 1000) (hA : Low w0.heap.size A n) (hr8 : ∀ x ∈ ts, -9223372036854775808 ≤ x ∧ x ≤ maxI) :
    Calls Try.prog 19 #[.pointer (some ⟨p, 0, none⟩), .slice A n c] w fun e w' => e = .returned (.tuple #[]) ∧ TQ w0 w' p y k (failD N ts) M := by
  obtain ⟨I, h, hr⟩ := h
  exact (fail_f h A n c ts (SV.below hv h.below) hn (hA.imp id (fun h x hx => .inl (h x hx))) hr8).mono (fun e w' ⟨h1, h2, h3⟩ => ⟨h1, TQ.did hr h2 h3⟩)
theorem rfail_t (h : TQ w0 w p y k N M) (A : Option Addr) (n c : Nat) (ts : List Int) (hv : IV w0 A n ts) (hn : n ≤ 1000) :
    Calls Try.prog 20 #[.pointer (some ⟨y, 0, none⟩), .slice A n c] w fun e w' => e = .returned (.tuple #[]) ∧ TQ w0 w' p y k N (failD M ts) := by
  obtain ⟨I, h, hr⟩ := h
  exact (rfail_any hr A n c ts (SV.below hv h.below) hn).mono (fun e w' ⟨h1, h2, h3⟩ => ⟨h1, TQ.ref h h2 (kp_y hr.foot h3)⟩)
/-- a disk that is new in w', of which the old one's memory is left alone -/
theorem TQ.fresh {I : Nat → Prop} {g : G8} {q : Nat} {N' : DK} (h : LF w0 I w p k N) (hr : RD w I y M) (hd : DD g k w' (fun b => w.heap.size ≤ b) q N') (hb : Below w.heap.size w w') : TQ w0 w' q y k N' M := by
  have hs := h.below.size
  refine ⟨fun b => w0.heap.size ≤ b ∧ b < w.heap.size, ⟨⟨g, hd.refoot (fun b hb2 _ => ⟨by omega, fun h2 => by have := h2.2; have hb2 : w.heap.size ≤ b := hb2; omega⟩)⟩, h.below.trans (hb.mono hs), fun x hx => Nat.lt_of_lt_of_le hx.2 hb.size, fun x hx => hx.1⟩, ?_⟩
  exact (hr.still hb).mono (fun b hb2 => ⟨h.low b hb2, h.idle b hb2⟩)
theorem crash_t (h : TQ w0 w p y k N M) (hk : k ≤ 900) (ch : Int) (A : Option Addr) (n c : Nat) (ts : List Int) (hv : IV w0 A n ts) (hn : n ≤ 1000) (hr8 : ∀ x ∈ ts, -9223372036854775808 ≤ x ∧ x ≤ maxI) :
    Calls Try.prog 12 #[.pointer (some ⟨p, 0, none⟩), .int .i64 ch, .slice A n c] w fun e w' => ∃ q, e = .returned (.pointer (some ⟨q, 0, none⟩)) ∧ TQ w0 w' q y k (crashD N ch ts) M := by
  obtain ⟨I, h, hr⟩ := h
  obtain ⟨g, hd⟩ := h.disk
  exact (crash_any g k w _ p N hk hd ch A n c ts (SV.below hv h.below) hn hr8).mono (fun e w' ⟨g', q, he, h1, h2⟩ => ⟨q, he, TQ.fresh h hr h1 h2⟩)
theorem rcrash_t (h : TQ w0 w p y k N M) (hs8 : Sm8 M) (ok : Ok7 M) (hlen : ∀ x ∈ M.files, x.1.length ≤ 5000000) (ch : Int) (A : Option Addr) (n c : Nat) (ts : List Int) (hv : IV w0 A n ts) (hn : n ≤ 1000) (hr8 : ∀ x ∈ ts, -9223372036854775808 ≤ x ∧ x ≤ maxI) :
    Calls Try.prog 14 #[.pointer (some ⟨y, 0, none⟩), .int .i64 ch, .slice A n c] w fun e w' => ∃ q, e = .returned (.pointer (some ⟨q, 0, none⟩)) ∧ TQ w0 w' p q k N (crashD M ch ts) := by
  obtain ⟨I, h, vF, vN, vK, vC, vX, hr⟩ := h
  exact (rcrash_any hr hs8 ok hlen ch A n c ts (SV.below hv h.below) hn hr8).mono (fun e w' ⟨q, he, h1, h2, h3⟩ => ⟨q, he, TQ.ref h h1 (Kp.of_new h3)⟩)
/-- a disk at q that was cloned, and the one at p that it was cloned from -/
def TC (w0 w : World) (p q y j k : Nat) (N' N M : DK) : Prop := ∃ I I1 Iq, LF w0 I1 w p j N' ∧ LF w0 Iq w q k N ∧ RD w I y M ∧ (∀ b, b < w.heap.size → NotI w0 I1 b → Iq b) ∧ (∀ b, I b → I1 b ∧ Iq b)
theorem clone_t (h : TQ w0 w p y k N M) (hk : k ≤ 900) : Calls Try.prog 15 #[.pointer (some ⟨p, 0, none⟩)] w fun e w' => ∃ q, e = .returned (.pointer (some ⟨q, 0, none⟩)) ∧ TC w0 w' p q y k k N N M := by
  obtain ⟨I, h, hr⟩ := h
  obtain ⟨g, hd⟩ := h.disk
  refine (clone_any g k w _ p N hk hd).mono (fun e w' ⟨q, he, ⟨g', h1⟩, h2⟩ => ⟨q, he, ?_⟩)
  have hs := h.below.size
  have h3 := h.other (Kp.of_new (F := I) h2)
  refine ⟨I, AndNew I w w', fun b => w0.heap.size ≤ b ∧ b < w.heap.size, h3, ⟨⟨g', h1.refoot (fun b hb2 _ => ⟨by have hb2 : w.heap.size ≤ b := hb2; omega, fun h2 => by have := h2.2; have hb2 : w.heap.size ≤ b := hb2; omega⟩)⟩, h3.below, fun x hx => Nat.lt_of_lt_of_le hx.2 h2.size, fun x hx => hx.1⟩, hr.still h2, ?_, fun b hb => ⟨.inl hb, h.low b hb, h.idle b hb⟩⟩
  intro b hb hn
  refine ⟨hn.1, ?_⟩
  rcases Nat.lt_or_ge b w.heap.size with h5 | h5
  · exact h5
  · exact absurd (.inr ⟨h5, hb⟩) hn.2
theorem TC.keep {q j : Nat} {N' : DK} (h : TC w0 w p q y j k N' N M) (hb : Below w.heap.size w w') : TC w0 w' p q y j k N' N M := by
  obtain ⟨I, I1, Iq, h1, h2, h3, h4, h5⟩ := h
  refine ⟨I, AndNew I1 w w', Iq, h1.other (Kp.of_new hb), h2.keep hb, h3.still hb, fun b hb2 hn => ?_, fun b hb2 => ⟨.inl (h5 b hb2).1, (h5 b hb2).2⟩⟩
  rcases Nat.lt_or_ge b w.heap.size with h6 | h6
  · exact h4 b h6 ⟨hn.1, fun e => hn.2 (.inl e)⟩
  · exact absurd (.inr ⟨h6, hb2⟩) hn.2
theorem TC.did {q j i : Nat} {N' N'' : DK} {I I1 Iq : Nat → Prop} (h2 : LF w0 Iq w q k N) (h3 : RD w I y M) (h4 : ∀ b, b < w.heap.size → NotI w0 I1 b → Iq b) (h5 : ∀ b, I b → I1 b ∧ Iq b) (h1 : LF w0 I1 w' p i N'') (hk : Kp (NotI w0 I1) w w') : TC w0 w' p q y i k N'' N M := by
  refine ⟨I, I1, AndNew Iq w w', h1, h2.other (hk.mono (fun b hb hn => h4 b hb hn)), h3.kp hk (fun b hb hn => hn.2 (h5 b hb).1) (fun b hb => hb), fun b hb hn => ?_, fun b hb => ⟨(h5 b hb).1, .inl (h5 b hb).2⟩⟩
  rcases Nat.lt_or_ge b w.heap.size with h6 | h6
  · exact .inl (h4 b h6 hn)
  · exact .inr ⟨h6, hb⟩
theorem TC.end_ {q j : Nat} {N' : DK} (h : TC w0 w p q y j k N' N M) : TQ w0 w q y k N M := by
  obtain ⟨I, I1, Iq, h1, h2, h3, h4, h5⟩ := h
  exact ⟨Iq, h2, h3.mono (fun b hb => (h5 b hb).2)⟩
theorem create_c {q j : Nat} {N' : DK} (h : TC w0 w p q y j k N' N M) (hj : j ≤ 800) (s : ByteArray) (hs : s.size ≤ 1000) : Calls Try.prog 16 #[.pointer (some ⟨p, 0, none⟩), .string s] w fun e w' => ∃ v N'', e = .returned (.int .i64 v) ∧ TC w0 w' p q y (j + 3) k N'' N M := by
  obtain ⟨I, I1, Iq, h1, h2, h3, h4, h5⟩ := h
  exact (create_f h1 hj s hs).mono (fun e w' ⟨e1, e2, e3⟩ => ⟨_, _, e1, TC.did (j := j) (N' := N') h2 h3 h4 h5 e2 e3⟩)
theorem remove_c {q j : Nat} {N' : DK} (h : TC w0 w p q y j k N' N M) (hj : j ≤ 800) (s : ByteArray) (hs : s.size ≤ 1000) : Calls Try.prog 17 #[.pointer (some ⟨p, 0, none⟩), .string s] w fun e w' => ∃ v N'', e = .returned (.int .i64 v) ∧ TC w0 w' p q y (j + 3) k N'' N M := by
  obtain ⟨I, I1, Iq, h1, h2, h3, h4, h5⟩ := h
  exact (remove_f h1 hj s hs).mono (fun e w' ⟨e1, e2, e3⟩ => ⟨_, _, e1, TC.did (j := j) (N' := N') h2 h3 h4 h5 e2 e3⟩)
/-- bytes that are new -/
theorem append_c {q j : Nat} {N' : DK} (h : TC w0 w p q y j k N' N M) (hj : j ≤ 800) (hw : Below w.heap.size w w') (s : ByteArray) (hs : s.size ≤ 1000) (A : Option Addr) (n c : Nat) (zs : List Int) (hv : BV w' A n zs) (hnc : n ≤ c) (hn : n ≤ 1000) (hA : ∀ x, A = some x → w.heap.size ≤ x.block ∧ x.block < w'.heap.size) :
    Calls Try.prog 18 #[.pointer (some ⟨p, 0, none⟩), .string s, .slice A n c] w' fun e w2 => ∃ v N'', e = .returned (.int .i64 v) ∧ TC w0 w2 p q y (j + 3) k N'' N M := by
  obtain ⟨I, I1, Iq, h1, h2, h3, h4, h5⟩ := h
  have h1' := h1.other (Kp.of_new (F := I1) hw)
  refine (append_f h1' hj s hs A n c zs hv hnc hn (.inr (fun x hx => .inr (.inr (hA x hx))))).mono (fun e w2 ⟨e1, e2, e3⟩ => ⟨_, _, e1, TC.did (j := j) (N' := N') (h2.keep hw) (h3.still hw) (fun b hb hn2 => ?_) (fun b hb => ⟨.inl (h5 b hb).1, (h5 b hb).2⟩) e2 e3⟩)
  rcases Nat.lt_or_ge b w.heap.size with h6 | h6
  · exact h4 b h6 ⟨hn2.1, fun e => hn2.2 (.inl e)⟩
  · exact absurd (.inr ⟨h6, hb⟩) hn2.2
end
end Go.Proofs.Ytlagmjdldplblaa
/- The walk of DiskPlays. -/
namespace Go.Proofs.Ytlagmjdldplblaa
open Go.ChangeShapes Go.WideShapes Go.ChangeAt Go.RowKit Go.WideMaps Go.Maps
set_option linter.unusedVariables false
set_option maxRecDepth 4000

theorem files_created (M : DK) (s : ByteArray) : (createdD M s).1.files.length ≤ M.files.length + 1 := by
  unfold createdD
  split
  · exact Nat.le_succ _
  · split
    · exact Nat.le_succ _
    · split
      · exact Nat.le_succ _
      · show (M.files ++ [_]).length ≤ _
        simp
theorem files_then (M : DK) (g : DK → DK × Int) (h : ∀ M, (g M).1.files.length ≤ M.files.length + 1) : (thenD M g).1.files.length ≤ M.files.length + 1 := by
  have hs := (step_keeps M).2.1
  unfold thenD
  split
  · have := h (stepD M).1; rw [hs] at this; exact this
  · rw [hs]; exact Nat.le_succ _
theorem files_moved (M : DK) (s : ByteArray) : (removedD M s).1.files.length ≤ M.files.length + 1 := by
  unfold removedD
  split
  · exact Nat.le_succ _
  · exact Nat.le_succ _
theorem files_does (M : DK) (q : Nat) (s t : ByteArray) (b : List Int) : (doesD M q s t b).1.files.length ≤ M.files.length + 1 := by
  have hs := (step_keeps M).2.1
  unfold doesD
  split
  · exact files_then M _ (fun M => files_created M s)
  · split
    · unfold appendD
      split
      · rw [hs]; exact Nat.le_succ _
      · unfold appendedD
        split
        · show (stepD M).1.files.length ≤ _; rw [hs]; exact Nat.le_succ _
        · split
          · show ((stepD M).1.files.set _ _).length ≤ _; rw [List.length_set, hs]; exact Nat.le_succ _
          · show (stepD M).1.files.length ≤ _; rw [hs]; exact Nat.le_succ _
    · split
      · refine files_then M _ (fun M => ?_)
        unfold syncedD
        split
        · exact Nat.le_succ _
        · show (M.files.set _ _).length ≤ _; rw [List.length_set]; exact Nat.le_succ _
      · split
        · exact files_then M _ (fun M => Nat.le_succ _)
        · split
          · refine files_then M _ (fun M => ?_)
            unfold renamedD
            split
            · exact Nat.le_succ _
            · split
              · exact Nat.le_succ _
              · exact Nat.le_succ _
          · exact files_then M _ (fun M => files_moved M s)
theorem foldN_len : ∀ (cs : List Ch8) (l : List Nm8), (cs.foldl doneN l).length ≤ l.length + cs.length
  | [], l => Nat.le_refl _
  | c :: cs, l => by
    have h1 := foldN_len cs (doneN l c)
    have h2 := doneN_len l c
    rw [List.foldl_cons, List.length_cons]; omega
theorem files_crash (M : DK) (ch : Int) (ts : List Int) : (crashD M ch ts).files.length ≤ M.kept.length + M.chs.length := by
  show (foundL M.files ts 0 (leftD M ch)).length ≤ _
  rw [foundL_len]
  unfold leftD
  have h1 := foldN_len (M.chs.take ch.toNat) M.kept
  rw [List.length_take] at h1
  omega
section
variable {w0 w w' : World} {p y k : Nat} {N M : DK}
/-- what is known of the data alone -/
theorem TQ.facts (h : TQ w0 w p y k M N) (hk : k ≤ 900) (hf : M.files.length ≤ 5000) : Sm8 M ∧ Ok7 M ∧ usedD M ≤ 1000000000 ∧ (∀ x ∈ M.files, x.1.length ≤ 5000000) ∧ (∀ x ∈ M.files, ∀ z ∈ x.1, 0 ≤ z ∧ z ≤ 255) ∧ M.kept.length + M.chs.length ≤ k := by
  obtain ⟨g, F, hd⟩ := h.dd
  have h1 := hd.pl.taken
  have h2 := hd.pl.kc
  have h3 := hd.pl.nl
  refine ⟨⟨by omega, by omega, hf, by omega, by omega, hd.pl.names, hd.ok.place⟩, hd.ok, used_bound hd (by omega), fun x hx => ?_, hd.pl.bytes, h2⟩
  have := hd.pl.len x hx
  have : 1000 * k ≤ 1000 * 900 := Nat.mul_le_mul_left _ hk
  omega
theorem TQ.ld (h : TQ w0 w p y k M N) : LD w0 w p k M := by obtain ⟨I, h, -⟩ := h; exact h.ld
end
/-- and the block b is left alone -/
def TQB (w0 w : World) (p y k : Nat) (N M : DK) (b : Nat) : Prop := ∃ I, LF w0 I w p k N ∧ RD w I y M ∧ I b
section
variable {w0 w w' : World} {p y k b : Nat} {N M : DK}
theorem TQB.tq (h : TQB w0 w p y k N M b) : TQ w0 w p y k N M := by obtain ⟨I, h1, h2, -⟩ := h; exact ⟨I, h1, h2⟩
theorem TQ.box (h : TQ w0 w p y k N M) (o : Obj) : TQB w0 (w.alloc o) p y k N M w.heap.size := by
  obtain ⟨I, h1, h2⟩ := h
  have hb : Below w.heap.size w (w.alloc o) := Joins.below_alloc1 _ _
  exact ⟨_, h1.other (Kp.of_new hb), (h2.still hb).mono (fun b hb => .inl hb), .inr ⟨Nat.le_refl _, by simp⟩⟩
theorem TQB.block {I : Nat → Prop} {q : Nat} {N' : DK} {e : Ending} {e' : Ending} (h : LF w0 I w p k N) (hr : RD w I y M) (hb : I b) (h' : e = e' ∧ LF w0 I w' p q N' ∧ Kp (NotI w0 I) w w') : e = e' ∧ TQ w0 w' p y q N' M ∧ w'.heap[b]? = w.heap[b]? :=
  ⟨h'.1, TQ.did hr h'.2.1 h'.2.2, h'.2.2.block b (h.idle b hb) (fun hn => hn.2 hb)⟩
theorem does_b (h : TQB w0 w p y k N M b) (hk : k ≤ 800) (kd num : Int) (s t : ByteArray) (A : Option Addr) (n c : Nat) (bz : List Int) (L : Value) (hkd : 0 ≤ kd ∧ kd ≤ 255) (hs : s.size ≤ maxLen) (ht : t.size ≤ maxLen) (hb : BV w0 A n bz) (hnc : n ≤ c) :
    Calls Try.prog 23 #[.pointer (some ⟨p, 0, none⟩), .agg #[.int .u8 kd, .string s, .string t, .slice A n c, .int .i64 num, L]] w fun e w' => e = .returned (.int .i64 (doesD N (kd % 10).toNat (sh24 s) (sh24 t) (bz.take 100)).2) ∧ TQ w0 w' p y (k + 3) (doesD N (kd % 10).toNat (sh24 s) (sh24 t) (bz.take 100)).1 M ∧ w'.heap[b]? = w.heap[b]? := by
  obtain ⟨I, h, hr, hI⟩ := h
  exact (does_f h hk kd num s t A n c bz L hkd hs ht (hb.below h.below) hnc ((Low.of hb).imp id (fun h x hx => .inl (h x hx)))).mono (fun e w' h1 => TQB.block h hr hI h1)
theorem limit_b (h : TQB w0 w p y k N M b) (n : Int) (hn : n ≤ maxI) : Calls Try.prog 21 #[.pointer (some ⟨p, 0, none⟩), .int .i64 n] w fun e w' => e = .returned (.tuple #[]) ∧ TQ w0 w' p y k (limitD N n) M ∧ w'.heap[b]? = w.heap[b]? := by
  obtain ⟨I, h, hr, hI⟩ := h
  exact (limit_f h n hn).mono (fun e w' h1 => TQB.block h hr hI h1)
theorem fail_b (h : TQB w0 w p y k N M b) (A : Option Addr) (n c : Nat) (ts : List Int) (hv : IV w0 A n ts) (hn : n ≤ 1000) (hA : Low w0.heap.size A n) (hr8 : ∀ x ∈ ts, -9223372036854775808 ≤ x ∧ x ≤ maxI) :
    Calls Try.prog 19 #[.pointer (some ⟨p, 0, none⟩), .slice A n c] w fun e w' => e = .returned (.tuple #[]) ∧ TQ w0 w' p y k (failD N ts) M ∧ w'.heap[b]? = w.heap[b]? := by
  obtain ⟨I, h, hr, hI⟩ := h
  exact (fail_f h A n c ts (SV.below hv h.below) hn (hA.imp id (fun h x hx => .inl (h x hx))) hr8).mono (fun e w' h1 => TQB.block h hr hI h1)
theorem crash_b (h : TQ w0 w p y k N M) (hk : k ≤ 900) (ch : Int) (A : Option Addr) (n c : Nat) (ts : List Int) (hv : IV w0 A n ts) (hn : n ≤ 1000) (hr8 : ∀ x ∈ ts, -9223372036854775808 ≤ x ∧ x ≤ maxI) :
    Calls Try.prog 12 #[.pointer (some ⟨p, 0, none⟩), .int .i64 ch, .slice A n c] w fun e w' => ∃ q, e = .returned (.pointer (some ⟨q, 0, none⟩)) ∧ TQ w0 w' q y k (crashD N ch ts) M ∧ Below w.heap.size w w' := by
  obtain ⟨I, h, hr⟩ := h
  obtain ⟨g, hd⟩ := h.disk
  exact (crash_any g k w _ p N hk hd ch A n c ts (SV.below hv h.below) hn hr8).mono (fun e w' ⟨g', q, he, h1, h2⟩ => ⟨q, he, TQ.fresh h hr h1 h2, h2⟩)
end
set_option maxHeartbeats 8000000 in
theorem plays8_is (qt : Int) (A : Option Addr) (n c : Nat) (os : List Op8) (w : World) (hq : -9223372036854775808 ≤ qt ∧ qt ≤ 9223372036854775807) (hA : OPs w A n os) :
    Calls Try.prog 3 #[.int .i64 qt, .slice A n c] w fun e w' => e = .returned (.bool true) ∧ Below w.heap.size w w' := by
  have HI := Lib.hid hA
  clear hA
  go_enter Try.func3, Try.ntmps3
  go_wp2_with fail
  refine (shown8_is w).mono ?_
  rintro e w1 ⟨rfl, hb1⟩
  have HO := Lib.hid (HI.out.below hb1)
  have HB1 := Lib.hid hb1
  clear hb1 HI
  go_wp2_with fail
  refine (new_l w1 qt (by unfold maxI; exact hq.2)).mono ?_
  rintro e w2 ⟨p, rfl, hL⟩
  have H2 := Lib.hid hL.lf
  clear hL
  go_wp2_with fail
  refine (rnew_any qt w2 (fun _ => False)).mono ?_
  rintro e w3 ⟨y, rfl, hr3, -, hb3⟩
  have H3 := Lib.hid (show TQ w1 w3 p y 0 (newD qt) (newD qt) from TQ.ref H2.out hr3 (Kp.of_new hb3))
  clear hr3 hb3 H2
  go_wp2_with fail
  go_loopw [6, 7, 8] (fun dv yv i wr => ∃ (j p y : Nat) (M : DK), j ≤ 60 ∧ i = .int .i64 (j : Int) ∧ dv = .pointer (some ⟨p, 0, none⟩) ∧ yv = .pointer (some ⟨y, 0, none⟩) ∧ Hid (TQ w1 wr p y (3 * j) M M) ∧ Hid (M.files.length ≤ 3 * j)) (fun _ _ i _ => 60 - (intOf i).toNat)
  case atStart => exact ⟨0, p, y, _, by omega, rfl, rfl, rfl, H3, Lib.hid (Nat.le_refl _)⟩
  case round =>
    clear H3
    obtain ⟨j, p, y, M, hj60, rfl, rfl, rfl, HT0, HF0⟩ := hrel
    have hA1 : IntKind.i64.wrap ((j : Int) + 1) = ((j + 1 : Nat) : Int) := by rw [IntKind.wrap_i64]; omega
    by_cases hlt : j < n ∧ j < 60
    · obtain ⟨hlt1, hlt2⟩ := hlt
      obtain ⟨b, off, o, rfl, hoe, hok, c0, c1, c2, c3, c4, c5⟩ := HO.out.at j hlt1
      have hbr := HT0.out.below
      replace c0 := keepc c0 hbr
      replace c1 := keepc c1 hbr
      replace c2 := keepc c2 hbr
      replace c3 := keepc c3 hbr
      replace c4 := keepc c4 hbr
      replace c5 := keepc c5 hbr
      obtain ⟨kd, nm, tn, bA, bn, bc, bz', num, lA, ln, lc, lz⟩ := o
      have HOK := Lib.hid hok
      have hkd := hok.kd
      clear hok hoe hbr
      simp only at c0 c1 c2 c3 c4 c5 hkd
      have hmod : kd.tmod 10 = kd % 10 := Int.tmod_eq_emod_of_nonneg hkd.1
      have hji : (j : Int) < (n : Int) := by omega
      have hj60i : (j : Int) < 60 := by omega
      have hbo : Below wr.heap.size wr (wr.alloc (.cells #[.int .u8 kd, .string nm, .string tn, .slice bA bn bc, .int .i64 num, .slice lA ln lc] 31)) := (Below.refl _ _).alloc (Nat.le_refl _) _
      have hBo := Bk.new wr #[.int .u8 kd, .string nm, .string tn, .slice bA bn bc, .int .i64 num, .slice lA ln lc] 31
      have HT1 := Lib.hid (HT0.out.keep hbo)
      have HTB := Lib.hid (HT0.out.box (.cells #[.int .u8 kd, .string nm, .string tn, .slice bA bn bc, .int .i64 num, .slice lA ln lc] 31))
      obtain ⟨m3, z3, hz3, hl3, hv3, hlo3, hf3⟩ := some_l HOK.out.l HOK.out.ll
      have hr3 : ∀ r ∈ z3, -9223372036854775808 ≤ r ∧ r ≤ maxI := fun r hr => HOK.out.lr r (by rw [hz3] at hr; exact List.mem_of_mem_take hr)
      have HS3 := Lib.hid (And.intro hv3 (And.intro hlo3 (And.intro hf3 hr3)))
      have hfac := Lib.hid (TQ.facts HT0.out (by omega) (by have := HF0.out; omega))
      have d0 := hBo.cell 0 (v := .int .u8 kd) rfl
      have d4 := hBo.cell 4 (v := .int .i64 num) rfl
      have d5 := hBo.cell 5 (v := .slice lA ln lc) rfl
      have hfl0 := HF0.out
      have HF1 := Lib.hid hfl0
      clear hbo hz3 hv3 hlo3 hf3 hr3 hfl0 HF0
      go_upto_region 10 with fail
      obtain ⟨g9, hg9⟩ : ∃ g9, wr.heap.size = g9 := ⟨_, rfl⟩
      rw [hg9] at HTB d0 d4 d5 hBo ⊢
      generalize (wr.alloc (.cells #[.int .u8 kd, .string nm, .string tn, .slice bA bn bc, .int .i64 num, .slice lA ln lc] 31)) = wA at *
      have HBo := Lib.hid hBo
      clear hg9 hBo c0 c1 c2 c3 c4 c5 HT0
      by_cases h6 : kd % 10 = 6
      · go_wp2_with fail
        refine wp_region_noPanic ?_
        refine region_g 6 (Old wA) (by kernel_rfl) ((Old.refl wA).drew) (fun hS => ?_)
        refine take_w (i := 0) (v := ?_) (some 53) rfl (by kernel_rfl) rfl (fun _ _ _ h => h) (Or.inl ⟨by rfl, ?_⟩) hS ?_
        rotate_left
        · (intro wq hq; go_simp); first | done | with_reducible rfl
        try simp only [Act.put, List.setIfInBounds_toArray, List.set_cons_zero, List.set_cons_succ]
        replace hS := Till.list 0 hS
        refine take_w (i := 1) (v := ?_) (some 54) rfl (by kernel_rfl) rfl (fun _ _ _ h => h) (Or.inl ⟨by rfl, ?_⟩) hS ?_
        rotate_left
        · (intro wq hq; go_simp); first | done | with_reducible rfl
        try simp only [Act.put, List.setIfInBounds_toArray, List.set_cons_zero, List.set_cons_succ]
        replace hS := Till.list 1 hS
        refine take_w (i := 3) (v := ?_) (some 56) rfl (by kernel_rfl) rfl (fun _ _ _ h => h) (Or.inl ⟨by rfl, ?_⟩) hS ?_
        rotate_left
        · (intro wq hq; go_simp); first | done | with_reducible rfl
        try simp only [Act.put, List.setIfInBounds_toArray, List.set_cons_zero, List.set_cons_succ]
        replace hS := Till.list 3 hS
        refine take_g (i := 2) (v := ?_) [2] (some 55) rfl (by kernel_rfl) rfl (fun _ _ _ h => h) (Or.inl ⟨by rfl, ?_⟩) hS ?_
        rotate_left
        · (intro wq hq; have r2 := hq.cell d4; have r3 := hq.cell d5; go_simp); first | done | with_reducible rfl
        try simp only [Act.put, List.setIfInBounds_toArray, List.set_cons_zero, List.set_cons_succ]
        replace hS := Till.list 2 hS
        refine take_g (i := 4) (v := ?_) [5, 4] (some 57) rfl (by kernel_rfl) rfl (fun _ _ _ h => h) (Or.inl ⟨by rfl, ?_⟩) hS ?_
        rotate_left
        · (intro wq hq; have r2 := hq.cell d4; have r3 := hq.cell d5; go_simp); first | done | with_reducible rfl
        try simp only [Act.put, List.setIfInBounds_toArray, List.set_cons_zero, List.set_cons_succ]
        replace hS := Till.list 4 hS
        refine ready_g (rs := [5]) (by kernel_rfl) (by simp) ?_
        refine AllReadyG.cons rfl (fun Kont hK => ?_) AllReadyG.nil
        go_simp
        refine (HS3.out.2.2.1 _ HT1.out.below.drew).mono ?_
        rintro e w5 ⟨rfl, e5⟩
        subst e5
        refine hK.out _ _ (Or.inr ((hS.get (by kernel_rfl)))) (fun hS0 => ?_)
        clear hK Kont
        try simp only [Act.put, List.setIfInBounds_toArray, List.set_cons_zero, List.set_cons_succ]
        clear hS
        have hS := hS0
        clear hS0
        refine ready_g (rs := [6]) (by kernel_rfl) (by simp) ?_
        refine AllReadyG.cons rfl (fun Kont hK => ?_) AllReadyG.nil
        go_simp
        refine (crash_b (HT1.out.keep ((Below.refl _ _).drew)) (by omega) num lA m3 lc z3 HS3.out.1 (by omega) HS3.out.2.2.2).mono ?_
        rintro e w5 ⟨p5, rfl, hT5, hb5⟩
        have H5 := Lib.hid hT5
        replace d4 := keepc d4 (((Below.refl _ _).drew).trans hb5)
        replace d5 := keepc d5 (((Below.refl _ _).drew).trans hb5)
        clear hT5 hb5
        refine hK.out _ _ (Or.inl (by kernel_rfl)) (fun hS0 => ?_)
        clear hK Kont
        try simp only [Act.put, List.setIfInBounds_toArray, List.set_cons_zero, List.set_cons_succ]
        clear hS
        have hS := hS0
        clear hS0
        refine take_w (i := 7) (v := ?_) (some 6) rfl (by kernel_rfl) rfl (fun _ _ _ h => h) (Or.inl ⟨by rfl, ?_⟩) hS ?_
        rotate_left
        · (intro wq hq; go_simp); first | done | with_reducible rfl
        try simp only [Act.put, List.setIfInBounds_toArray, List.set_cons_zero, List.set_cons_succ]
        replace hS := Till.list 7 hS
        refine done_g (by kernel_rfl) (NoPanic.normal ?_) _
        clear hS
        go_wp2_with fail
        refine wp_region_noPanic ?_
        refine region_g 6 (Old w5) (by kernel_rfl) ((Old.refl w5).drew) (fun hS => ?_)
        refine take_w (i := 0) (v := ?_) (some 60) rfl (by kernel_rfl) rfl (fun _ _ _ h => h) (Or.inl ⟨by rfl, ?_⟩) hS ?_
        rotate_left
        · (intro wq hq; go_simp); first | done | with_reducible rfl
        try simp only [Act.put, List.setIfInBounds_toArray, List.set_cons_zero, List.set_cons_succ]
        replace hS := Till.list 0 hS
        refine take_w (i := 1) (v := ?_) (some 61) rfl (by kernel_rfl) rfl (fun _ _ _ h => h) (Or.inl ⟨by rfl, ?_⟩) hS ?_
        rotate_left
        · (intro wq hq; go_simp); first | done | with_reducible rfl
        try simp only [Act.put, List.setIfInBounds_toArray, List.set_cons_zero, List.set_cons_succ]
        replace hS := Till.list 1 hS
        refine take_w (i := 3) (v := ?_) (some 63) rfl (by kernel_rfl) rfl (fun _ _ _ h => h) (Or.inl ⟨by rfl, ?_⟩) hS ?_
        rotate_left
        · (intro wq hq; go_simp); first | done | with_reducible rfl
        try simp only [Act.put, List.setIfInBounds_toArray, List.set_cons_zero, List.set_cons_succ]
        replace hS := Till.list 3 hS
        refine take_g (i := 2) (v := ?_) [2] (some 62) rfl (by kernel_rfl) rfl (fun _ _ _ h => h) (Or.inl ⟨by rfl, ?_⟩) hS ?_
        rotate_left
        · (intro wq hq; have r2 := hq.cell d4; have r3 := hq.cell d5; go_simp); first | done | with_reducible rfl
        try simp only [Act.put, List.setIfInBounds_toArray, List.set_cons_zero, List.set_cons_succ]
        replace hS := Till.list 2 hS
        refine take_g (i := 4) (v := ?_) [5, 4] (some 64) rfl (by kernel_rfl) rfl (fun _ _ _ h => h) (Or.inl ⟨by rfl, ?_⟩) hS ?_
        rotate_left
        · (intro wq hq; have r2 := hq.cell d4; have r3 := hq.cell d5; go_simp); first | done | with_reducible rfl
        try simp only [Act.put, List.setIfInBounds_toArray, List.set_cons_zero, List.set_cons_succ]
        replace hS := Till.list 4 hS
        refine ready_g (rs := [5]) (by kernel_rfl) (by simp) ?_
        refine AllReadyG.cons rfl (fun Kont hK => ?_) AllReadyG.nil
        go_simp
        refine (HS3.out.2.2.1 _ H5.out.below.drew).mono ?_
        rintro e w6 ⟨rfl, e5⟩
        subst e5
        refine hK.out _ _ (Or.inr ((hS.get (by kernel_rfl)))) (fun hS0 => ?_)
        clear hK Kont
        try simp only [Act.put, List.setIfInBounds_toArray, List.set_cons_zero, List.set_cons_succ]
        clear hS
        have hS := hS0
        clear hS0
        refine ready_g (rs := [6]) (by kernel_rfl) (by simp) ?_
        refine AllReadyG.cons rfl (fun Kont hK => ?_) AllReadyG.nil
        go_simp
        refine (rcrash_t (H5.out.keep ((Below.refl _ _).drew)) hfac.out.1 hfac.out.2.1 hfac.out.2.2.2.1 num lA m3 lc z3 HS3.out.1 (by omega) HS3.out.2.2.2).mono ?_
        rintro e w6 ⟨y6, rfl, hT6⟩
        have HT := Lib.hid hT6
        have HFl := Lib.hid (show (crashD M num z3).files.length ≤ 3 * j + 3 by have := files_crash M num z3; have := hfac.out.2.2.2.2.2; omega)
        clear hT6 d4 d5 H5
        refine hK.out _ _ (Or.inl (by kernel_rfl)) (fun hS0 => ?_)
        clear hK Kont
        try simp only [Act.put, List.setIfInBounds_toArray, List.set_cons_zero, List.set_cons_succ]
        clear hS
        have hS := hS0
        clear hS0
        refine take_w (i := 7) (v := ?_) (some 7) rfl (by kernel_rfl) rfl (fun _ _ _ h => h) (Or.inl ⟨by rfl, ?_⟩) hS ?_
        rotate_left
        · (intro wq hq; go_simp); first | done | with_reducible rfl
        try simp only [Act.put, List.setIfInBounds_toArray, List.set_cons_zero, List.set_cons_succ]
        replace hS := Till.list 7 hS
        refine done_g (by kernel_rfl) (NoPanic.normal ?_) _
        clear hS
        go_wp2_with fail
        obtain ⟨I9, hl9, hr9⟩ := HT.out
        obtain ⟨s1, s2, s3, s4, s5, s6⟩ := TQ.facts HT.out (by omega) (by have := HFl.out; omega)
        refine (seen_any hl9.ld (by omega) hr9 s1 s3 s4 s5).mono ?_
        rintro e w9 ⟨rfl, hb9⟩
        have HT9 := Lib.hid (HT.out.keep hb9)
        clear hl9 hr9 s1 s2 s3 s4 s5 s6 hb9
        go_wp2_with fail
        go_roundw
        case rel => exact ⟨j + 1, _, _, _, by omega, by rfl, rfl, rfl, Lib.hid (HT9.out.more (by omega)), Lib.hid (by have := HFl.out; omega)⟩
        case measure => simp only [intOf]; omega
      · by_cases h7 : kd % 10 = 7
        · have hconv2 := fun wx => Lib.run_convert_bytes_const (P := Try.prog) wx 28 5 #[.int .u8 122, .int .u8 122] 2 2 Try.underlying28 Try.underlying5
          go_wp2_with fail
          refine (clone_t HT1.out (by omega)).mono ?_
          rintro e w5 ⟨q5, rfl, hC5⟩
          have H5 := Lib.hid hC5
          clear hC5 d0 d4 d5
          go_wp2_with fail
          refine (create_c H5.out (by omega) { data := #[111, 116, 104, 101, 114] } (by decide)).mono ?_
          rintro e w6 ⟨v6, N6, rfl, hC6⟩
          have H6 := Lib.hid hC6
          clear hC6 H5
          go_wp2_with fail
          refine (remove_c H6.out (by omega) { data := #[97] } (by decide)).mono ?_
          rintro e w7 ⟨v7, N7, rfl, hC7⟩
          have H7 := Lib.hid hC7
          clear hC7 H6
          go_wp2_with fail
          refine (append_c H7.out (by omega) ((Below.refl _ _).alloc (Nat.le_refl _) _) { data := #[98] } (by decide) (some ⟨w7.heap.size, 0, none⟩) 2 2 [122, 122] (bvC w7 [122, 122] 2 _ _ _ rfl rfl (by decide)) (by omega) (by omega) (fun x hx => by cases hx; exact ⟨Nat.le_refl _, by simp⟩)).mono ?_
          rintro e w8 ⟨v8, N8, rfl, hC8⟩
          have HT := Lib.hid hC8.end_
          have HFl := Lib.hid (show M.files.length ≤ 3 * j + 3 by have := HF1.out; omega)
          clear hC8 H7 hconv2
          go_wp2_with fail
          obtain ⟨I9, hl9, hr9⟩ := HT.out
          obtain ⟨s1, s2, s3, s4, s5, s6⟩ := TQ.facts HT.out (by omega) (by have := HFl.out; omega)
          refine (seen_any hl9.ld (by omega) hr9 s1 s3 s4 s5).mono ?_
          rintro e w9 ⟨rfl, hb9⟩
          have HT9 := Lib.hid (HT.out.keep hb9)
          clear hl9 hr9 s1 s2 s3 s4 s5 s6 hb9
          go_wp2_with fail
          go_roundw
          case rel => exact ⟨j + 1, _, _, _, by omega, by rfl, rfl, rfl, Lib.hid (HT9.out.more (by omega)), Lib.hid (by have := HFl.out; omega)⟩
          case measure => simp only [intOf]; omega
        · by_cases h8 : kd % 10 = 8
          · go_wp2_with fail
            refine (HS3.out.2.2.1 _ HT1.out.below).mono ?_
            rintro e w5 ⟨rfl, e5⟩
            subst e5
            go_wp2_with fail
            refine (fail_b HTB.out lA m3 lc z3 HS3.out.1 (by omega) HS3.out.2.1 HS3.out.2.2.2).mono ?_
            rintro e w5 ⟨rfl, hT5, hb5⟩
            have H5 := Lib.hid hT5
            have hB5 : Bk w5 g9 _ 31 := hb5.trans HBo.out
            replace d5 := hB5.cell 5 (v := .slice lA ln lc) rfl
            clear hT5 hb5 hB5 d0 d4
            go_wp2_with fail
            refine (HS3.out.2.2.1 _ H5.out.below).mono ?_
            rintro e w6 ⟨rfl, e5⟩
            subst e5
            go_wp2_with fail
            refine (rfail_t H5.out lA m3 lc z3 HS3.out.1 (by omega)).mono ?_
            rintro e w6 ⟨rfl, hT6⟩
            have HT := Lib.hid hT6
            have HFl := Lib.hid (show (failD M z3).files.length ≤ 3 * j + 3 by have := HF1.out; show M.files.length ≤ _; omega)
            clear hT6 d5 H5
            go_wp2_with fail
            obtain ⟨I9, hl9, hr9⟩ := HT.out
            obtain ⟨s1, s2, s3, s4, s5, s6⟩ := TQ.facts HT.out (by omega) (by have := HFl.out; omega)
            refine (seen_any hl9.ld (by omega) hr9 s1 s3 s4 s5).mono ?_
            rintro e w9 ⟨rfl, hb9⟩
            have HT9 := Lib.hid (HT.out.keep hb9)
            clear hl9 hr9 s1 s2 s3 s4 s5 s6 hb9
            go_wp2_with fail
            go_roundw
            case rel => exact ⟨j + 1, _, _, _, by omega, by rfl, rfl, rfl, Lib.hid (HT9.out.more (by omega)), Lib.hid (by have := HFl.out; omega)⟩
            case measure => simp only [intOf]; omega
          · by_cases h9 : kd % 10 = 9
            · go_wp2_with fail
              refine (limit_b HTB.out num (by unfold maxI; exact HOK.out.num.2)).mono ?_
              rintro e w5 ⟨rfl, hT5, hb5⟩
              have H5 := Lib.hid hT5
              have hB5 : Bk w5 g9 _ 31 := hb5.trans HBo.out
              replace d4 := hB5.cell 4 (v := .int .i64 num) rfl
              clear hT5 hb5 hB5 d0 d5
              go_wp2_with fail
              refine (rlimit_t H5.out num).mono ?_
              rintro e w6 ⟨rfl, hT6⟩
              have HT := Lib.hid hT6
              have HFl := Lib.hid (show (limitD M num).files.length ≤ 3 * j + 3 by have := HF1.out; show M.files.length ≤ _; omega)
              clear hT6 d4 H5
              go_wp2_with fail
              obtain ⟨I9, hl9, hr9⟩ := HT.out
              obtain ⟨s1, s2, s3, s4, s5, s6⟩ := TQ.facts HT.out (by omega) (by have := HFl.out; omega)
              refine (seen_any hl9.ld (by omega) hr9 s1 s3 s4 s5).mono ?_
              rintro e w9 ⟨rfl, hb9⟩
              have HT9 := Lib.hid (HT.out.keep hb9)
              clear hl9 hr9 s1 s2 s3 s4 s5 s6 hb9
              go_wp2_with fail
              go_roundw
              case rel => exact ⟨j + 1, _, _, _, by omega, by rfl, rfl, rfl, Lib.hid (HT9.out.more (by omega)), Lib.hid (by have := HFl.out; omega)⟩
              case measure => simp only [intOf]; omega
            · have d1 := HBo.out.cell 1 (v := .string nm) rfl
              have d2 := HBo.out.cell 2 (v := .string tn) rfl
              have d3 := HBo.out.cell 3 (v := .slice bA bn bc) rfl
              go_wp2_with fail
              refine (does_b HTB.out (by omega) kd num nm tn bA bn bc bz' _ hkd HOK.out.nm HOK.out.tn HOK.out.b HOK.out.bl).mono ?_
              rintro e w5 ⟨rfl, hT5, hb5⟩
              have H5 := Lib.hid hT5
              have hB5 : Bk w5 g9 _ 31 := hb5.trans HBo.out
              replace d0 := hB5.cell 0 (v := .int .u8 kd) rfl
              replace d4 := hB5.cell 4 (v := .int .i64 num) rfl
              replace d5 := hB5.cell 5 (v := .slice lA ln lc) rfl
              replace d1 := hB5.cell 1 (v := .string nm) rfl
              replace d2 := hB5.cell 2 (v := .string tn) rfl
              replace d3 := hB5.cell 3 (v := .slice bA bn bc) rfl
              have HFl := Lib.hid (show (doesD M (kd % 10).toNat (sh24 nm) (sh24 tn) (bz'.take 100)).1.files.length ≤ 3 * j + 3 by have := HF1.out; have := files_does M (kd % 10).toNat (sh24 nm) (sh24 tn) (bz'.take 100); omega)
              clear hT5 hb5 hB5
              go_wp2_with fail
              refine (did_t H5.out hfac.out.1 hfac.out.2.2.1 hfac.out.2.2.2.1 kd num nm tn bA bn bc bz' _ hkd HOK.out.nm HOK.out.tn HOK.out.b HOK.out.bl).mono ?_
              rintro e w6 ⟨rfl, hT6⟩
              have HT := Lib.hid hT6
              generalize (doesD M (kd % 10).toNat (sh24 nm) (sh24 tn) (bz'.take 100)) = DN at *
              obtain ⟨M', er⟩ := DN
              simp only at *
              clear hT6 d0 d1 d2 d3 d4 d5 H5
              go_wp2_with fail
              obtain ⟨I9, hl9, hr9⟩ := HT.out
              obtain ⟨s1, s2, s3, s4, s5, s6⟩ := TQ.facts HT.out (by omega) (by have := HFl.out; omega)
              refine (seen_any hl9.ld (by omega) hr9 s1 s3 s4 s5).mono ?_
              rintro e w9 ⟨rfl, hb9⟩
              have HT9 := Lib.hid (HT.out.keep hb9)
              clear hl9 hr9 s1 s2 s3 s4 s5 s6 hb9
              go_wp2_with fail
              go_roundw
              case rel => exact ⟨j + 1, _, _, _, by omega, by rfl, rfl, rfl, Lib.hid (HT9.out.more (by omega)), Lib.hid (by have := HFl.out; omega)⟩
              case measure => simp only [intOf]; omega
    · rcases (show (j < n ∧ ¬ j < 60) ∨ ¬ j < n from by omega) with ⟨hk1, hk2⟩ | hk1
      · have hj1 : (j : Int) < (n : Int) := by omega
        have hj3 : ¬ (j : Int) < 60 := by omega
        go_wp2_with fail
        go_ret
        exact ⟨rfl, HB1.out.trans (HT0.out.below.mono HB1.out.size)⟩
      · have hj1 : ¬ (j : Int) < (n : Int) := by omega
        go_wp2_with fail
        go_ret
        exact ⟨rfl, HB1.out.trans (HT0.out.below.mono HB1.out.size)⟩
end Go.Proofs.Ytlagmjdldplblaa
/-
  DiskPlays: for every number and every slice of things that are done the statement's function returns true, and its arguments read as they did. No condition.
-/
namespace Go.Proofs.Ytlagmjdldplblaa.diskPlays
open Go.ChangeShapes Go.WideShapes Go.ChangeAt Go.RowKit
set_option linter.unusedVariables false
set_option maxRecDepth 4000

set_option maxRecDepth 100000 in
theorem lifted (os : Os) (started : os.Started) (H : Type) (enc : TypeId × Value → H) :
    ReturnsInHanded {} Try.checked os 3 .any (Rows.diskPlaysSpec.pre6 enc Try.prog Try.f3 Rows.diskPlaysRow.domain false) (Rows.diskPlaysSpec.post enc Try.prog Try.f3 false true false false) := by
  refine returnsInHanded_of_change (C := Try.checked) own started (by kernel_rfl) Try.func3
    (ChangeSpec.witness6 (enc := enc) (C := Try.checked) false ⟨#[], #[.int .i64 0, .slice none 0 0], []⟩ 8 (by kernel_rfl) (by kernel_rfl) (by kernel_rfl) (by kernel_rfl)) ?_
  intro W base args ds gs before hval0 hW hcnd _
  have hval : ∀ (j : Nat) t v, Try.f3.params[j]? = some t → args[j]? = some v → Value.okWide Try.prog W .any base t v := hval0
  have hW' := hW
  obtain ⟨p, q, hA0, hV, rfl, hfz, hnd⟩ := hW
  have hA : DataW.TrodAll enc Try.prog W 0 (fun _ => true) true Try.f3.params.toList args.toList ds p := hA0
  rw [Try.params3] at hA hval
  obtain ⟨v0, vs0, d0, ds0, p0, q0, hargs0, rfl, rfl, h0, r0⟩ := trodAll_cons hA
  obtain ⟨v1, vs1, d1, ds1, p1, q1, hargs1, hds1, hq1, h1, r1⟩ := trodAll_cons r0
  obtain ⟨hn1, hn2, hn3⟩ := trodAll_nil r1
  subst hn2 hn3
  subst hds1 hq1
  obtain rfl : args = #[v0, v1] := by cases args; simp_all
  obtain ⟨rfl, rfl⟩ := trodVars_none hV
  have rd0 := h0
  have lt0 : ∀ x ∈ p0, x.block < W.heap.size := by obtain ⟨m, hm⟩ := rd0; exact DataW.trod_lt m _ _ _ hm
  obtain ⟨a0, rfl, B0⟩ := open_gint8 (hval 0 3 v0 rfl rfl) h0
  have rd1 := h1
  have lt1 : ∀ x ∈ p1, x.block < W.heap.size := by obtain ⟨m, hm⟩ := rd1; exact DataW.trod_lt m _ _ _ hm
  obtain ⟨A1, n1, c1, os1, rfl, W1⟩ := open_ops8 (hval 1 22 v1 rfl rfl) h1
  clear hA0 hval0
  refine (plays8_is a0 A1 n1 c1 os1 W B0 W1).mono fun e W' ⟨he, bel⟩ => ?_
  subst he
  exact ⟨_, rfl, _, _, _, [], _, [], hW', trodAll_mk1 (shut_bool Try.underlying4 _), (trodAll_cons_mk (Below.trod laidOut (by kernel_rfl) (of_decide_eq_true (by kernel_rfl)) rd0 bel lt0) (trodAll_cons_mk (Below.trod laidOut (by kernel_rfl) (of_decide_eq_true (by kernel_rfl)) rd1 bel lt1) trodAll_mk0)), rfl, bel.frame _, fun h => by cases h⟩

theorem over : Rows.diskPlaysRow.holds Try.pinned (OpenSpec.ofChange Rows.diskPlaysSpec) :=
  OpenClaim.holds_of_wide 3 Try.f3 rfl rfl rfl rfl rfl rfl rfl ⟨rfl, rfl, rfl, rfl, rfl⟩ rfl rfl rfl rfl rfl (by kernel_rfl) Try.func3 (by kernel_rfl)
    (of_decide_eq_true (by kernel_rfl)) (by unfold Func.isWrapper; first | (rw [if_pos (by decide +kernel)]; kernel_rfl) | (rw [if_neg (by decide +kernel)]; exact ⟨rfl, rfl⟩))
    (fun os started H enc _ => lifted os started H enc)
end Go.Proofs.Ytlagmjdldplblaa.diskPlays
namespace Go.Proofs.Ytlagmjdldplblaa
theorem diskPlays_holds : Rows.DiskPlaysSaid := diskPlays.over
end Go.Proofs.Ytlagmjdldplblaa
