/-
  DiskSafe: for every case (things that are done ahead and behind, how many changes, how many tails) and every slice of bytes the statement's function returns true, and its arguments read as they did. No condition.
-/
import Derived.Test.YtlagmjdldplblaaBase
import Derived.Lib.SmallJoins
import Derived.Test.YtlagmjdldplblaaDiskF
import Derived.Test.YtlagmjdldplblaaDiskA
import Derived.Deep.CutBlock
import Derived.Deep.DeepCutAuto
import Derived.Test.YtlagmjdldplblaaRows
import Derived.WalkKit
import Derived.ProofKit
import Derived.OpenShut
import Derived.ShutString
import Derived.ChangeOld
import Derived.Below
/- How the statements' arguments come in: a number and ints in one struct. -/
namespace Go.Proofs.Ytlagmjdldplblaa
open Go.ChangeShapes Go.WideShapes Go.ChangeAt Go.RowKit
set_option linter.unusedVariables false
set_option maxRecDepth 4000

section
variable {H : Type} {enc : TypeId × Value → H} {w : World} {base fuel : Nat} {spare : Nat → Bool} {held : Bool}
theorem int8_of {t : TypeId} (ht : Try.prog.underlying t = some (.int .i64)) {c : Value} {y : DataW H × List MemPlace} (h : DataW.trod enc Try.prog w base spare held fuel t [c] = some y) : ∃ z : Int, c = .int .i64 z ∧ -9223372036854775808 ≤ z ∧ z ≤ 9223372036854775807 := by
  obtain ⟨z, hz, _, wz⟩ := DataW.trod_int ht h
  have := bounds_i64 wz
  exact ⟨z, by simpa using hz, this.1, this.2⟩
theorem open_left {r : Reach} {b0 : Nat} {v : Value} {d : DataW H} {p : List MemPlace} (hv : Value.okWide Try.prog w r b0 63 v) (h : DataW.Trod enc Try.prog w base spare held 63 v d p) :
    ∃ (x : Int) (A : Option Addr) (n c : Nat) (ts : List Int), v = .agg #[.int .i64 x, .slice A n c] ∧ IV w A n ts ∧ n ≤ c ∧ (-9223372036854775808 ≤ x ∧ x ≤ 9223372036854775807) ∧ Rgs ts := by
  obtain ⟨v0, v1, y0, y1, f, rfl, -, -, h0, h1⟩ := Joins.open_agg2 Try.underlying63 (by kernel_rfl) (by kernel_rfl) hv h
  obtain ⟨x, rfl, hx⟩ := int8_of Try.underlying3 h0
  obtain ⟨A, n, c, ts, hc, q1, q2, q3, q4, q5, q6⟩ := open_intsS Try.underlying29 (by kernel_rfl) Try.underlying3 h1
  simp only [List.cons.injEq, and_true] at hc
  subst hc
  exact ⟨x, A, n, c, ts, rfl, q5, q1, hx, q4⟩
theorem open_gint8 {r : Reach} {b0 : Nat} {v : Value} {d : DataW H} {p : List MemPlace} (hv : Value.okWide Try.prog w r b0 3 v) (h : DataW.Trod enc Try.prog w base spare held 3 v d p) : ∃ a : Int, v = .int .i64 a ∧ (-9223372036854775808 ≤ a ∧ a ≤ 9223372036854775807) := by
  obtain ⟨a, rfl, -, -, wa⟩ := open_int Try.underlying3 hv h
  exact ⟨a, rfl, bounds_i64 wa⟩
end
end Go.Proofs.Ytlagmjdldplblaa
/- How the statements' arguments come in: rows of things that are done (structs of six cells). -/
namespace Go.Proofs.Ytlagmjdldplblaa
open Go.ChangeShapes Go.WideShapes Go.ChangeAt Go.RowKit
set_option linter.unusedVariables false
set_option maxRecDepth 4000

/-- something that is done -/
structure Op8 where
  kd : Int
  nm : ByteArray
  tn : ByteArray
  bA : Option Addr
  bn : Nat
  bc : Nat
  bz : List Int
  num : Int
  lA : Option Addr
  ln : Nat
  lc : Nat
  lz : List Int
def Op8.cells (o : Op8) : List Value := [.int .u8 o.kd, .string o.nm, .string o.tn, .slice o.bA o.bn o.bc, .int .i64 o.num, .slice o.lA o.ln o.lc]
structure OpOk (w : World) (o : Op8) : Prop where
  kd : 0 ≤ o.kd ∧ o.kd ≤ 255
  nm : o.nm.size ≤ maxLen
  tn : o.tn.size ≤ maxLen
  b : BV w o.bA o.bn o.bz
  bl : o.bn ≤ o.bc
  num : -9223372036854775808 ≤ o.num ∧ o.num ≤ 9223372036854775807
  l : IV w o.lA o.ln o.lz
  ll : o.ln ≤ o.lc
  lr : Rgs o.lz
theorem OpOk.below {w w' : World} {o : Op8} (h : OpOk w o) (hb : Below w.heap.size w w') : OpOk w' o := ⟨h.kd, h.nm, h.tn, h.b.below hb, h.bl, h.num, SV.below h.l hb, h.ll, h.lr⟩
def op0 : Op8 := ⟨0, ⟨#[]⟩, ⟨#[]⟩, none, 0, 0, [], 0, none, 0, 0, []⟩
/-- the slice at A of n things that are done -/
def OPs (w : World) (A : Option Addr) (n : Nat) (os : List Op8) : Prop :=
  os.length = n ∧ (n = 0 ∨ ∃ b off, A = some ⟨b, off, none⟩ ∧ ∀ i, i < n → (∀ k, k < 6 → w.cell? ⟨b, off + i * 6 + k, none⟩ = (os.getD i op0).cells[k]?) ∧ OpOk w (os.getD i op0))
theorem OPs.below {w w' : World} {A : Option Addr} {n : Nat} {os : List Op8} (h : OPs w A n os) (hb : Below w.heap.size w w') : OPs w' A n os := by
  refine ⟨h.1, h.2.imp id ?_⟩
  rintro ⟨b, off, rfl, hc⟩
  refine ⟨b, off, rfl, fun i hi => ⟨fun k hk => ?_, (hc i hi).2.below hb⟩⟩
  have h1 := (hc i hi).1 k hk
  obtain ⟨v, hv⟩ : ∃ v, (os.getD i op0).cells[k]? = some v := by
    have hl : (os.getD i op0).cells.length = 6 := rfl
    exact ⟨_, List.getElem?_eq_getElem (by omega)⟩
  rw [hv] at h1 ⊢
  exact keepc h1 hb
theorem OPs.at {w : World} {A : Option Addr} {n : Nat} {os : List Op8} (h : OPs w A n os) (i : Nat) (hi : i < n) : ∃ b off o, A = some ⟨b, off, none⟩ ∧ o = os.getD i op0 ∧ OpOk w o ∧
    w.cell? ⟨b, off + i * 6, none⟩ = some (.int .u8 o.kd) ∧ w.cell? ⟨b, off + i * 6 + 1, none⟩ = some (.string o.nm) ∧ w.cell? ⟨b, off + i * 6 + 2, none⟩ = some (.string o.tn) ∧
    w.cell? ⟨b, off + i * 6 + 3, none⟩ = some (.slice o.bA o.bn o.bc) ∧ w.cell? ⟨b, off + i * 6 + 4, none⟩ = some (.int .i64 o.num) ∧ w.cell? ⟨b, off + i * 6 + 5, none⟩ = some (.slice o.lA o.ln o.lc) := by
  rcases h.2 with h0 | ⟨b, off, rfl, hc⟩
  · omega
  · obtain ⟨h1, h2⟩ := hc i hi
    exact ⟨b, off, _, rfl, rfl, h2, h1 0 (by omega), h1 1 (by omega), h1 2 (by omega), h1 3 (by omega), h1 4 (by omega), h1 5 (by omega)⟩
section
variable {H : Type} {enc : TypeId × Value → H} {w : World} {base fuel : Nat} {held : Bool}
theorem bytes_cells {cs : List Value} {x : DataW H × List MemPlace} (hf : DataW.trod enc Try.prog w base (fun _ => true) held fuel 28 cs = some x) :
    ∃ (A : Option Addr) (n c : Nat) (zs : List Int), cs = [.slice A n c] ∧ BV w A n zs ∧ n ≤ c := by
  rcases open_ints Try.underlying28 Try.underlying5 (by kernel_rfl) hf with ⟨hcs, _⟩ | ⟨x, l, c, zs, hcs, _, hl, hm, hz, _, hcell, hwz⟩
  · exact ⟨none, 0, 0, [], hcs, (bv_of (w := w) (a := none) (len := 0) (cap := 0) (zs := []) (.inl ⟨rfl, rfl, rfl, rfl⟩)).1, Nat.le_refl _⟩
  · exact ⟨_, _, _, _, hcs, (bv_of (w := w) (a := some x) (zs := zs) (.inr ⟨x, rfl, hl, hm, by simpa using hz, hcell, hwz⟩)).1, hl⟩
theorem struct6 {P : Program} {t : TypeId} {f0 f1 f2 f3 f4 f5 : Field} {spare : Nat → Bool} {cs : List Value} {x : DataW H × List MemPlace} (hs : P.underlying t = some (.struct #[f0, f1, f2, f3, f4, f5])) (hone : Go.Deep.oneCellFields P #[f0, f1, f2, f3, f4, f5] = true) (hC : P.cellsOf t = 6)
    (h : DataW.trod enc P w base spare held fuel t cs = some x) :
    ∃ (v0 v1 v2 v3 v4 v5 : Value) (y0 y1 y2 y3 y4 y5 : DataW H × List MemPlace) (n : Nat), cs = [v0, v1, v2, v3, v4, v5] ∧
      DataW.trod enc P w base spare held n f0.type [v0] = some y0 ∧ DataW.trod enc P w base spare held n f1.type [v1] = some y1 ∧ DataW.trod enc P w base spare held n f2.type [v2] = some y2 ∧
      DataW.trod enc P w base spare held n f3.type [v3] = some y3 ∧ DataW.trod enc P w base spare held n f4.type [v4] = some y4 ∧ DataW.trod enc P w base spare held n f5.type [v5] = some y5 := by
  obtain ⟨xs, n, _, _, hl, hlen, hf⟩ := DataW.trod_struct hs h
  have hl6 : cs.length = 6 := hl.trans hC
  match cs, hl6 with
  | [c0, c1, c2, c3, c4, c5], _ =>
  match xs, hlen with
  | [y0, y1, y2, y3, y4, y5], _ =>
  obtain ⟨o0, k0⟩ := Go.Deep.hone_of hone 0 f0 rfl
  obtain ⟨o1, k1⟩ := Go.Deep.hone_of hone 1 f1 rfl
  obtain ⟨o2, k2⟩ := Go.Deep.hone_of hone 2 f2 rfl
  obtain ⟨o3, k3⟩ := Go.Deep.hone_of hone 3 f3 rfl
  obtain ⟨o4, k4⟩ := Go.Deep.hone_of hone 4 f4 rfl
  obtain ⟨o5, k5⟩ := Go.Deep.hone_of hone 5 f5 rfl
  exact ⟨c0, c1, c2, c3, c4, c5, y0, y1, y2, y3, y4, y5, n, rfl, by simpa [o0, k0] using hf 0 f0 rfl, by simpa [o1, k1] using hf 1 f1 rfl, by simpa [o2, k2] using hf 2 f2 rfl,
    by simpa [o3, k3] using hf 3 f3 rfl, by simpa [o4, k4] using hf 4 f4 rfl, by simpa [o5, k5] using hf 5 f5 rfl⟩
theorem op_of {cs : List Value} {x : DataW H × List MemPlace} (h : DataW.trod enc Try.prog w base (fun _ => true) held fuel 31 cs = some x) : ∃ o : Op8, cs = o.cells ∧ OpOk w o := by
  obtain ⟨v0, v1, v2, v3, v4, v5, y0, y1, y2, y3, y4, y5, n, rfl, f0, f1, f2, f3, f4, f5⟩ := struct6 Try.underlying31 (by kernel_rfl) (by kernel_rfl) h
  obtain ⟨kd, rfl, hk⟩ := u8_of f0 rfl
  obtain ⟨s, hs, _, hsl⟩ := DataW.trod_string Try.underlying9 f1
  obtain ⟨t, ht, _, htl⟩ := DataW.trod_string Try.underlying9 f2
  obtain ⟨A, m, c, zs, hb, hbv, hbc⟩ := bytes_cells f3
  obtain ⟨z, rfl, hz⟩ := int8_of Try.underlying3 f4
  obtain ⟨L, q, r, ts, hc, q1, q2, q3, q4, q5, q6⟩ := open_intsS Try.underlying29 (by kernel_rfl) Try.underlying3 f5
  simp only [List.cons.injEq, and_true] at hs ht hb hc
  subst hs ht hb hc
  exact ⟨⟨kd, s, t, A, m, c, zs, z, L, q, r, ts⟩, rfl, ⟨hk, hsl, htl, hbv, hbc, hz, q5, q1, q4⟩⟩
theorem ops_of {cs : List Value} {x : DataW H × List MemPlace} (h : DataW.trod enc Try.prog w base (fun _ => true) held fuel 22 cs = some x) :
    ∃ (A : Option Addr) (n c : Nat) (os : List Op8), cs = [.slice A n c] ∧ OPs w A n os := by
  rcases Go.Deep.open_slice Try.underlying22 h with ⟨hcs, _⟩ | ⟨a, len, cap, m, n, D, Pl, hcs, hb, hl, hm, hmm, _, he⟩
  · exact ⟨none, 0, 0, [], hcs, rfl, .inl rfl⟩
  · have k6 : Try.prog.cellsOf 31 = 6 := by kernel_rfl
    rw [k6] at he
    have hlm : len ≤ m := by rw [hmm]; simpa using hl
    have each : ∀ i, i < len → ∃ o : Op8, (∀ k, k < 6 → w.cell? ((a.add (i * 6)).add k) = o.cells[k]?) ∧ OpOk w o := by
      intro i hi
      obtain ⟨cs', h1, h2⟩ := he i (by omega)
      obtain ⟨o, rfl, ho⟩ := op_of h2
      obtain ⟨_, _, h3⟩ := World.cells?_some h1
      exact ⟨o, h3, ho⟩
    by_cases h0 : len = 0
    · exact ⟨some a, len, cap, [], hcs, by simp [h0], .inl h0⟩
    · let f : Nat → Op8 := fun i => if hi : i < len then (each i hi).choose else op0
      have hf : ∀ i, i < len → (∀ k, k < 6 → w.cell? ((a.add (i * 6)).add k) = (f i).cells[k]?) ∧ OpOk w (f i) := by
        intro i hi
        show (∀ k, k < 6 → w.cell? ((a.add (i * 6)).add k) = (if hi : i < len then (each i hi).choose else op0).cells[k]?) ∧ OpOk w (if hi : i < len then (each i hi).choose else op0)
        rw [dif_pos hi]
        exact (each i hi).choose_spec
      obtain ⟨b, off, spot⟩ := a
      have hspot : spot = none := by
        have hc := (hf 0 (by omega)).1 0 (by omega)
        have hc2 : w.cell? ⟨b, off, spot⟩ = some (.int .u8 (f 0).kd) := by simpa [Addr.add, Op8.cells] using hc
        simpa using World.cell?_spot hc2
      subst hspot
      have ha : ∀ i, (⟨b, off, none⟩ : Addr).add i = ⟨b, off + i, none⟩ := by intro i; unfold Addr.add; split <;> simp_all
      have ha2 : ∀ i k, ((⟨b, off, none⟩ : Addr).add (i * 6)).add k = ⟨b, off + i * 6 + k, none⟩ := by
        intro i k; rw [ha]; unfold Addr.add; split <;> simp_all
      refine ⟨some ⟨b, off, none⟩, len, cap, (List.range len).map f, hcs, by simp, .inr ⟨b, off, rfl, fun i hi => ?_⟩⟩
      have hg : ((List.range len).map f).getD i op0 = f i := by simp [List.getD, hi]
      rw [hg]
      refine ⟨fun k hk => ?_, (hf i hi).2⟩
      rw [← ha2]
      exact (hf i hi).1 k hk
theorem open_ops8 {r : Reach} {b0 : Nat} {v : Value} {d : DataW H} {p : List MemPlace} (hv : Value.okWide Try.prog w r b0 22 v) (h : DataW.Trod enc Try.prog w base (fun _ => true) held 22 v d p) :
    ∃ (A : Option Addr) (n c : Nat) (os : List Op8), v = .slice A n c ∧ OPs w A n os := by
  obtain ⟨a0, len0, cap0, rfl⟩ := okWide_slice Try.underlying22 hv
  obtain ⟨fuel, hf⟩ := h
  obtain ⟨A, n, c, os, hc, h1⟩ := ops_of (by simpa [Value.cells] using hf)
  simp only [List.cons.injEq, and_true] at hc
  exact ⟨A, n, c, os, hc, h1⟩
theorem open_case8 {r : Reach} {b0 : Nat} {v : Value} {d : DataW H} {p : List MemPlace} (hv : Value.okWide Try.prog w r b0 46 v) (h : DataW.Trod enc Try.prog w base (fun _ => true) held 46 v d p) :
    ∃ (A : Option Addr) (n c : Nat) (os : List Op8) (B : Option Addr) (m e : Nat) (qs : List Op8) (x : Int) (T : Option Addr) (q r : Nat) (ts : List Int), v = .agg #[.slice A n c, .slice B m e, .int .i64 x, .slice T q r] ∧
      OPs w A n os ∧ OPs w B m qs ∧ IV w T q ts ∧ q ≤ r ∧ (-9223372036854775808 ≤ x ∧ x ≤ 9223372036854775807) ∧ Rgs ts := by
  obtain ⟨v0, v1, v2, v3, y0, y1, y2, y3, f, rfl, -, -, h0, h1, h2, h3⟩ := Joins.open_agg4 Try.underlying46 (by kernel_rfl) (by kernel_rfl) hv h
  obtain ⟨A, n, c, os, hc0, p0⟩ := ops_of h0
  obtain ⟨B, m, e, qs, hc1, p1⟩ := ops_of h1
  obtain ⟨x, rfl, hx⟩ := int8_of Try.underlying3 h2
  obtain ⟨T, q, r, ts, hc, q1, q2, q3, q4, q5, q6⟩ := open_intsS Try.underlying29 (by kernel_rfl) Try.underlying3 h3
  simp only [List.cons.injEq, and_true] at hc hc0 hc1
  subst hc hc0 hc1
  exact ⟨A, n, c, os, B, m, e, qs, x, T, q, r, ts, rfl, p0, p1, q5, q1, hx, q4⟩
end
end Go.Proofs.Ytlagmjdldplblaa
/- Contracts of the statements' helpers: short, does. -/
namespace Go.Proofs.Ytlagmjdldplblaa
open Go.ChangeShapes Go.WideShapes Go.ChangeAt Go.RowKit Go.WideMaps Go.Maps
set_option linter.unusedVariables false
set_option maxRecDepth 4000

/-- a name's first 24 bytes -/
def sh24 (s : ByteArray) : ByteArray := if 24 < s.size then s.extract 0 24 else s
theorem sh24_size (s : ByteArray) : (sh24 s).size ≤ 1000 := by
  unfold sh24
  split
  · rw [ByteArray.size_extract]; omega
  · omega
set_option maxHeartbeats 1000000 in
theorem short8_any (s : ByteArray) (w : World) (hs : s.size ≤ maxLen) : Calls Try.prog 30 #[.string s] w fun e w' => e = .returned (.string (sh24 s)) ∧ w' = w := by
  unfold sh24
  by_cases h : 24 < s.size
  · rw [if_pos h]
    have hi : (24 : Int) < (s.size : Int) := by omega
    have hi2 : (24 : Int) ≤ (s.size : Int) := by omega
    have hi3 : 24 ≤ s.size := by omega
    go_enter Try.func30, Try.ntmps30
    go_wp2_with fail
    go_ret
    exact ⟨rfl, rfl⟩
  · rw [if_neg h]
    have hi : ¬ (24 : Int) < (s.size : Int) := by omega
    go_enter Try.func30, Try.ntmps30
    go_wp2_with fail
    go_ret
    exact ⟨rfl, rfl⟩
theorem LowF.take {F : Nat → Prop} {A : Option Addr} {n m : Nat} (h : n = 0 ∨ ∀ x, A = some x → ¬ F x.block) (hm : m ≤ n) : m = 0 ∨ ∀ x, A = some x → ¬ F x.block := h.imp (fun h => by omega) id
set_option maxHeartbeats 4000000 in
theorem does8_any (g : G8) (k : Nat) (w : World) (F : Nat → Prop) (p : Nat) (M : DK) (hk : k ≤ 800) (hF : ∀ b, w.heap.size ≤ b → F b) (h : DD g k w F p M) (kd num : Int) (s t : ByteArray) (A : Option Addr) (n c : Nat) (bz : List Int) (L : Value) (hkd : 0 ≤ kd ∧ kd ≤ 255) (hs : s.size ≤ maxLen) (ht : t.size ≤ maxLen) (hb : BV w A n bz) (hnc : n ≤ c) (hA : n = 0 ∨ ∀ x, A = some x → ¬ F x.block) :
    Calls Try.prog 23 #[.pointer (some ⟨p, 0, none⟩), .agg #[.int .u8 kd, .string s, .string t, .slice A n c, .int .i64 num, L]] w (Tells (Did (k + 3) F p w (doesD M (kd % 10).toNat (sh24 s) (sh24 t) (bz.take 100)))) := by
  have h1 := Lib.hid (h.alloc (.cells #[.int .u8 kd, .string s, .string t, .slice A n c, .int .i64 num, L] 31))
  have hB := Bk.new w #[.int .u8 kd, .string s, .string t, .slice A n c, .int .i64 num, L] 31
  have hBl : Below w.heap.size w (w.alloc (.cells #[.int .u8 kd, .string s, .string t, .slice A n c, .int .i64 num, L] 31)) := (Below.refl _ _).alloc (Nat.le_refl _) _
  have hF1 := Lib.hid (grow_alloc hF (.cells #[.int .u8 kd, .string s, .string t, .slice A n c, .int .i64 num, L] 31))
  have HK := Lib.hid ((Kp.refl F w).alloc (.cells #[.int .u8 kd, .string s, .string t, .slice A n c, .int .i64 num, L] 31))
  have d0 := hB.cell 0 (v := .int .u8 kd) rfl
  have d1 := hB.cell 1 (v := .string s) rfl
  have d2 := hB.cell 2 (v := .string t) rfl
  have d3 := hB.cell 3 (v := .slice A n c) rfl
  have hSz := Lib.hid (sh24_size s)
  have hmod : kd.tmod 10 = kd % 10 := Int.tmod_eq_emod_of_nonneg hkd.1
  obtain ⟨m, z, hz, hzl, hmc, hm100, hzv, hlo, hfw⟩ := few_l hb hnc
  have hmn : m ≤ n := by rw [← hzl, hz, List.length_take]; have := hb.1; omega
  have HZ := Lib.hid (And.intro (hzv.below hBl) (And.intro (LowF.take hA hmn) (And.intro hfw hBl)))
  rw [← hz]
  obtain ⟨q, hq⟩ : ∃ q : Nat, kd % 10 = (q : Int) := ⟨(kd % 10).toNat, by omega⟩
  rw [hq, Int.toNat_natCast]
  rw [hq] at hmod
  have hq10 : q < 10 := by omega
  clear hb hzv hlo hfw hB h hz hq hF hA hBl hzl hmn
  unfold doesD
  rcases (by omega : q = 0 ∨ q = 1 ∨ q = 2 ∨ q = 3 ∨ q = 4 ∨ 5 ≤ q) with rfl | rfl | rfl | rfl | rfl | h5
  · rw [if_pos rfl]
    go_enter Try.func23, Try.ntmps23
    go_wp2_with fail
    refine (short8_any s _ hs).mono ?_
    rintro e w2 ⟨rfl, rfl⟩
    go_wp2_with fail
    refine (create_any g k _ F p M hk hF1.out h1.out (sh24 s) hSz.out).mono ?_
    rintro e w3 ⟨v, rfl, hL⟩
    go_wp2_with fail
    go_ret
    exact ⟨v, rfl, hL.back HK.out (fun _ h => h) (Nat.le_refl _)⟩
  · rw [if_neg (by decide), if_pos rfl]
    go_enter Try.func23, Try.ntmps23
    go_wp2_with fail
    generalize (w.alloc (.cells #[.int .u8 kd, .string s, .string t, .slice A n c, .int .i64 num, L] 31)) = w1 at *
    refine wp_region_noPanic ?_
    refine region_g 7 (Old w1) (by kernel_rfl) ((Old.refl w1).drew) (fun hS => ?_)
    refine take_w (i := 0) (v := ?_) (some 17) rfl (by kernel_rfl) rfl (fun _ _ _ h => h) (Or.inl ⟨by rfl, ?_⟩) hS ?_
    rotate_left
    · (intro wq hq; go_simp); first | done | with_reducible rfl
    try simp only [Act.put, List.setIfInBounds_toArray, List.set_cons_zero, List.set_cons_succ]
    replace hS := Till.list 0 hS
    refine take_w (i := 1) (v := ?_) (some 18) rfl (by kernel_rfl) rfl (fun _ _ _ h => h) (Or.inl ⟨by rfl, ?_⟩) hS ?_
    rotate_left
    · (intro wq hq; go_simp); first | done | with_reducible rfl
    try simp only [Act.put, List.setIfInBounds_toArray, List.set_cons_zero, List.set_cons_succ]
    replace hS := Till.list 1 hS
    refine take_w (i := 4) (v := ?_) (some 21) rfl (by kernel_rfl) rfl (fun _ _ _ h => h) (Or.inl ⟨by rfl, ?_⟩) hS ?_
    rotate_left
    · (intro wq hq; go_simp); first | done | with_reducible rfl
    try simp only [Act.put, List.setIfInBounds_toArray, List.set_cons_zero, List.set_cons_succ]
    replace hS := Till.list 4 hS
    refine take_g (i := 2) (v := ?_) [3, 2] (some 19) rfl (by kernel_rfl) rfl (fun _ _ _ h => h) (Or.inl ⟨by rfl, ?_⟩) hS ?_
    rotate_left
    · (intro wq hq; have r1 := hq.cell d1; have r3 := hq.cell d3; go_simp); first | done | with_reducible rfl
    try simp only [Act.put, List.setIfInBounds_toArray, List.set_cons_zero, List.set_cons_succ]
    replace hS := Till.list 2 hS
    refine take_g (i := 5) (v := ?_) [6, 5] (some 22) rfl (by kernel_rfl) rfl (fun _ _ _ h => h) (Or.inl ⟨by rfl, ?_⟩) hS ?_
    rotate_left
    · (intro wq hq; have r1 := hq.cell d1; have r3 := hq.cell d3; go_simp); first | done | with_reducible rfl
    try simp only [Act.put, List.setIfInBounds_toArray, List.set_cons_zero, List.set_cons_succ]
    replace hS := Till.list 5 hS
    refine ready_g (rs := [3]) (by kernel_rfl) (by simp) ?_
    refine AllReadyG.cons rfl (fun Kont hK => ?_) AllReadyG.nil
    go_simp
    refine (short8_any s _ hs).mono ?_
    rintro e w2 ⟨rfl, e2⟩
    subst e2
    refine hK.out _ _ (Or.inr ((hS.get (by kernel_rfl)))) (fun hS0 => ?_)
    clear hK Kont
    try simp only [Act.put, List.setIfInBounds_toArray, List.set_cons_zero, List.set_cons_succ]
    clear hS
    have hS := hS0
    clear hS0
    refine ready_g (rs := [6]) (by kernel_rfl) (by simp) ?_
    refine AllReadyG.cons rfl (fun Kont hK => ?_) AllReadyG.nil
    go_simp
    refine (HZ.out.2.2.1 _ HZ.out.2.2.2.drew).mono ?_
    rintro e w2 ⟨rfl, e2⟩
    subst e2
    refine hK.out _ _ (Or.inr ((hS.get (by kernel_rfl)))) (fun hS0 => ?_)
    clear hK Kont
    try simp only [Act.put, List.setIfInBounds_toArray, List.set_cons_zero, List.set_cons_succ]
    clear hS
    have hS := hS0
    clear hS0
    refine ready_g (rs := [7]) (by kernel_rfl) (by simp) ?_
    refine AllReadyG.cons rfl (fun Kont hK => ?_) AllReadyG.nil
    go_simp
    refine (append_any g k w1.drew F p M hk hF1.out h1.out.drew (sh24 s) hSz.out A m c z (HZ.out.1.below ((Below.refl _ _).drew)) hmc (by omega) HZ.out.2.1).mono ?_
    rintro e w3 ⟨v, rfl, hL⟩
    refine hK.out _ _ (Or.inl (by kernel_rfl)) (fun hS0 => ?_)
    clear hK Kont
    try simp only [Act.put, List.setIfInBounds_toArray, List.set_cons_zero, List.set_cons_succ]
    clear hS
    have hS := hS0
    clear hS0
    refine take_w (i := 8) (v := ?_) (some 4) rfl (by kernel_rfl) rfl (fun _ _ _ h => h) (Or.inl ⟨by rfl, ?_⟩) hS ?_
    rotate_left
    · (intro wq hq; go_simp); first | done | with_reducible rfl
    try simp only [Act.put, List.setIfInBounds_toArray, List.set_cons_zero, List.set_cons_succ]
    replace hS := Till.list 8 hS
    refine done_g (by kernel_rfl) (NoPanic.normal ?_) _
    clear hS
    replace HK := Lib.hid HK.out.drew
    go_wp2_with fail
    go_ret
    exact ⟨v, rfl, hL.back HK.out (fun _ h => h) (Nat.le_refl _)⟩
  · rw [if_neg (by decide), if_neg (by decide), if_pos rfl]
    go_enter Try.func23, Try.ntmps23
    go_wp2_with fail
    refine (short8_any s _ hs).mono ?_
    rintro e w2 ⟨rfl, rfl⟩
    go_wp2_with fail
    refine (sync_any g k _ F p M hk hF1.out h1.out (sh24 s) hSz.out).mono ?_
    rintro e w3 ⟨v, rfl, hL⟩
    go_wp2_with fail
    go_ret
    exact ⟨v, rfl, hL.back HK.out (fun _ h => h) (Nat.le_refl _)⟩
  · rw [if_neg (by decide), if_neg (by decide), if_neg (by decide), if_pos rfl]
    go_enter Try.func23, Try.ntmps23
    go_wp2_with fail
    refine (syncDir_any g k _ F p M hk hF1.out h1.out).mono ?_
    rintro e w3 ⟨v, rfl, hL⟩
    go_wp2_with fail
    go_ret
    exact ⟨v, rfl, hL.back HK.out (fun _ h => h) (Nat.le_refl _)⟩
  · rw [if_neg (by decide), if_neg (by decide), if_neg (by decide), if_neg (by decide), if_pos rfl]
    go_enter Try.func23, Try.ntmps23
    go_wp2_with fail
    generalize (w.alloc (.cells #[.int .u8 kd, .string s, .string t, .slice A n c, .int .i64 num, L] 31)) = w1 at *
    refine wp_region_noPanic ?_
    refine region_g 7 (Old w1) (by kernel_rfl) ((Old.refl w1).drew) (fun hS => ?_)
    refine take_w (i := 0) (v := ?_) (some 38) rfl (by kernel_rfl) rfl (fun _ _ _ h => h) (Or.inl ⟨by rfl, ?_⟩) hS ?_
    rotate_left
    · (intro wq hq; go_simp); first | done | with_reducible rfl
    try simp only [Act.put, List.setIfInBounds_toArray, List.set_cons_zero, List.set_cons_succ]
    replace hS := Till.list 0 hS
    refine take_w (i := 1) (v := ?_) (some 39) rfl (by kernel_rfl) rfl (fun _ _ _ h => h) (Or.inl ⟨by rfl, ?_⟩) hS ?_
    rotate_left
    · (intro wq hq; go_simp); first | done | with_reducible rfl
    try simp only [Act.put, List.setIfInBounds_toArray, List.set_cons_zero, List.set_cons_succ]
    replace hS := Till.list 1 hS
    refine take_w (i := 4) (v := ?_) (some 42) rfl (by kernel_rfl) rfl (fun _ _ _ h => h) (Or.inl ⟨by rfl, ?_⟩) hS ?_
    rotate_left
    · (intro wq hq; go_simp); first | done | with_reducible rfl
    try simp only [Act.put, List.setIfInBounds_toArray, List.set_cons_zero, List.set_cons_succ]
    replace hS := Till.list 4 hS
    refine take_g (i := 2) (v := ?_) [3, 2] (some 40) rfl (by kernel_rfl) rfl (fun _ _ _ h => h) (Or.inl ⟨by rfl, ?_⟩) hS ?_
    rotate_left
    · (intro wq hq; have r1 := hq.cell d1; have r2 := hq.cell d2; go_simp); first | done | with_reducible rfl
    try simp only [Act.put, List.setIfInBounds_toArray, List.set_cons_zero, List.set_cons_succ]
    replace hS := Till.list 2 hS
    refine take_g (i := 5) (v := ?_) [6, 5] (some 43) rfl (by kernel_rfl) rfl (fun _ _ _ h => h) (Or.inl ⟨by rfl, ?_⟩) hS ?_
    rotate_left
    · (intro wq hq; have r1 := hq.cell d1; have r2 := hq.cell d2; go_simp); first | done | with_reducible rfl
    try simp only [Act.put, List.setIfInBounds_toArray, List.set_cons_zero, List.set_cons_succ]
    replace hS := Till.list 5 hS
    refine ready_g (rs := [3]) (by kernel_rfl) (by simp) ?_
    refine AllReadyG.cons rfl (fun Kont hK => ?_) AllReadyG.nil
    go_simp
    refine (short8_any s _ hs).mono ?_
    rintro e w2 ⟨rfl, e2⟩
    subst e2
    refine hK.out _ _ (Or.inr ((hS.get (by kernel_rfl)))) (fun hS0 => ?_)
    clear hK Kont
    try simp only [Act.put, List.setIfInBounds_toArray, List.set_cons_zero, List.set_cons_succ]
    clear hS
    have hS := hS0
    clear hS0
    refine ready_g (rs := [6]) (by kernel_rfl) (by simp) ?_
    refine AllReadyG.cons rfl (fun Kont hK => ?_) AllReadyG.nil
    go_simp
    refine (short8_any t _ ht).mono ?_
    rintro e w2 ⟨rfl, e2⟩
    subst e2
    refine hK.out _ _ (Or.inr ((hS.get (by kernel_rfl)))) (fun hS0 => ?_)
    clear hK Kont
    try simp only [Act.put, List.setIfInBounds_toArray, List.set_cons_zero, List.set_cons_succ]
    clear hS
    have hS := hS0
    clear hS0
    refine ready_g (rs := [7]) (by kernel_rfl) (by simp) ?_
    refine AllReadyG.cons rfl (fun Kont hK => ?_) AllReadyG.nil
    go_simp
    refine (rename_any g k w1.drew F p M (by omega) hF1.out h1.out.drew (sh24 s) (sh24 t) hSz.out).mono ?_
    rintro e w3 ⟨v, rfl, hL⟩
    refine hK.out _ _ (Or.inl (by kernel_rfl)) (fun hS0 => ?_)
    clear hK Kont
    try simp only [Act.put, List.setIfInBounds_toArray, List.set_cons_zero, List.set_cons_succ]
    clear hS
    have hS := hS0
    clear hS0
    refine take_w (i := 8) (v := ?_) (some 4) rfl (by kernel_rfl) rfl (fun _ _ _ h => h) (Or.inl ⟨by rfl, ?_⟩) hS ?_
    rotate_left
    · (intro wq hq; go_simp); first | done | with_reducible rfl
    try simp only [Act.put, List.setIfInBounds_toArray, List.set_cons_zero, List.set_cons_succ]
    replace hS := Till.list 8 hS
    refine done_g (by kernel_rfl) (NoPanic.normal ?_) _
    clear hS
    replace HK := Lib.hid HK.out.drew
    go_wp2_with fail
    go_ret
    exact ⟨v, rfl, hL.back HK.out (fun _ h => h) (Nat.le_refl _)⟩
  · rw [if_neg (by omega), if_neg (by omega), if_neg (by omega), if_neg (by omega), if_neg (by omega)]
    have hn0 : ¬ (q : Int) = 0 := by omega
    have hn1 : ¬ (q : Int) = 1 := by omega
    have hn2 : ¬ (q : Int) = 2 := by omega
    have hn3 : ¬ (q : Int) = 3 := by omega
    have hn4 : ¬ (q : Int) = 4 := by omega
    go_enter Try.func23, Try.ntmps23
    go_wp2_with fail
    refine (short8_any s _ hs).mono ?_
    rintro e w2 ⟨rfl, rfl⟩
    go_wp2_with fail
    refine (remove_any g k _ F p M (by omega) hF1.out h1.out (sh24 s) hSz.out).mono ?_
    rintro e w3 ⟨v, rfl, hL⟩
    go_wp2_with fail
    go_ret
    exact ⟨v, rfl, hL.back HK.out (fun _ h => h) (Nat.le_refl _)⟩
end Go.Proofs.Ytlagmjdldplblaa
/- A disk at work while other blocks are left alone. -/
namespace Go.Proofs.Ytlagmjdldplblaa
open Go.ChangeShapes Go.WideShapes Go.ChangeAt Go.RowKit Go.WideMaps Go.Maps
set_option linter.unusedVariables false
set_option maxRecDepth 4000

/-- what a disk may turn: what is new since w0, but not what is of I -/
abbrev NotI (w0 : World) (I : Nat → Prop) : Nat → Prop := fun x => w0.heap.size ≤ x ∧ ¬ I x
/-- the disk at p; the blocks of I are left alone -/
structure LF (w0 : World) (I : Nat → Prop) (w : World) (p k : Nat) (M : DK) : Prop where
  disk : ∃ g, DD g k w (NotI w0 I) p M
  below : Below w0.heap.size w0 w
  idle : ∀ x, I x → x < w.heap.size
  low : ∀ x, I x → w0.heap.size ≤ x
/-- what is of I, and what is new -/
abbrev AndNew (I : Nat → Prop) (w w' : World) : Nat → Prop := fun x => I x ∨ (w.heap.size ≤ x ∧ x < w'.heap.size)
section
variable {w0 w w' : World} {I : Nat → Prop} {p k : Nat} {M : DK}
theorem LD.lf (h : LD w0 w p k M) : LF w0 (fun _ => False) w p k M := ⟨by obtain ⟨⟨g, hd⟩, _⟩ := h; exact ⟨g, hd.refoot (fun x hx _ => ⟨hx, fun h => h⟩)⟩, h.2, fun _ h => h.elim, fun _ h => h.elim⟩
theorem LF.ld (h : LF w0 I w p k M) : LD w0 w p k M := ⟨by obtain ⟨g, hd⟩ := h.disk; exact ⟨g, hd.refoot (fun x hx _ => hx.1)⟩, h.below⟩
theorem LF.more (h : LF w0 I w p k M) {q : Nat} (hq : k ≤ q) : LF w0 I w p q M := ⟨by obtain ⟨g, hd⟩ := h.disk; exact ⟨g, hd.more hq⟩, h.below, h.idle, h.low⟩
theorem LF.new (h : LF w0 I w p k M) : ∀ b, w.heap.size ≤ b → NotI w0 I b := fun b hb => ⟨Nat.le_trans h.below.size hb, fun hi => by have := h.idle b hi; omega⟩
theorem LF.keep (h : LF w0 I w p k M) (hb : Below w.heap.size w w') : LF w0 I w' p k M :=
  ⟨by obtain ⟨g, hd⟩ := h.disk; exact ⟨g, hd.below hb⟩, h.below.trans (hb.mono h.below.size), fun x hx => Nat.lt_of_lt_of_le (h.idle x hx) hb.size, h.low⟩
theorem LF.drew (h : LF w0 I w p k M) : LF w0 I w.drew p k M := h.keep ((Below.refl _ _).drew)
theorem LF.alloc (h : LF w0 I w p k M) (o : Obj) : LF w0 I (w.alloc o) p k M := h.keep ((Below.refl _ _).alloc (Nat.le_refl _) o)
theorem Kp.of_new {F : Nat → Prop} {w w' : World} (hb : Below w.heap.size w w') : Kp F w w' := ⟨hb.os, hb.tape, hb.output, hb.size, fun b hl _ => hb.block b hl⟩
/-- others are at work: on what is new, and on what is of I: what is new is left alone from then on -/
theorem LF.other (h : LF w0 I w p k M) (hk : Kp I w w') : LF w0 (AndNew I w w') w' p k M := by
  obtain ⟨g, hd⟩ := h.disk
  refine ⟨⟨g, hd.move g.rl (fun x hx hl => ⟨hk.block x hl hx.2, ⟨hx.1, ?_⟩, rfl⟩)⟩, ⟨hk.os.trans h.below.os, hk.tape.trans h.below.tape, hk.output.trans h.below.output, Nat.le_trans h.below.size hk.size, fun x hx => ?_⟩, ?_, ?_⟩
  · rintro (hi | ⟨h1, h2⟩)
    · exact hx.2 hi
    · omega
  · have hs := h.below.size
    exact (hk.block x (by omega) (fun hi => by have := h.low x hi; omega)).trans (h.below.block x hx)
  · rintro x (hi | ⟨h1, h2⟩)
    · have := h.idle x hi; have := hk.size; omega
    · exact h2
  · rintro x (hi | ⟨h1, h2⟩)
    · exact h.low x hi
    · exact Nat.le_trans h.below.size h1
/-- what a step of the disk tells, and makes -/
def LFE (w0 : World) (I : Nat → Prop) (w : World) (p k : Nat) (N : DK × Int) (e : Ending) (w' : World) : Prop := e = .returned (.int .i64 N.2) ∧ LF w0 I w' p k N.1 ∧ Kp (NotI w0 I) w w'
theorem LF.did (h : LF w0 I w p k M) {q : Nat} {N : DK × Int} {e : Ending} (ht : Tells (Did q (NotI w0 I) p w N) e w') : LFE w0 I w p q N e w' := by
  obtain ⟨v, rfl, rfl, hg, hk⟩ := ht
  exact ⟨rfl, ⟨hg, h.below.trans (hk.below (fun x hx => hx.1) h.below.size), fun x hx => Nat.lt_of_lt_of_le (h.idle x hx) hk.size, h.low⟩, hk⟩
theorem create_f (h : LF w0 I w p k M) (hk : k ≤ 800) (s : ByteArray) (hs : s.size ≤ 1000) : Calls Try.prog 16 #[.pointer (some ⟨p, 0, none⟩), .string s] w (LFE w0 I w p (k + 3) (createD M s)) := by
  obtain ⟨g, hd⟩ := h.disk
  exact (create_any g k w _ p M hk h.new hd s hs).mono (fun e w' => h.did)
theorem remove_f (h : LF w0 I w p k M) (hk : k ≤ 800) (s : ByteArray) (hs : s.size ≤ 1000) : Calls Try.prog 17 #[.pointer (some ⟨p, 0, none⟩), .string s] w (LFE w0 I w p (k + 3) (removeD M s)) := by
  obtain ⟨g, hd⟩ := h.disk
  exact (remove_any g k w _ p M (by omega) h.new hd s hs).mono (fun e w' => h.did)
theorem sync_f (h : LF w0 I w p k M) (hk : k ≤ 800) (s : ByteArray) (hs : s.size ≤ 1000) : Calls Try.prog 27 #[.pointer (some ⟨p, 0, none⟩), .string s] w (LFE w0 I w p (k + 3) (syncD M s)) := by
  obtain ⟨g, hd⟩ := h.disk
  exact (sync_any g k w _ p M hk h.new hd s hs).mono (fun e w' => h.did)
theorem syncDir_f (h : LF w0 I w p k M) (hk : k ≤ 800) : Calls Try.prog 28 #[.pointer (some ⟨p, 0, none⟩)] w (LFE w0 I w p (k + 3) (syncDirD M)) := by
  obtain ⟨g, hd⟩ := h.disk
  exact (syncDir_any g k w _ p M hk h.new hd).mono (fun e w' => h.did)
/-- bytes that are left alone -/
abbrev LowI8 (w0 : World) (I : Nat → Prop) (A : Option Addr) (n : Nat) : Prop := n = 0 ∨ ∀ x, A = some x → x.block < w0.heap.size ∨ I x.block
theorem LowI8.not {A : Option Addr} {n : Nat} (h : LowI8 w0 I A n) : n = 0 ∨ ∀ x, A = some x → ¬ NotI w0 I x.block := h.imp id (fun h x hx hn => by rcases h x hx with h | h; have := hn.1; omega; exact hn.2 h)
theorem append_f (h : LF w0 I w p k M) (hk : k ≤ 800) (s : ByteArray) (hs : s.size ≤ 1000) (A : Option Addr) (n c : Nat) (zs : List Int) (hv : BV w A n zs) (hnc : n ≤ c) (hn : n ≤ 1000) (hA : LowI8 w0 I A n) :
    Calls Try.prog 18 #[.pointer (some ⟨p, 0, none⟩), .string s, .slice A n c] w (LFE w0 I w p (k + 3) (appendD M s zs)) := by
  obtain ⟨g, hd⟩ := h.disk
  exact (append_any g k w _ p M hk h.new hd s hs A n c zs hv hnc hn hA.not).mono (fun e w' => h.did)
theorem does_f (h : LF w0 I w p k M) (hk : k ≤ 800) (kd num : Int) (s t : ByteArray) (A : Option Addr) (n c : Nat) (bz : List Int) (L : Value) (hkd : 0 ≤ kd ∧ kd ≤ 255) (hs : s.size ≤ maxLen) (ht : t.size ≤ maxLen) (hb : BV w A n bz) (hnc : n ≤ c) (hA : LowI8 w0 I A n) :
    Calls Try.prog 23 #[.pointer (some ⟨p, 0, none⟩), .agg #[.int .u8 kd, .string s, .string t, .slice A n c, .int .i64 num, L]] w (LFE w0 I w p (k + 3) (doesD M (kd % 10).toNat (sh24 s) (sh24 t) (bz.take 100))) := by
  obtain ⟨g, hd⟩ := h.disk
  exact (does8_any g k w _ p M hk h.new hd kd num s t A n c bz L hkd hs ht hb hnc hA.not).mono (fun e w' => h.did)
theorem limit_f (h : LF w0 I w p k M) (n : Int) (hn : n ≤ maxI) : Calls Try.prog 21 #[.pointer (some ⟨p, 0, none⟩), .int .i64 n] w fun e w' => e = .returned (.tuple #[]) ∧ LF w0 I w' p k (limitD M n) ∧ Kp (NotI w0 I) w w' := by
  obtain ⟨g, hd⟩ := h.disk
  exact (limit_any g k w _ p M hd n hn).mono (fun e w' ⟨he, h1, h2⟩ => ⟨he, ⟨⟨g, h1⟩, h.below.trans (h2.below (fun x hx => hx.1) h.below.size), fun x hx => Nat.lt_of_lt_of_le (h.idle x hx) h2.size, h.low⟩, h2⟩)
theorem fail_f (h : LF w0 I w p k M) (A : Option Addr) (n c : Nat) (ts : List Int) (hv : IV w A n ts) (hn : n ≤ 1000) (hA : LowI8 w0 I A n) (hr : ∀ x ∈ ts, -9223372036854775808 ≤ x ∧ x ≤ maxI) :
    Calls Try.prog 19 #[.pointer (some ⟨p, 0, none⟩), .slice A n c] w fun e w' => e = .returned (.tuple #[]) ∧ LF w0 I w' p k (failD M ts) ∧ Kp (NotI w0 I) w w' := by
  obtain ⟨g, hd⟩ := h.disk
  exact (fail_any g k w _ p M h.new hd A n c ts hv hn hA.not hr).mono (fun e w' ⟨he, h1, h2⟩ => ⟨he, ⟨h1, h.below.trans (h2.below (fun x hx => hx.1) h.below.size), fun x hx => Nat.lt_of_lt_of_le (h.idle x hx) h2.size, h.low⟩, h2⟩)
end
end Go.Proofs.Ytlagmjdldplblaa
/- The statement DiskSafe: plain part. -/
namespace Go.Proofs.Ytlagmjdldplblaa
set_option linter.unusedVariables false
set_option maxRecDepth 4000

abbrev mineN : ByteArray := { data := #[116, 104, 101, 32, 102, 105, 108, 101, 32, 111, 102, 32, 109, 105, 110, 101] }
/-- a disk behind at most j things that are done -/
structure Ahead8 (j : Nat) (M : DK) : Prop where
  ok : OkD M
  free : Free8 M
  tot : totD M ≤ 100 * j
  names : M.names.length ≤ j
  quota : M.quota = 100000
theorem ahead_new : Ahead8 0 (newD 100000) := ⟨okD_new _, free_new _, by show 0 ≤ 0; omega, by show 0 ≤ 0; omega, by show max 100000 0 = 100000; omega⟩
theorem Ahead8.more {j i : Nat} {M : DK} (h : Ahead8 j M) (hi : j ≤ i) : Ahead8 i M := ⟨h.ok, h.free, by have := h.tot; omega, by have := h.names; omega, h.quota⟩
theorem Ahead8.does {j : Nat} {M : DK} (h : Ahead8 j M) (k : Nat) (s t : ByteArray) {b : List Int} (hb : b.length ≤ 100) : Ahead8 (j + 1) (doesD M k s t b).1 := by
  obtain ⟨h1, h2, h3⟩ := adds_does h.ok h.free k s t b
  exact ⟨okD_does h.ok k s t b, free_does h.free k s t b, by have := h.tot; omega, by have := h.names; omega, h3.trans h.quota⟩
def made8 (M : DK) (own : List Int) : DK := (syncDirD (syncD (appendD (createD (removeD M mineN).1 mineN).1 mineN own).1 mineN).1).1
theorem made8_safe {j : Nat} {M : DK} (h : Ahead8 j M) (hj : j ≤ 30) {own : List Int} (ho : own.length ≤ 100) :
    (createD (removeD M mineN).1 mineN).2 = 0 ∧ ∃ f, Safe8 mineN own f (made8 M own) ∧ (made8 M own).kept = (made8 M own).names ∧ (made8 M own).names.length ≤ 40 := by
  have h1 := h.does 5 mineN mineN (b := []) (by simp)
  have h2 := h1.does 0 mineN mineN (b := []) (by simp)
  have h3 := h2.does 1 mineN mineN (b := own) ho
  have h4 := h3.does 2 mineN mineN (b := []) (by simp)
  have h5 := h4.does 3 mineN mineN (b := []) (by simp)
  have e : (doesD (doesD (doesD (doesD (doesD M 5 mineN mineN []).1 0 mineN mineN []).1 1 mineN mineN own).1 2 mineN mineN []).1 3 mineN mineN []).1 = made8 M own := rfl
  rw [e] at h5
  obtain ⟨m1, f, m2, m3, m4⟩ := made_safe h.ok h.free (mine := mineN) (by decide) (by have := h.names; omega) (own := own) (by have := h.tot; have := h.quota; omega)
  exact ⟨m1, f, m2, m3, by have := h5.names; omega⟩
structure Behind8 (own : List Int) (f j : Nat) (M : DK) : Prop where
  safe : Safe8 mineN own f M
  names : M.names.length ≤ 40 + j
  kept : M.kept.length ≤ 40 + j
theorem Behind8.more {own : List Int} {f j i : Nat} {M : DK} (h : Behind8 own f j M) (hi : j ≤ i) : Behind8 own f i M := ⟨h.safe, by have := h.names; omega, by have := h.kept; omega⟩
theorem Behind8.does {own : List Int} {f j : Nat} {M : DK} (h : Behind8 own f j M) (k : Nat) (s t : ByteArray) (b : List Int) (hk : k < 4 ∨ (s ≠ mineN ∧ t ≠ mineN)) : Behind8 own f (j + 1) (doesD M k s t b).1 := by
  obtain ⟨h1, h2, h3⟩ := adds_does h.safe.ok h.safe.free k s t b
  refine ⟨safe_does h.safe k s t b hk, by have := h.names; omega, ?_⟩
  rw [kept_does h.safe.free k s t b]
  split
  · have := h.names; omega
  · have := h.kept; omega
/-- the names that are kept behind SyncDir are those that there are -/
theorem behind_kept {M : DK} (hf : Free8 M) (s t : ByteArray) (b : List Int) : doesD M 3 s t b = ((doesD M 3 s t b).1, 0) ∧ textsD (doesD M 3 s t b).1 = (doesD M 3 s t b).1.kept.map (fun n => n.1) := by
  have e : doesD M 3 s t b = syncDirD M := rfl
  rw [e, syncDir_eq hf]
  exact ⟨rfl, rfl⟩
theorem behind_kept' {M : DK} (hf : Free8 M) (k : Nat) (s t : ByteArray) (b : List Int) (hk : k ≠ 3) : (doesD M k s t b).1.kept = M.kept := by rw [kept_does hf, if_neg hk]
/-- what is found of it -/
theorem behind_found {own : List Int} {f j : Nat} {M : DK} (h : Behind8 own f j M) (ch : Int) (ts : List Int) :
    ∃ all kk, readD M mineN = (all, 0) ∧ own.length ≤ kk ∧ kk ≤ all.length ∧ readD (crashD M ch ts) mineN = (all.take kk, 0) ∧ readD (crashD (crashD M ch ts) 0 []) mineN = (all.take kk, 0) ∧ (all.take kk).take own.length = own ∧ (all.take kk).length = kk ∧
      (ch ≤ 0 → textsD (crashD M ch ts) = M.kept.map (fun n => n.1)) ∧ (crashD M ch ts).taken = 0 := by
  obtain ⟨kk, h1, h2, h3, h4⟩ := safe_found h.safe ch ts
  obtain ⟨r, hr⟩ := h.safe.head
  refine ⟨(flN M f).1, kk, ?_, h1, h2, h3, h4 [], ?_, by rw [List.length_take]; omega, fun hc => found_none ch hc ts, rfl⟩
  · unfold readD
    rw [h.safe.free.live, if_neg (by decide), h.safe.here]
  · rw [List.take_take, show min own.length kk = own.length by omega, hr, List.take_left]
end Go.Proofs.Ytlagmjdldplblaa
/- Contract of Same (of the reference of stage 6), where no texts are about. -/
namespace Go.Proofs.Ytlagmjdldplblaa
open Go.ChangeShapes Go.WideShapes Go.ChangeAt Go.RowKit
set_option linter.unusedVariables false
set_option maxRecDepth 4000

set_option maxHeartbeats 2000000 in
theorem same8_any (A : Option Addr) (N C : Nat) (l : List ByteArray) (A' : Option Addr) (N' C' : Nat) (k : List ByteArray) (w : World) (hv : TV w A N l) (hv' : TV w A' N' k) (hN : N ≤ 1000000) (hN' : N' ≤ 1000000) :
    Calls Try.prog 32 #[.slice A N C, .slice A' N' C'] w fun e w' => e = .returned (.bool (decide (l = k))) ∧ Below w.heap.size w w' := by
  have hl := Lib.hid (TV.len hv)
  have hl' := Lib.hid (TV.len hv')
  by_cases h1 : N = N'
  · subst h1
    go_enter Try.func32, Try.ntmps32
    go_wp2_with fail
    go_loopw [5] (fun i wr => ∃ j : Nat, j ≤ N ∧ i = .int .i64 (j : Int) ∧ Hid (∀ i, i < j → l.getD i ⟨#[]⟩ = k.getD i ⟨#[]⟩) ∧ Below w.heap.size w wr) (fun i _ => N - (intOf i).toNat)
    case atStart => exact ⟨0, by omega, rfl, Lib.hid (fun i hi => by omega), Below.refl _ _⟩
    case round =>
      obtain ⟨j, hj, rfl, HT, hbel⟩ := hrel
      by_cases hlt : j < N
      · obtain ⟨b, off, rfl, e1⟩ := TV.at hv j hlt
        obtain ⟨b', off', rfl, e2⟩ := TV.at hv' j hlt
        replace e1 := keepc e1 hbel
        replace e2 := keepc e2 hbel
        have hji : (j : Int) < (N : Int) := by omega
        generalize hx1 : l.getD j ⟨#[]⟩ = x at e1
        generalize hy1 : k.getD j ⟨#[]⟩ = y at e2
        have HX := Lib.hid hx1
        have HY := Lib.hid hy1
        clear hx1 hy1 hv hv'
        by_cases hxy : x = y
        · subst hxy
          have hss : (x.toList == x.toList) = true := by simp
          have HT' : Hid (∀ i, i < j + 1 → l.getD i ⟨#[]⟩ = k.getD i ⟨#[]⟩) := Lib.hid (fun i hi => by
            by_cases hij : i < j
            · exact HT.out i hij
            · obtain rfl : i = j := by omega
              rw [HX.out, HY.out])
          go_wp2_with fail
          refine wp_region_noPanic ?_
          refine region_g 9 (Ext (World.drew _)) (by kernel_rfl) (Ext.refl _) (fun hS => ?_)
          refine take_w (i := 0) (v := ?_) (some 17) rfl (by kernel_rfl) rfl (fun _ _ _ h => h) (Or.inl ⟨by rfl, ?_⟩) hS ?_
          rotate_left
          · (intro wq hq; go_simp); first | done | with_reducible rfl
          try simp only [Act.put, List.setIfInBounds_toArray, List.set_cons_zero, List.set_cons_succ]
          replace hS := Till.list 0 hS
          refine take_w (i := 1) (v := ?_) (some 18) rfl (by kernel_rfl) rfl (fun _ _ _ h => h) (Or.inl ⟨by rfl, ?_⟩) hS ?_
          rotate_left
          · (intro wq hq; go_simp); first | done | with_reducible rfl
          try simp only [Act.put, List.setIfInBounds_toArray, List.set_cons_zero, List.set_cons_succ]
          replace hS := Till.list 1 hS
          refine take_w (i := 4) (v := ?_) (some 21) rfl (by kernel_rfl) rfl (fun _ _ _ h => h) (Or.inl ⟨by rfl, ?_⟩) hS ?_
          rotate_left
          · (intro wq hq; go_simp); first | done | with_reducible rfl
          try simp only [Act.put, List.setIfInBounds_toArray, List.set_cons_zero, List.set_cons_succ]
          replace hS := Till.list 4 hS
          refine take_w (i := 5) (v := ?_) (some 22) rfl (by kernel_rfl) rfl (fun _ _ _ h => h) (Or.inl ⟨by rfl, ?_⟩) hS ?_
          rotate_left
          · (intro wq hq; go_simp); first | done | with_reducible rfl
          try simp only [Act.put, List.setIfInBounds_toArray, List.set_cons_zero, List.set_cons_succ]
          replace hS := Till.list 5 hS
          refine take_w (i := 2) (v := ?_) (some 19) rfl (by kernel_rfl) rfl (fun _ _ _ h => h) (Or.inl ⟨by rfl, ?_⟩) hS ?_
          rotate_left
          · (intro wq hq; go_simp); first | done | with_reducible rfl
          try simp only [Act.put, List.setIfInBounds_toArray, List.set_cons_zero, List.set_cons_succ]
          replace hS := Till.list 2 hS
          refine take_w (i := 6) (v := ?_) (some 23) rfl (by kernel_rfl) rfl (fun _ _ _ h => h) (Or.inl ⟨by rfl, ?_⟩) hS ?_
          rotate_left
          · (intro wq hq; go_simp); first | done | with_reducible rfl
          try simp only [Act.put, List.setIfInBounds_toArray, List.set_cons_zero, List.set_cons_succ]
          replace hS := Till.list 6 hS
          refine take_n (i := 3) (v := ?_) (some 20) rfl (by kernel_rfl) rfl (fun _ _ _ h => h) (Or.inl ⟨by rfl, ?_⟩) hS ?_
          rotate_left
          · (intro wq hq; have q0 := hq _ _ _ e1; have q1 := hq _ _ _ e2; go_simp); first | done | with_reducible rfl
          try simp only [Act.put, List.setIfInBounds_toArray, List.set_cons_zero, List.set_cons_succ]
          replace hS := Till.list 3 hS
          refine take_n (i := 7) (v := ?_) (some 24) rfl (by kernel_rfl) rfl (fun _ _ _ h => h) (Or.inl ⟨by rfl, ?_⟩) hS ?_
          rotate_left
          · (intro wq hq; have q0 := hq _ _ _ e1; have q1 := hq _ _ _ e2; go_simp); first | done | with_reducible rfl
          try simp only [Act.put, List.setIfInBounds_toArray, List.set_cons_zero, List.set_cons_succ]
          replace hS := Till.list 7 hS
          refine take_w (i := 8) (v := ?_) (some 25) rfl (by kernel_rfl) rfl (fun _ _ _ h => h) (Or.inl ⟨by rfl, ?_⟩) hS ?_
          rotate_left
          · (intro wq hq; go_simp); first | done | with_reducible rfl
          try simp only [Act.put, List.setIfInBounds_toArray, List.set_cons_zero, List.set_cons_succ]
          replace hS := Till.list 8 hS
          refine done_g (by kernel_rfl) (NoPanic.normal ?_) _
          clear hS
          go_wp2_with fail
          go_roundw
          case rel => exact ⟨j + 1, by omega, by go_num, HT', hbel.drew⟩
          case measure => simp [intOf]; omega
        · have hne : (x.toList == y.toList) = false := by rw [beq_eq_false_iff_ne]; exact fun h => hxy (toList_inj h)
          have HF : Hid (decide (l = k) = false) := Lib.hid (decide_eq_false (fun h => hxy (by rw [← HX.out, ← HY.out, h])))
          go_wp2_with fail
          refine wp_region_noPanic ?_
          refine region_g 9 (Ext (World.drew _)) (by kernel_rfl) (Ext.refl _) (fun hS => ?_)
          refine take_w (i := 0) (v := ?_) (some 17) rfl (by kernel_rfl) rfl (fun _ _ _ h => h) (Or.inl ⟨by rfl, ?_⟩) hS ?_
          rotate_left
          · (intro wq hq; go_simp); first | done | with_reducible rfl
          try simp only [Act.put, List.setIfInBounds_toArray, List.set_cons_zero, List.set_cons_succ]
          replace hS := Till.list 0 hS
          refine take_w (i := 1) (v := ?_) (some 18) rfl (by kernel_rfl) rfl (fun _ _ _ h => h) (Or.inl ⟨by rfl, ?_⟩) hS ?_
          rotate_left
          · (intro wq hq; go_simp); first | done | with_reducible rfl
          try simp only [Act.put, List.setIfInBounds_toArray, List.set_cons_zero, List.set_cons_succ]
          replace hS := Till.list 1 hS
          refine take_w (i := 4) (v := ?_) (some 21) rfl (by kernel_rfl) rfl (fun _ _ _ h => h) (Or.inl ⟨by rfl, ?_⟩) hS ?_
          rotate_left
          · (intro wq hq; go_simp); first | done | with_reducible rfl
          try simp only [Act.put, List.setIfInBounds_toArray, List.set_cons_zero, List.set_cons_succ]
          replace hS := Till.list 4 hS
          refine take_w (i := 5) (v := ?_) (some 22) rfl (by kernel_rfl) rfl (fun _ _ _ h => h) (Or.inl ⟨by rfl, ?_⟩) hS ?_
          rotate_left
          · (intro wq hq; go_simp); first | done | with_reducible rfl
          try simp only [Act.put, List.setIfInBounds_toArray, List.set_cons_zero, List.set_cons_succ]
          replace hS := Till.list 5 hS
          refine take_w (i := 2) (v := ?_) (some 19) rfl (by kernel_rfl) rfl (fun _ _ _ h => h) (Or.inl ⟨by rfl, ?_⟩) hS ?_
          rotate_left
          · (intro wq hq; go_simp); first | done | with_reducible rfl
          try simp only [Act.put, List.setIfInBounds_toArray, List.set_cons_zero, List.set_cons_succ]
          replace hS := Till.list 2 hS
          refine take_w (i := 6) (v := ?_) (some 23) rfl (by kernel_rfl) rfl (fun _ _ _ h => h) (Or.inl ⟨by rfl, ?_⟩) hS ?_
          rotate_left
          · (intro wq hq; go_simp); first | done | with_reducible rfl
          try simp only [Act.put, List.setIfInBounds_toArray, List.set_cons_zero, List.set_cons_succ]
          replace hS := Till.list 6 hS
          refine take_n (i := 3) (v := ?_) (some 20) rfl (by kernel_rfl) rfl (fun _ _ _ h => h) (Or.inl ⟨by rfl, ?_⟩) hS ?_
          rotate_left
          · (intro wq hq; have q0 := hq _ _ _ e1; have q1 := hq _ _ _ e2; go_simp); first | done | with_reducible rfl
          try simp only [Act.put, List.setIfInBounds_toArray, List.set_cons_zero, List.set_cons_succ]
          replace hS := Till.list 3 hS
          refine take_n (i := 7) (v := ?_) (some 24) rfl (by kernel_rfl) rfl (fun _ _ _ h => h) (Or.inl ⟨by rfl, ?_⟩) hS ?_
          rotate_left
          · (intro wq hq; have q0 := hq _ _ _ e1; have q1 := hq _ _ _ e2; go_simp); first | done | with_reducible rfl
          try simp only [Act.put, List.setIfInBounds_toArray, List.set_cons_zero, List.set_cons_succ]
          replace hS := Till.list 7 hS
          refine take_w (i := 8) (v := ?_) (some 25) rfl (by kernel_rfl) rfl (fun _ _ _ h => h) (Or.inl ⟨by rfl, ?_⟩) hS ?_
          rotate_left
          · (intro wq hq; go_simp); first | done | with_reducible rfl
          try simp only [Act.put, List.setIfInBounds_toArray, List.set_cons_zero, List.set_cons_succ]
          replace hS := Till.list 8 hS
          refine done_g (by kernel_rfl) (NoPanic.normal ?_) _
          clear hS
          go_wp2_with fail
          go_ret
          exact ⟨by rw [HF.out]; rfl, hbel.drew⟩
      · obtain rfl : j = N := by omega
        have HF : Hid (decide (l = k) = true) := Lib.hid (decide_eq_true (listT_getD (by rw [hl.out, hl'.out]) (fun i hi => HT.out i (by rw [← hl.out]; exact hi))))
        go_wp2_with fail
        go_ret
        exact ⟨by rw [HF.out]; rfl, hbel⟩
  · have hne : ((N : Int) == (N' : Int)) = false := by rw [beq_eq_false_iff_ne]; omega
    have HF : Hid (decide (l = k) = false) := Lib.hid (decide_eq_false (fun h => h1 (by rw [← hl.out, ← hl'.out, h])))
    clear hv hv'
    go_enter Try.func32, Try.ntmps32
    go_wp2_with fail
    go_ret
    exact ⟨by rw [HF.out]; rfl, Below.refl _ _⟩
end Go.Proofs.Ytlagmjdldplblaa
/- The statement DiskSafe. -/
namespace Go.Proofs.Ytlagmjdldplblaa
open Go.ChangeShapes Go.WideShapes Go.ChangeAt Go.RowKit Go.WideMaps Go.Maps
set_option linter.unusedVariables false
set_option maxRecDepth 4000

theorem LowI8.of {w0 : World} {I : Nat → Prop} {A : Option Addr} {n : Nat} {zs : List Int} (h : BV w0 A n zs) : LowI8 w0 I A n := (Low.of h).imp id (fun h x hx => .inl (h x hx))
theorem BV.kpi {w0 w w' : World} {I : Nat → Prop} {A : Option Addr} {n : Nat} {zs : List Int} (h : BV w A n zs) (hA : ∀ y, A = some y → I y.block) (hk : Kp (NotI w0 I) w w') : BV w' A n zs :=
  h.other (fun y hy hl => hk.block _ hl (fun hn => hn.2 (hA y hy)))
theorem SV.kpi {q : Nat} {w0 w w' : World} {I : Nat → Prop} {A : Option Addr} {n : Nat} {cs : List Value} (h : SV q w A n cs) (hA : ∀ y, A = some y → I y.block) (hk : Kp (NotI w0 I) w w') : SV q w' A n cs :=
  h.other (fun y hy hl => hk.block _ hl (fun hn => hn.2 (hA y hy)))
theorem mine_list : mineN.toList = [116, 104, 101, 32, 102, 105, 108, 101, 32, 111, 102, 32, 109, 105, 110, 101] := by kernel_rfl
theorem mine_ne {s : ByteArray} (h : s ≠ mineN) : ¬ s.toList = [116, 104, 101, 32, 102, 105, 108, 101, 32, 111, 102, 32, 109, 105, 110, 101] := fun e => h (toList_inj (e.trans mine_list.symm))
theorem mine_neb {s : ByteArray} (h : s ≠ mineN) : (s.toList == [116, 104, 101, 32, 102, 105, 108, 101, 32, 111, 102, 32, 109, 105, 110, 101]) = false := by rw [beq_eq_false_iff_ne]; exact mine_ne h
theorem ld_bytes {w0 w : World} {p k : Nat} {M : DK} (h : LD w0 w p k M) (s : ByteArray) : ∀ z ∈ (readD M s).1, 0 ≤ z ∧ z ≤ 255 := by
  obtain ⟨⟨g, hd⟩, _⟩ := h
  unfold readD
  split
  · intro z hz; cases hz
  · split
    · intro z hz; cases hz
    · rename_i f hf
      exact hd.pl.bytes _ (hd.mem (hd.ok.place _ (findN_mem hf)))
theorem ld_names {w0 w : World} {p k : Nat} {M : DK} (h : LD w0 w p k M) : M.names.length ≤ k := by
  obtain ⟨⟨g, hd⟩, _⟩ := h
  exact hd.pl.nl
abbrev noI : Nat → Prop := fun _ => False
set_option maxHeartbeats 4000000 in
theorem safe8_is (A B T D : Option Addr) (n c m d q r dn dc : Nat) (os qs : List Op8) (x : Int) (ts bz : List Int) (w : World) (hA : OPs w A n os) (hB : OPs w B m qs) (hT : IV w T q ts) (hqr : q ≤ r) (hx : -9223372036854775808 ≤ x ∧ x ≤ 9223372036854775807) (hr : ∀ y ∈ ts, -9223372036854775808 ≤ y ∧ y ≤ maxI) (hD : BV w D dn bz) (hdc : dn ≤ dc) :
    Calls Try.prog 4 #[.agg #[.slice A n c, .slice B m d, .int .i64 x, .slice T q r], .slice D dn dc] w fun e w' => e = .returned (.bool true) ∧ Below w.heap.size w w' := by
  have hk : Below w.heap.size w (w.alloc (.cells #[.slice A n c, .slice B m d, .int .i64 x, .slice T q r] 46)) := (Below.refl _ _).alloc (Nat.le_refl _) _
  have hBk := Bk.new w #[.slice A n c, .slice B m d, .int .i64 x, .slice T q r] 46
  have hs := Lib.hid (shown8_is (w.alloc (.cells #[.slice A n c, .slice B m d, .int .i64 x, .slice T q r] 46)))
  have HI := Lib.hid (And.intro (hA.below hk) (And.intro (hB.below hk) (And.intro (SV.below hT hk) (hD.below hk))))
  have HK := Lib.hid (And.intro hk hBk)
  clear hA hB hT hD hk hBk
  go_enter Try.func4, Try.ntmps4
  go_wp2_with fail
  refine hs.out.mono ?_
  rintro e w1 ⟨rfl, hb1⟩
  obtain ⟨m1, z1, hz1, hl1, hc1, h100, hv1, hlo1, hf1⟩ := few_l (HI.out.2.2.2.below hb1) hdc
  obtain ⟨m3, z3, hz3, hl3, hv3, hlo3, hf3⟩ := some_l (SV.below HI.out.2.2.1 hb1) hqr
  have hr3 : ∀ y ∈ z3, -9223372036854775808 ≤ y ∧ y ≤ maxI := fun y hy => hr y (by rw [hz3] at hy; exact List.mem_of_mem_take hy)
  have hcl0 := (HK.out.2.below hb1).cell 0 (v := .slice A n c) rfl
  have hcl1 := (HK.out.2.below hb1).cell 1 (v := .slice B m d) rfl
  have hcl2 := (HK.out.2.below hb1).cell 2 (v := .int .i64 x) rfl
  have hcl3 := (HK.out.2.below hb1).cell 3 (v := .slice T q r) rfl
  have HO := Lib.hid (And.intro (HI.out.1.below hb1) (HI.out.2.1.below hb1))
  have HZ := Lib.hid (And.intro hv1 (And.intro hlo1 (And.intro hf1 hl1)))
  have HT := Lib.hid (And.intro hv3 (And.intro hf3 hr3))
  have HB1 := Lib.hid (Below.then HK.out.1 hb1)
  have HC := Lib.hid (And.intro hcl2 hcl3)
  clear hb1 HI HK hs hv1 hv3 hlo1 hlo3 hr3 hf1 hf3 hz1 hz3 hcl2 hcl3 hr hl1
  go_wp2_with fail
  refine (new_l w1 100000 (by unfold maxI; omega)).mono ?_
  rintro e w2 ⟨p, rfl, hL⟩
  have h2 := Lib.hid hL.lf
  clear hL hcl0 hcl1
  go_upto_block 0 with fail
  go_cut [] (fun wx => ∃ (j : Nat) (M : DK), j ≤ 30 ∧ LF w1 noI wx p (3 * j) M ∧ Hid (Ahead8 j M))
  case first =>
    go_wp2_with fail
    go_loopw [9] (fun i wr => ∃ (j : Nat) (M : DK), j ≤ 30 ∧ i = .int .i64 (j : Int) ∧ LF w1 noI wr p (3 * j) M ∧ Hid (Ahead8 j M)) (fun i _ => 30 - (intOf i).toNat)
    case atStart => exact ⟨0, _, by omega, rfl, h2.out, Lib.hid ahead_new⟩
    case round =>
      obtain ⟨j, M, hj30, rfl, hlr, HM⟩ := hrel
      have hr := Lib.hid hlr
      clear hlr h2
      have hA1 : IntKind.i64.wrap ((j : Int) + 1) = ((j + 1 : Nat) : Int) := by rw [IntKind.wrap_i64]; omega
      by_cases hlt : j < n ∧ j < 30
      · obtain ⟨hlt1, hlt2⟩ := hlt
        obtain ⟨b, off, o, rfl, hoe, hok, c0, c1, c2, c3, c4, c5⟩ := HO.out.1.at j hlt1
        replace c0 := keepc c0 hr.out.below
        replace c1 := keepc c1 hr.out.below
        replace c2 := keepc c2 hr.out.below
        replace c3 := keepc c3 hr.out.below
        replace c4 := keepc c4 hr.out.below
        replace c5 := keepc c5 hr.out.below
        obtain ⟨kd, nm, tn, bA, bn, bc, bz', num, lA, ln, lc, lz⟩ := o
        have HOK := Lib.hid hok
        have hkd := hok.kd
        clear hok hoe
        simp only at c0 c1 c2 c3 c4 c5 hkd
        have hmod : kd.tmod 10 = kd % 10 := Int.tmod_eq_emod_of_nonneg hkd.1
        have hji : (j : Int) < (n : Int) := by omega
        have hj30i : (j : Int) < 30 := by omega
        by_cases h6 : kd % 10 < 6
        · go_wp2_with fail
          refine (does_f hr.out (by omega) kd num nm tn bA bn bc bz' _ hkd HOK.out.nm HOK.out.tn (HOK.out.b.below hr.out.below) HOK.out.bl (LowI8.of HOK.out.b)).mono ?_
          rintro e w3 ⟨rfl, hL, -⟩
          have h3 := Lib.hid hL
          clear hL
          go_wp2_with fail
          go_roundw
          case rel => exact ⟨j + 1, _, by omega, by rfl, h3.out.more (by omega), Lib.hid (HM.out.does _ _ _ (by rw [List.length_take]; omega))⟩
          case measure => simp only [intOf]; omega
        · go_wp2_with fail
          go_roundw
          case rel => exact ⟨j + 1, M, by omega, by rfl, hr.out.more (by omega), Lib.hid (HM.out.more (by omega))⟩
          case measure => simp only [intOf]; omega
      · rcases (show (j < n ∧ ¬ j < 30) ∨ ¬ j < n from by omega) with ⟨hk1, hk2⟩ | hk1
        · have hj1 : (j : Int) < (n : Int) := by omega
          have hj3 : ¬ (j : Int) < 30 := by omega
          go_wp2_with fail
          go_meet
          exact ⟨j, M, hj30, hr.out, HM⟩
        · have hj1 : ¬ (j : Int) < (n : Int) := by omega
          go_wp2_with fail
          go_meet
          exact ⟨j, M, hj30, hr.out, HM⟩
  case rest =>
    clear h2
    obtain ⟨j, M, hj30, hlr, HM⟩ := hcut
    have hr := Lib.hid hlr
    clear hlr
    go_wp2_with fail
    refine (remove_f hr.out (by omega) mineN (by decide)).mono ?_
    rintro e w5 ⟨rfl, hL, -⟩
    have h5 := Lib.hid hL
    clear hL hr
    obtain ⟨hm1, f, hm2, hm3, hm4⟩ := made8_safe HM.out hj30 (own := z1) (by rw [HZ.out.2.2.2]; exact h100)
    have HMS := Lib.hid (And.intro hm1 (And.intro hm2 (And.intro hm3 hm4)))
    clear hm1 hm2 hm3 hm4
    go_wp2_with fail
    have hk5 : Below w1.heap.size w1 (w5.alloc (.cells #[] 5)) := (h5.out.alloc _).below
    refine (HZ.out.2.2.1 _ hk5).mono ?_
    rintro e w5' ⟨rfl, e5⟩
    subst e5
    have hzv := HZ.out.1.below hk5
    go_wp2_with (at_builtin; refine append_ow rfl (.tmp 64) (.tmp 66) rfl w5.heap.size _ [] rfl (OW.empty _ _ (Nat.le_refl _) _ rfl) _ m1 _ z1 rfl hzv (by simp only [List.length_nil]; omega) (by rw [heap_alloc]; omega) ?_; intro v6 w6 ho6 hb6)
    rw [List.nil_append] at ho6
    obtain ⟨oA, oC, rfl, hoc, -, hov, hol⟩ := ho6.bvn hzv.2.1 m1 HZ.out.2.2.2
    have hlo6 : ∀ y, oA = some y → w5.heap.size ≤ y.block ∧ y.block < w6.heap.size := fun y hy => ⟨hol y hy, by subst hy; exact (ho6.mono (Nat.zero_le _)).low0 rfl⟩
    have hb56 : Below w5.heap.size w5 w6 := ((Below.refl _ _).alloc (Nat.le_refl _) _).trans hb6
    have h6 := Lib.hid (h5.out.other (Kp.of_new hb56))
    have HOW := Lib.hid (And.intro hov (And.intro hoc (show ∀ y, oA = some y → AndNew noI w5 w6 y.block from fun y hy => .inr (hlo6 y hy))))
    clear ho6 hov hol hlo6 hb56 hb6 hk5 hzv h5
    go_wp2_with fail
    refine (create_f h6.out (by omega) mineN (by decide)).mono ?_
    rintro e w7 ⟨rfl, hL, hK⟩
    have h7 := Lib.hid hL
    replace HOW := Lib.hid (And.intro (HOW.out.1.kpi HOW.out.2.2 hK) HOW.out.2)
    clear hL hK
    rw [HMS.out.1]
    go_wp2_with fail
    refine (append_f h7.out (by omega) mineN (by decide) oA m1 oC z1 HOW.out.1 HOW.out.2.1 (by omega) (.inr (fun y hy => .inr (HOW.out.2.2 y hy)))).mono ?_
    rintro e w8 ⟨rfl, hL, hK⟩
    have h8 := Lib.hid hL
    replace HOW := Lib.hid (And.intro (HOW.out.1.kpi HOW.out.2.2 hK) HOW.out.2)
    clear hL hK
    go_wp2_with fail
    refine (sync_f h8.out (by omega) mineN (by decide)).mono ?_
    rintro e w9 ⟨rfl, hL, hK⟩
    have h9 := Lib.hid hL
    replace HOW := Lib.hid (And.intro (HOW.out.1.kpi HOW.out.2.2 hK) HOW.out.2)
    clear hL hK
    go_wp2_with fail
    refine (syncDir_f h9.out (by omega)).mono ?_
    rintro e w10 ⟨rfl, hL, hK⟩
    have h10 := Lib.hid hL
    replace HOW := Lib.hid (And.intro (HOW.out.1.kpi HOW.out.2.2 hK) HOW.out.2)
    clear hL hK
    have h10' := Lib.hid (show LF w1 (AndNew noI w5 w6) w10 p (3 * j + 3 + 3 + 3 + 3 + 3) (made8 M z1) from h10.out)
    clear h6 h7 h8 h9 h10
    go_wp2_with fail
    refine (names_l h10'.out.ld (by omega)).mono ?_
    rintro e w11 ⟨v, rfl, ho, hb11⟩
    obtain ⟨kA, kc, rfl, hkc, -, hkv, hkl, -⟩ := ho.sv
    have hko : ∀ y, kA = some y → w10.heap.size ≤ y.block ∧ y.block < w11.heap.size := fun y hy => ⟨hkl y hy, by subst hy; exact (ho.lower (Nat.zero_le _)).low0 rfl⟩
    have h11 := Lib.hid (h10'.out.other (Kp.of_new hb11))
    have HKV := Lib.hid (And.intro (show TV w11 kA (made8 M z1).names.length ((made8 M z1).kept.map (fun n => n.1)) by rw [HMS.out.2.2.1]; exact hkv) (show ∀ y, kA = some y → AndNew (AndNew noI w5 w6) w10 w11 y.block from fun y hy => .inr (hko y hy)))
    replace HOW := Lib.hid (And.intro (HOW.out.1.below hb11) (And.intro HOW.out.2.1 (show ∀ y, oA = some y → AndNew (AndNew noI w5 w6) w10 w11 y.block from fun y hy => .inl (HOW.out.2.2 y hy))))
    have HB8 := Lib.hid (show Behind8 z1 f 0 (made8 M z1) from ⟨HMS.out.2.1, by have := HMS.out.2.2.2; omega, by rw [HMS.out.2.2.1]; have := HMS.out.2.2.2; omega⟩)
    replace h11 := Lib.hid (h11.out.more (show 3 * j + 3 + 3 + 3 + 3 + 3 ≤ 150 by omega))
    generalize AndNew (AndNew noI w5 w6) w10 w11 = I at h11 HKV HOW
    generalize (made8 M z1) = N at *
    generalize N.names.length = kn at *
    clear ho hkv hkl hko hb11 h10' HMS HM hkc
    go_upto_block 2 with fail
    go_cut [13] (fun v wx => ∃ (j : Nat) (N : DK) (I : Nat → Prop) (kA : Option Addr) (kn kc : Nat), j ≤ 30 ∧ v = .slice kA kn kc ∧ LF w1 I wx p (150 + 3 * j) N ∧ Hid (Behind8 z1 f j N) ∧ Hid (TV wx kA kn (N.kept.map (fun n => n.1)) ∧ ∀ y, kA = some y → I y.block) ∧ Hid (BV wx oA m1 z1 ∧ m1 ≤ oC ∧ ∀ y, oA = some y → I y.block))
    case first =>
      go_wp2_with fail
      go_loopw [13, 14] (fun v i wr => ∃ (j : Nat) (N : DK) (I : Nat → Prop) (kA : Option Addr) (kn kc : Nat), j ≤ 30 ∧ i = .int .i64 (j : Int) ∧ v = .slice kA kn kc ∧ LF w1 I wr p (150 + 3 * j) N ∧ Hid (Behind8 z1 f j N) ∧ Hid (TV wr kA kn (N.kept.map (fun n => n.1)) ∧ ∀ y, kA = some y → I y.block) ∧ Hid (BV wr oA m1 z1 ∧ m1 ≤ oC ∧ ∀ y, oA = some y → I y.block)) (fun _ i _ => 30 - (intOf i).toNat)
      case atStart => exact ⟨0, N, I, kA, kn, kc, by omega, rfl, rfl, h11.out, HB8, HKV, HOW⟩
      case round =>
        clear h11 HB8 HKV HOW hj30
        obtain ⟨j, N, I, kA, kn, kc, hj30, rfl, rfl, hlr, HN, HKV, HOW⟩ := hrel
        have hr := Lib.hid hlr
        clear hlr
        have hA1 : IntKind.i64.wrap ((j : Int) + 1) = ((j + 1 : Nat) : Int) := by rw [IntKind.wrap_i64]; omega
        by_cases hlt : j < m ∧ j < 30
        · obtain ⟨hlt1, hlt2⟩ := hlt
          obtain ⟨b, off, o, rfl, hoe, hok, c0, c1, c2, c3, c4, c5⟩ := HO.out.2.at j hlt1
          replace c0 := keepc c0 hr.out.below
          replace c1 := keepc c1 hr.out.below
          replace c2 := keepc c2 hr.out.below
          replace c3 := keepc c3 hr.out.below
          replace c4 := keepc c4 hr.out.below
          replace c5 := keepc c5 hr.out.below
          obtain ⟨kd, nm, tn, bA, bn, bc, bz', num, lA, ln, lc, lz⟩ := o
          have HOK := Lib.hid hok
          have hkd := hok.kd
          clear hok hoe
          simp only at c0 c1 c2 c3 c4 c5 hkd
          have hmod : kd.tmod 10 = kd % 10 := Int.tmod_eq_emod_of_nonneg hkd.1
          have hji : (j : Int) < (m : Int) := by omega
          have hj30i : (j : Int) < 30 := by omega
          have hbo : Below wr.heap.size wr (wr.alloc (.cells #[.int .u8 kd, .string nm, .string tn, .slice bA bn bc, .int .i64 num, .slice lA ln lc] 31)) := (Below.refl _ _).alloc (Nat.le_refl _) _
          have d0 := (Bk.new wr #[.int .u8 kd, .string nm, .string tn, .slice bA bn bc, .int .i64 num, .slice lA ln lc] 31).cell 0 (v := .int .u8 kd) rfl
          have hro := Lib.hid (hr.out.other (Kp.of_new hbo))
          have hdI : AndNew I wr (wr.alloc (.cells #[.int .u8 kd, .string nm, .string tn, .slice bA bn bc, .int .i64 num, .slice lA ln lc] 31)) wr.heap.size := .inr ⟨Nat.le_refl _, by simp⟩
          have hbA := Lib.hid (HOK.out.b.below hro.out.below)
          replace HKV := Lib.hid (And.intro (SV.below HKV.out.1 hbo) (show ∀ y, kA = some y → AndNew I wr (wr.alloc (.cells #[.int .u8 kd, .string nm, .string tn, .slice bA bn bc, .int .i64 num, .slice lA ln lc] 31)) y.block from fun y hy => .inl (HKV.out.2 y hy)))
          replace HOW := Lib.hid (And.intro (HOW.out.1.below hbo) (And.intro HOW.out.2.1 (show ∀ y, oA = some y → AndNew I wr (wr.alloc (.cells #[.int .u8 kd, .string nm, .string tn, .slice bA bn bc, .int .i64 num, .slice lA ln lc] 31)) y.block from fun y hy => .inl (HOW.out.2.2 y hy))))
          have HDI := Lib.hid hdI
          clear hbo hdI
          by_cases h6 : kd % 10 < 6
          · by_cases h4 : kd % 10 < 4
            · have hkq : (kd % 10).toNat < 4 := by omega
              by_cases h3 : kd % 10 = 3
              · have hq3 : (kd % 10).toNat = 3 := by omega
                go_wp2_with fail
                refine (does_f hro.out (by omega) kd num nm tn bA bn bc bz' _ hkd HOK.out.nm HOK.out.tn hbA.out HOK.out.bl (LowI8.of HOK.out.b)).mono ?_
                rintro e w3 ⟨rfl, hL, hK⟩
                replace HKV := Lib.hid (And.intro (SV.kpi HKV.out.1 HKV.out.2 hK) HKV.out.2)
                replace HOW := Lib.hid (And.intro (HOW.out.1.kpi HOW.out.2.2 hK) HOW.out.2)
                replace d0 := hK.cell d0 (fun hn => hn.2 HDI.out)
                clear hK
                rw [hq3] at hL ⊢
                rw [(behind_kept HN.out.safe.free _ _ _).1]
                have h3' := Lib.hid hL
                have HB' := Lib.hid (HN.out.does 3 (sh24 nm) (sh24 tn) (bz'.take 100) (.inl (by omega)))
                have hkt := Lib.hid (behind_kept HN.out.safe.free (sh24 nm) (sh24 tn) (bz'.take 100)).2
                generalize (doesD N 3 (sh24 nm) (sh24 tn) (bz'.take 100)).1 = N' at *
                clear hL
                go_wp2_with fail
                refine (names_l h3'.out.ld (by omega)).mono ?_
                rintro e w4 ⟨v, rfl, ho, hb4⟩
                obtain ⟨kA', kc', rfl, hkc, -, hkv, hkl, -⟩ := ho.sv
                have hko : ∀ y, kA' = some y → w3.heap.size ≤ y.block ∧ y.block < w4.heap.size := fun y hy => ⟨hkl y hy, by subst hy; exact (ho.lower (Nat.zero_le _)).low0 rfl⟩
                have h4' := Lib.hid (h3'.out.other (Kp.of_new hb4))
                rw [hkt.out] at hkv
                have HKV' := Lib.hid (And.intro hkv hko)
                replace HOW := Lib.hid (And.intro (HOW.out.1.below hb4) HOW.out.2)
                clear ho hkv hkl hko hb4 hkc d0 h3'
                go_wp2_with fail
                go_roundw
                case rel => exact ⟨j + 1, N', _, kA', _, kc', by omega, by rfl, rfl, h4'.out.more (by omega), HB', Lib.hid ⟨HKV'.out.1, fun y hy => .inr (HKV'.out.2 y hy)⟩, Lib.hid ⟨HOW.out.1, HOW.out.2.1, fun y hy => .inl (HOW.out.2.2 y hy)⟩⟩
                case measure => simp only [intOf]; omega
              · have hq3 : (kd % 10).toNat ≠ 3 := by omega
                go_wp2_with fail
                refine (does_f hro.out (by omega) kd num nm tn bA bn bc bz' _ hkd HOK.out.nm HOK.out.tn hbA.out HOK.out.bl (LowI8.of HOK.out.b)).mono ?_
                rintro e w3 ⟨rfl, hL, hK⟩
                replace HKV := Lib.hid (And.intro (SV.kpi HKV.out.1 HKV.out.2 hK) HKV.out.2)
                replace HOW := Lib.hid (And.intro (HOW.out.1.kpi HOW.out.2.2 hK) HOW.out.2)
                replace d0 := hK.cell d0 (fun hn => hn.2 HDI.out)
                clear hK
                have h3' := Lib.hid hL
                have HB' := Lib.hid (HN.out.does (kd % 10).toNat (sh24 nm) (sh24 tn) (bz'.take 100) (.inl hkq))
                have hkt := Lib.hid (behind_kept' HN.out.safe.free (kd % 10).toNat (sh24 nm) (sh24 tn) (bz'.take 100) (by omega))
                replace HKV := Lib.hid (show TV w3 kA kn ((doesD N (kd % 10).toNat (sh24 nm) (sh24 tn) (bz'.take 100)).1.kept.map (fun n => n.1)) ∧ _ from And.intro (by rw [hkt.out]; exact HKV.out.1) HKV.out.2)
                clear hkt hL
                generalize (doesD N (kd % 10).toNat (sh24 nm) (sh24 tn) (bz'.take 100)).1 = N' at *
                generalize (doesD N (kd % 10).toNat (sh24 nm) (sh24 tn) (bz'.take 100)).2 = e2 at *
                go_wp2_with fail
                go_roundw
                case rel => exact ⟨j + 1, N', _, kA, kn, kc, by omega, by rfl, rfl, h3'.out.more (by omega), HB', HKV, HOW⟩
                case measure => simp only [intOf]; omega
            · have hkq : (kd % 10).toNat ≠ 3 := by omega
              have h3 : ¬ kd % 10 = 3 := by omega
              obtain ⟨s, hse⟩ : ∃ s, sh24 nm = s := ⟨_, rfl⟩
              obtain ⟨t, hte⟩ : ∃ t, sh24 tn = t := ⟨_, rfl⟩
              go_wp2_with fail
              refine (short8_any nm _ HOK.out.nm).mono ?_
              rintro e w3 ⟨rfl, ew⟩
              subst ew
              rw [hse]
              by_cases hs : s = mineN
              · rw [hs]
                go_wp2_with fail
                go_roundw
                case rel => exact ⟨j + 1, N, _, kA, kn, kc, by omega, by rfl, rfl, hro.out.more (by omega), Lib.hid (HN.out.more (by omega)), HKV, HOW⟩
                case measure => simp only [intOf]; omega
              · have hne := mine_ne hs
                have hneb := mine_neb hs
                go_wp2_with fail
                refine (short8_any tn _ HOK.out.tn).mono ?_
                rintro e w3 ⟨rfl, ew⟩
                subst ew
                rw [hte]
                by_cases ht : t = mineN
                · rw [ht]
                  go_wp2_with fail
                  go_roundw
                  case rel => exact ⟨j + 1, N, _, kA, kn, kc, by omega, by rfl, rfl, hro.out.more (by omega), Lib.hid (HN.out.more (by omega)), HKV, HOW⟩
                  case measure => simp only [intOf]; omega
                · have hnt := mine_ne ht
                  have hntb := mine_neb ht
                  go_wp2_with fail
                  refine (does_f hro.out (by omega) kd num nm tn bA bn bc bz' _ hkd HOK.out.nm HOK.out.tn hbA.out HOK.out.bl (LowI8.of HOK.out.b)).mono ?_
                  rintro e w3 ⟨rfl, hL, hK⟩
                  replace HKV := Lib.hid (And.intro (SV.kpi HKV.out.1 HKV.out.2 hK) HKV.out.2)
                  replace HOW := Lib.hid (And.intro (HOW.out.1.kpi HOW.out.2.2 hK) HOW.out.2)
                  replace d0 := hK.cell d0 (fun hn => hn.2 HDI.out)
                  clear hK
                  have h3' := Lib.hid hL
                  have HB' := Lib.hid (HN.out.does (kd % 10).toNat (sh24 nm) (sh24 tn) (bz'.take 100) (.inr ⟨by rw [hse]; exact hs, by rw [hte]; exact ht⟩))
                  have hkt := Lib.hid (behind_kept' HN.out.safe.free (kd % 10).toNat (sh24 nm) (sh24 tn) (bz'.take 100) (by omega))
                  replace HKV := Lib.hid (show TV w3 kA kn ((doesD N (kd % 10).toNat (sh24 nm) (sh24 tn) (bz'.take 100)).1.kept.map (fun n => n.1)) ∧ _ from And.intro (by rw [hkt.out]; exact HKV.out.1) HKV.out.2)
                  clear hkt hL
                  generalize (doesD N (kd % 10).toNat (sh24 nm) (sh24 tn) (bz'.take 100)).1 = N' at *
                  generalize (doesD N (kd % 10).toNat (sh24 nm) (sh24 tn) (bz'.take 100)).2 = e2 at *
                  go_wp2_with fail
                  go_roundw
                  case rel => exact ⟨j + 1, N', _, kA, kn, kc, by omega, by rfl, rfl, h3'.out.more (by omega), HB', HKV, HOW⟩
                  case measure => simp only [intOf]; omega
          · go_wp2_with fail
            go_roundw
            case rel => exact ⟨j + 1, N, _, kA, kn, kc, by omega, by rfl, rfl, hro.out.more (by omega), Lib.hid (HN.out.more (by omega)), HKV, HOW⟩
            case measure => simp only [intOf]; omega
        · rcases (show (j < m ∧ ¬ j < 30) ∨ ¬ j < m from by omega) with ⟨hm1, hm2⟩ | hm1
          · have hj1 : (j : Int) < (m : Int) := by omega
            have hj3 : ¬ (j : Int) < 30 := by omega
            go_wp2_with fail
            go_meet
            exact ⟨j, N, I, kA, kn, kc, hj30, rfl, hr.out, HN, HKV, HOW⟩
          · have hj1 : ¬ (j : Int) < (m : Int) := by omega
            go_wp2_with fail
            go_meet
            exact ⟨j, N, I, kA, kn, kc, hj30, rfl, hr.out, HN, HKV, HOW⟩
    case rest =>
      clear h11 HB8 HKV HOW hj30
      obtain ⟨j, N, I, kA, kn, kc, hj30, rfl, hlr, HN, HKV, HOW⟩ := hcut
      have hr := Lib.hid hlr
      clear hlr
      obtain ⟨all, kk, ha1, ha2, ha3, ha4, ha5, ha6, ha7, ha8, ha9⟩ := behind_found HN.out x z3
      have hby := ld_bytes hr.out.ld mineN
      rw [ha1] at hby
      have HA := Lib.hid (And.intro ha1 (And.intro ha4 (And.intro ha5 (And.intro ha6 (And.intro ha7 (And.intro ha8 (And.intro ha9 hby)))))))
      have hz1l := HZ.out.2.2.2
      have hkn := TV.len HKV.out.1
      have hkn2 := HN.out.kept
      rw [List.length_map] at hkn
      clear ha1 ha4 ha5 ha6 ha7 ha8 ha9 hby
      go_wp2_with fail
      refine (read_l hr.out.ld (by omega) mineN (by decide)).mono ?_
      intro e w4 hr1
      rw [HA.out.1] at hr1
      obtain ⟨v1, rfl, hv1, hb4⟩ := hr1
      obtain ⟨L, hLe⟩ : ∃ L, all.length = L := ⟨_, rfl⟩
      obtain ⟨a1, k1, rfl, hLk, -, hbv1, -⟩ := hv1.bvn HA.out.2.2.2.2.2.2.2 L hLe
      have h4 := Lib.hid (hr.out.ld.below hb4)
      have HV := Lib.hid (And.intro hbv1 (And.intro (SV.below HKV.out.1 hb4) (HOW.out.1.below hb4)))
      have hoC := HOW.out.2.1
      clear hv1 hb4 hbv1 HKV HOW hr
      go_wp2_with fail
      have d2 := keepc HC.out.1 h4.out.2
      have d3 := keepc HC.out.2 h4.out.2
      refine wp_region_noPanic ?_
      refine region_g 6 (Old w4) (by kernel_rfl) ((Old.refl w4).drew) (fun hS => ?_)
      refine take_w (i := 0) (v := ?_) (some 141) rfl (by kernel_rfl) rfl (fun _ _ _ h => h) (Or.inl ⟨by rfl, ?_⟩) hS ?_
      rotate_left
      · (intro wq hq; go_simp); first | done | with_reducible rfl
      try simp only [Act.put, List.setIfInBounds_toArray, List.set_cons_zero, List.set_cons_succ]
      replace hS := Till.list 0 hS
      refine take_w (i := 1) (v := ?_) (some 142) rfl (by kernel_rfl) rfl (fun _ _ _ h => h) (Or.inl ⟨by rfl, ?_⟩) hS ?_
      rotate_left
      · (intro wq hq; go_simp); first | done | with_reducible rfl
      try simp only [Act.put, List.setIfInBounds_toArray, List.set_cons_zero, List.set_cons_succ]
      replace hS := Till.list 1 hS
      refine take_w (i := 3) (v := ?_) (some 144) rfl (by kernel_rfl) rfl (fun _ _ _ h => h) (Or.inl ⟨by rfl, ?_⟩) hS ?_
      rotate_left
      · (intro wq hq; go_simp); first | done | with_reducible rfl
      try simp only [Act.put, List.setIfInBounds_toArray, List.set_cons_zero, List.set_cons_succ]
      replace hS := Till.list 3 hS
      refine take_g (i := 2) (v := ?_) [2] (some 143) rfl (by kernel_rfl) rfl (fun _ _ _ h => h) (Or.inl ⟨by rfl, ?_⟩) hS ?_
      rotate_left
      · (intro wq hq; have r2 := hq.cell d2; have r3 := hq.cell d3; go_simp); first | done | with_reducible rfl
      try simp only [Act.put, List.setIfInBounds_toArray, List.set_cons_zero, List.set_cons_succ]
      replace hS := Till.list 2 hS
      refine take_g (i := 4) (v := ?_) [5, 4] (some 145) rfl (by kernel_rfl) rfl (fun _ _ _ h => h) (Or.inl ⟨by rfl, ?_⟩) hS ?_
      rotate_left
      · (intro wq hq; have r2 := hq.cell d2; have r3 := hq.cell d3; go_simp); first | done | with_reducible rfl
      try simp only [Act.put, List.setIfInBounds_toArray, List.set_cons_zero, List.set_cons_succ]
      replace hS := Till.list 4 hS
      refine ready_g (rs := [5]) (by kernel_rfl) (by simp) ?_
      refine AllReadyG.cons rfl (fun Kont hK => ?_) AllReadyG.nil
      go_simp
      refine (HT.out.2.1 _ h4.out.2.drew).mono ?_
      rintro e w5 ⟨rfl, e5⟩
      subst e5
      refine hK.out _ _ (Or.inr ((hS.get (by kernel_rfl)))) (fun hS0 => ?_)
      clear hK Kont
      try simp only [Act.put, List.setIfInBounds_toArray, List.set_cons_zero, List.set_cons_succ]
      clear hS
      have hS := hS0
      clear hS0
      refine ready_g (rs := [6]) (by kernel_rfl) (by simp) ?_
      refine AllReadyG.cons rfl (fun Kont hK => ?_) AllReadyG.nil
      go_simp
      refine (crash_l h4.out.drew (by omega) x T m3 r z3 (SV.below (SV.below HT.out.1 h4.out.2) ((Below.refl _ _).drew)) (by omega) HT.out.2.2).mono ?_
      rintro e w5 ⟨xq, rfl, hx5, hp5⟩
      refine hK.out _ _ (Or.inl (by kernel_rfl)) (fun hS0 => ?_)
      clear hK Kont
      try simp only [Act.put, List.setIfInBounds_toArray, List.set_cons_zero, List.set_cons_succ]
      clear hS
      have hS := hS0
      clear hS0
      refine take_w (i := 7) (v := ?_) (some 19) rfl (by kernel_rfl) rfl (fun _ _ _ h => h) (Or.inl ⟨by rfl, ?_⟩) hS ?_
      rotate_left
      · (intro wq hq; go_simp); first | done | with_reducible rfl
      try simp only [Act.put, List.setIfInBounds_toArray, List.set_cons_zero, List.set_cons_succ]
      replace hS := Till.list 7 hS
      refine done_g (by kernel_rfl) (NoPanic.normal ?_) _
      clear hS
      have h5 := Lib.hid (And.intro hx5 hp5)
      have HV5 := Lib.hid (And.intro (HV.out.1.below (((Below.refl _ _).drew).trans hx5.2)) (And.intro (SV.below HV.out.2.1 (((Below.refl _ _).drew).trans hx5.2)) (HV.out.2.2.below (((Below.refl _ _).drew).trans hx5.2))))
      clear hx5 hp5 d2 d3 HV h4
      go_wp2_with fail
      refine (read_l h5.out.1 (by omega) mineN (by decide)).mono ?_
      intro e w6 hr1
      rw [HA.out.2.1] at hr1
      obtain ⟨v2, rfl, hv2, hb6⟩ := hr1
      have hgb : ∀ z ∈ all.take kk, 0 ≤ z ∧ z ≤ 255 := fun z hz => HA.out.2.2.2.2.2.2.2 z (List.mem_of_mem_take hz)
      obtain ⟨a2, k2, rfl, hLk2, -, hbv2, -⟩ := hv2.bvn hgb kk HA.out.2.2.2.2.1
      have h6 := Lib.hid (And.intro (h5.out.1.below hb6) (h5.out.2.below hb6))
      have HV6 := Lib.hid (And.intro (HV5.out.1.below hb6) (And.intro (SV.below HV5.out.2.1 hb6) (And.intro (HV5.out.2.2.below hb6) hbv2)))
      clear hv2 hb6 hbv2 h5 HV5
      go_wp2_with fail
      refine (crash_nil h6.out.1 (by omega) 0).mono ?_
      rintro e w7 ⟨aq, rfl, hx7, hp7⟩
      have hb7 := hx7.2
      have h7 := Lib.hid (And.intro hx7 (And.intro hp7 (h6.out.2.below hb7)))
      have HV7 := Lib.hid (And.intro (HV6.out.1.below hb7) (And.intro (SV.below HV6.out.2.1 hb7) (And.intro (HV6.out.2.2.1.below hb7) (HV6.out.2.2.2.below hb7))))
      clear hx7 hp7 hb7 h6 HV6
      go_wp2_with fail
      refine (names_l h7.out.2.1 (by omega)).mono ?_
      rintro e w8 ⟨v, rfl, ho, hb8⟩
      have hnl := ld_names h7.out.2.1
      obtain ⟨fA, fc, rfl, -, -, hfv, -, -⟩ := ho.sv
      have h8 := Lib.hid (And.intro (h7.out.1.below hb8) (And.intro (h7.out.2.1.below hb8) (h7.out.2.2.below hb8)))
      have HV8 := Lib.hid (And.intro (HV7.out.1.below hb8) (And.intro (SV.below HV7.out.2.1 hb8) (And.intro (HV7.out.2.2.1.below hb8) (And.intro (HV7.out.2.2.2.below hb8) (show TV w8 fA (crashD N x z3).names.length (textsD (crashD N x z3)) from hfv)))))
      clear ho hb8 hfv h7 HV7
      go_wp2_with fail
      refine (same8_any fA _ fc _ kA kn kc _ w8 HV8.out.2.2.2.2 HV8.out.2.1 (by omega) (by omega)).mono ?_
      rintro e w9 ⟨rfl, hb9⟩
      have hal : x ≤ 0 → decide (textsD (crashD N x z3) = N.kept.map (fun n => n.1)) = true := fun hx0 => decide_eq_true (HA.out.2.2.2.2.2.1 hx0)
      generalize decide (textsD (crashD N x z3) = N.kept.map (fun n => n.1)) = al at *
      generalize (crashD N x z3).names.length = fn at *
      have h9 := Lib.hid (And.intro (h8.out.1.below hb9) (And.intro (h8.out.2.1.below hb9) (h8.out.2.2.below hb9)))
      have HV9 := Lib.hid (And.intro (HV8.out.1.below hb9) (And.intro (HV8.out.2.2.1.below hb9) (HV8.out.2.2.2.1.below hb9)))
      clear hb9 h8 HV8
      have d2 := keepc HC.out.1 h9.out.2.2.2
      go_upto_region 37 with fail
      go_cut [172] (fun s wx => s = .bool false ∧ wx = w9)
      case first =>
        by_cases hx0 : x ≤ 0
        · have hal2 := hal hx0
          subst hal2
          clear hal
          go_wp2_with fail
          go_meet
          exact ⟨rfl, rfl⟩
        · clear hal
          go_wp2_with fail
          go_meet
          exact ⟨rfl, rfl⟩
      case rest =>
        obtain ⟨rfl, rfl⟩ := hcut
        clear hal
        go_wp2_with fail
        refine (read_l h9.out.1 (by omega) mineN (by decide)).mono ?_
        intro e w10 hr1
        rw [HA.out.2.2.1] at hr1
        obtain ⟨v3, rfl, hv3, hb10⟩ := hr1
        obtain ⟨a3, k3, rfl, -, -, hbv3, -⟩ := hv3.bvn hgb kk HA.out.2.2.2.2.1
        have h10 := Lib.hid (And.intro (h9.out.2.1.below hb10) (h9.out.2.2.below hb10))
        have hgt := HA.out.2.2.2.1
        rw [hz1l] at hgt
        have hall : all.take kk = all.take kk := rfl
        have f1 := fun wq (hq : Old w10 wq) => conv_any ((HV9.out.2.2.below hb10).old hq) k2
        have f2 := fun wq (hq : Old w10 wq) => conv_any (((HV9.out.1.below hb10).take kk (by omega)).old hq) k1
        have f3 := fun wq (hq : Old w10 wq) => conv_any (((HV9.out.2.2.below hb10).take m1 (by omega)).old hq) k2
        rw [hgt] at f3
        have f4 := fun wq (hq : Old w10 wq) => conv_any ((HV9.out.2.1.below hb10).old hq) oC
        have f5 := fun wq (hq : Old w10 wq) => conv_any (hbv3.old hq) k3
        clear hv3 hb10 hbv3 h9 HV9 hgt hall d2
        generalize all.take kk = gt at *
        have q1 : (m1 : Int) ≤ (kk : Int) := by omega
        have q2 : (kk : Int) ≤ (L : Int) := by omega
        have q3 : (kk : Int) ≤ (k1 : Int) := by omega
        have q4 : kk ≤ k1 := by omega
        have q5 : (0 : Int) ≤ (kk : Int) := by omega
        have q6 : (m1 : Int) ≤ (k2 : Int) := by omega
        have q7 : m1 ≤ k2 := by omega
        have q8 : (0 : Int) ≤ (m1 : Int) := by omega
        have hst := HA.out.2.2.2.2.2.2.1
        go_wp2_with fail
        refine wp_region_noPanic ?_
        refine region_g 49 (Old w10) (by kernel_rfl) ((Old.refl w10).drew) (fun hS => ?_)
        refine take_w (i := 0) (v := ?_) (some 179) rfl (by kernel_rfl) rfl (fun _ _ _ h => h) (Or.inl ⟨by rfl, ?_⟩) hS ?_
        rotate_left
        · (intro wq hq; go_simp); first | done | with_reducible rfl
        try simp only [Act.put, List.setIfInBounds_toArray, List.set_cons_zero, List.set_cons_succ]
        replace hS := Till.list 0 hS
        refine take_w (i := 1) (v := ?_) (some 180) rfl (by kernel_rfl) rfl (fun _ _ _ h => h) (Or.inl ⟨by rfl, ?_⟩) hS ?_
        rotate_left
        · (intro wq hq; go_simp); first | done | with_reducible rfl
        try simp only [Act.put, List.setIfInBounds_toArray, List.set_cons_zero, List.set_cons_succ]
        replace hS := Till.list 1 hS
        refine take_w (i := 2) (v := ?_) (some 181) rfl (by kernel_rfl) rfl (fun _ _ _ h => h) (Or.inl ⟨by rfl, ?_⟩) hS ?_
        rotate_left
        · (intro wq hq; go_simp); first | done | with_reducible rfl
        try simp only [Act.put, List.setIfInBounds_toArray, List.set_cons_zero, List.set_cons_succ]
        replace hS := Till.list 2 hS
        refine take_w (i := 3) (v := ?_) (some 182) rfl (by kernel_rfl) rfl (fun _ _ _ h => h) (Or.inl ⟨by rfl, ?_⟩) hS ?_
        rotate_left
        · (intro wq hq; go_simp); first | done | with_reducible rfl
        try simp only [Act.put, List.setIfInBounds_toArray, List.set_cons_zero, List.set_cons_succ]
        replace hS := Till.list 3 hS
        refine take_w (i := 4) (v := ?_) (some 183) rfl (by kernel_rfl) rfl (fun _ _ _ h => h) (Or.inl ⟨by rfl, ?_⟩) hS ?_
        rotate_left
        · (intro wq hq; go_simp); first | done | with_reducible rfl
        try simp only [Act.put, List.setIfInBounds_toArray, List.set_cons_zero, List.set_cons_succ]
        replace hS := Till.list 4 hS
        refine take_w (i := 5) (v := ?_) (some 184) rfl (by kernel_rfl) rfl (fun _ _ _ h => h) (Or.inl ⟨by rfl, ?_⟩) hS ?_
        rotate_left
        · (intro wq hq; go_simp); first | done | with_reducible rfl
        try simp only [Act.put, List.setIfInBounds_toArray, List.set_cons_zero, List.set_cons_succ]
        replace hS := Till.list 5 hS
        refine take_w (i := 6) (v := ?_) (some 185) rfl (by kernel_rfl) rfl (fun _ _ _ h => h) (Or.inl ⟨by rfl, ?_⟩) hS ?_
        rotate_left
        · (intro wq hq; go_simp); first | done | with_reducible rfl
        try simp only [Act.put, List.setIfInBounds_toArray, List.set_cons_zero, List.set_cons_succ]
        replace hS := Till.list 6 hS
        refine take_w (i := 7) (v := ?_) (some 186) rfl (by kernel_rfl) rfl (fun _ _ _ h => h) (Or.inl ⟨by rfl, ?_⟩) hS ?_
        rotate_left
        · (intro wq hq; go_simp); first | done | with_reducible rfl
        try simp only [Act.put, List.setIfInBounds_toArray, List.set_cons_zero, List.set_cons_succ]
        replace hS := Till.list 7 hS
        refine take_w (i := 9) (v := ?_) (some 188) rfl (by kernel_rfl) rfl (fun _ _ _ h => h) (Or.inl ⟨by rfl, ?_⟩) hS ?_
        rotate_left
        · (intro wq hq; go_simp); first | done | with_reducible rfl
        try simp only [Act.put, List.setIfInBounds_toArray, List.set_cons_zero, List.set_cons_succ]
        replace hS := Till.list 9 hS
        refine take_w (i := 8) (v := ?_) (some 187) rfl (by kernel_rfl) rfl (fun _ _ _ h => h) (Or.inl ⟨by rfl, ?_⟩) hS ?_
        rotate_left
        · (intro wq hq; go_simp); first | done | with_reducible rfl
        try simp only [Act.put, List.setIfInBounds_toArray, List.set_cons_zero, List.set_cons_succ]
        replace hS := Till.list 8 hS
        refine take_w (i := 10) (v := ?_) (some 189) rfl (by kernel_rfl) rfl (fun _ _ _ h => h) (Or.inl ⟨by rfl, ?_⟩) hS ?_
        rotate_left
        · (intro wq hq; go_simp); first | done | with_reducible rfl
        try simp only [Act.put, List.setIfInBounds_toArray, List.set_cons_zero, List.set_cons_succ]
        replace hS := Till.list 10 hS
        refine take_w (i := 11) (v := ?_) (some 190) rfl (by kernel_rfl) rfl (fun _ _ _ h => h) (Or.inl ⟨by rfl, ?_⟩) hS ?_
        rotate_left
        · (intro wq hq; go_simp); first | done | with_reducible rfl
        try simp only [Act.put, List.setIfInBounds_toArray, List.set_cons_zero, List.set_cons_succ]
        replace hS := Till.list 11 hS
        refine take_w (i := 12) (v := ?_) (some 191) rfl (by kernel_rfl) rfl (fun _ _ _ h => h) (Or.inl ⟨by rfl, ?_⟩) hS ?_
        rotate_left
        · (intro wq hq; go_simp); first | done | with_reducible rfl
        try simp only [Act.put, List.setIfInBounds_toArray, List.set_cons_zero, List.set_cons_succ]
        replace hS := Till.list 12 hS
        refine take_w (i := 13) (v := ?_) (some 192) rfl (by kernel_rfl) rfl (fun _ _ _ h => h) (Or.inl ⟨by rfl, ?_⟩) hS ?_
        rotate_left
        · (intro wq hq; go_simp); first | done | with_reducible rfl
        try simp only [Act.put, List.setIfInBounds_toArray, List.set_cons_zero, List.set_cons_succ]
        replace hS := Till.list 13 hS
        refine take_w (i := 14) (v := ?_) (some 193) rfl (by kernel_rfl) rfl (fun _ _ _ h => h) (Or.inl ⟨by rfl, ?_⟩) hS ?_
        rotate_left
        · (intro wq hq; go_simp); first | done | with_reducible rfl
        try simp only [Act.put, List.setIfInBounds_toArray, List.set_cons_zero, List.set_cons_succ]
        replace hS := Till.list 14 hS
        refine take_w (i := 16) (v := ?_) (some 195) rfl (by kernel_rfl) rfl (fun _ _ _ h => h) (Or.inl ⟨by rfl, ?_⟩) hS ?_
        rotate_left
        · (intro wq hq; go_simp); first | done | with_reducible rfl
        try simp only [Act.put, List.setIfInBounds_toArray, List.set_cons_zero, List.set_cons_succ]
        replace hS := Till.list 16 hS
        refine take_w (i := 15) (v := ?_) (some 194) rfl (by kernel_rfl) rfl (fun _ _ _ h => h) (Or.inl ⟨by rfl, ?_⟩) hS ?_
        rotate_left
        · (intro wq hq; go_simp); first | done | with_reducible rfl
        try simp only [Act.put, List.setIfInBounds_toArray, List.set_cons_zero, List.set_cons_succ]
        replace hS := Till.list 15 hS
        refine take_w (i := 17) (v := ?_) (some 196) rfl (by kernel_rfl) rfl (fun _ _ _ h => h) (Or.inl ⟨by rfl, ?_⟩) hS ?_
        rotate_left
        · (intro wq hq; go_simp); first | done | with_reducible rfl
        try simp only [Act.put, List.setIfInBounds_toArray, List.set_cons_zero, List.set_cons_succ]
        replace hS := Till.list 17 hS
        refine take_w (i := 18) (v := ?_) (some 197) rfl (by kernel_rfl) rfl (fun _ _ _ h => h) (Or.inl ⟨by rfl, ?_⟩) hS ?_
        rotate_left
        · (intro wq hq; go_simp); first | done | with_reducible rfl
        try simp only [Act.put, List.setIfInBounds_toArray, List.set_cons_zero, List.set_cons_succ]
        replace hS := Till.list 18 hS
        refine take_w (i := 19) (v := ?_) (some 198) rfl (by kernel_rfl) rfl (fun _ _ _ h => h) (Or.inl ⟨by rfl, ?_⟩) hS ?_
        rotate_left
        · (intro wq hq; go_simp); first | done | with_reducible rfl
        try simp only [Act.put, List.setIfInBounds_toArray, List.set_cons_zero, List.set_cons_succ]
        replace hS := Till.list 19 hS
        refine take_w (i := 20) (v := ?_) (some 199) rfl (by kernel_rfl) rfl (fun _ _ _ h => h) (Or.inl ⟨by rfl, ?_⟩) hS ?_
        rotate_left
        · (intro wq hq; go_simp); first | done | with_reducible rfl
        try simp only [Act.put, List.setIfInBounds_toArray, List.set_cons_zero, List.set_cons_succ]
        replace hS := Till.list 20 hS
        refine take_w (i := 21) (v := ?_) (some 200) rfl (by kernel_rfl) rfl (fun _ _ _ h => h) (Or.inl ⟨by rfl, ?_⟩) hS ?_
        rotate_left
        · (intro wq hq; go_simp); first | done | with_reducible rfl
        try simp only [Act.put, List.setIfInBounds_toArray, List.set_cons_zero, List.set_cons_succ]
        replace hS := Till.list 21 hS
        refine take_g (i := 22) (v := .string (strOfNums gt)) [47, 40, 30, 29, 28, 22] (some 201) rfl (by kernel_rfl) rfl (fun _ _ _ h => h) (Or.inl ⟨by rfl, ?_⟩) hS ?_
        · (intro wq hq; (have r1 := f1 wq hq; go_simp))
        try simp only [Act.put, List.setIfInBounds_toArray, List.set_cons_zero, List.set_cons_succ]
        replace hS := Till.list 22 hS
        refine take_w (i := 23) (v := ?_) (some 202) rfl (by kernel_rfl) rfl (fun _ _ _ h => h) (Or.inl ⟨by rfl, ?_⟩) hS ?_
        rotate_left
        · (intro wq hq; go_simp); first | done | with_reducible rfl
        try simp only [Act.put, List.setIfInBounds_toArray, List.set_cons_zero, List.set_cons_succ]
        replace hS := Till.list 23 hS
        refine take_w (i := 24) (v := ?_) (some 203) rfl (by kernel_rfl) rfl (fun _ _ _ h => h) (Or.inl ⟨by rfl, ?_⟩) hS ?_
        rotate_left
        · (intro wq hq; go_simp); first | done | with_reducible rfl
        try simp only [Act.put, List.setIfInBounds_toArray, List.set_cons_zero, List.set_cons_succ]
        replace hS := Till.list 24 hS
        refine take_w (i := 25) (v := ?_) (some 204) rfl (by kernel_rfl) rfl (fun _ _ _ h => h) (Or.inl ⟨by rfl, ?_⟩) hS ?_
        rotate_left
        · (intro wq hq; go_simp); first | done | with_reducible rfl
        try simp only [Act.put, List.setIfInBounds_toArray, List.set_cons_zero, List.set_cons_succ]
        replace hS := Till.list 25 hS
        refine take_w (i := 26) (v := ?_) (some 205) rfl (by kernel_rfl) rfl (fun _ _ _ h => h) (Or.inl ⟨by rfl, ?_⟩) hS ?_
        rotate_left
        · (intro wq hq; go_simp); first | done | with_reducible rfl
        try simp only [Act.put, List.setIfInBounds_toArray, List.set_cons_zero, List.set_cons_succ]
        replace hS := Till.list 26 hS
        refine take_g (i := 27) (v := .string (strOfNums gt)) [47, 40, 30, 29, 28, 27] (some 206) rfl (by kernel_rfl) rfl (fun _ _ _ h => h) (Or.inl ⟨by rfl, ?_⟩) hS ?_
        · (intro wq hq; (have r1 := f2 wq hq; go_simp))
        try simp only [Act.put, List.setIfInBounds_toArray, List.set_cons_zero, List.set_cons_succ]
        replace hS := Till.list 27 hS
        refine take_w (i := 28) (v := ?_) (some 207) rfl (by kernel_rfl) rfl (fun _ _ _ h => h) (Or.inl ⟨by rfl, ?_⟩) hS ?_
        rotate_left
        · (intro wq hq; go_simp); first | done | with_reducible rfl
        try simp only [Act.put, List.setIfInBounds_toArray, List.set_cons_zero, List.set_cons_succ]
        replace hS := Till.list 28 hS
        refine take_w (i := 29) (v := ?_) (some 208) rfl (by kernel_rfl) rfl (fun _ _ _ h => h) (Or.inl ⟨by rfl, ?_⟩) hS ?_
        rotate_left
        · (intro wq hq; go_simp); first | done | with_reducible rfl
        try simp only [Act.put, List.setIfInBounds_toArray, List.set_cons_zero, List.set_cons_succ]
        replace hS := Till.list 29 hS
        refine take_w (i := 30) (v := ?_) (some 209) rfl (by kernel_rfl) rfl (fun _ _ _ h => h) (Or.inl ⟨by rfl, ?_⟩) hS ?_
        rotate_left
        · (intro wq hq; go_simp); first | done | with_reducible rfl
        try simp only [Act.put, List.setIfInBounds_toArray, List.set_cons_zero, List.set_cons_succ]
        replace hS := Till.list 30 hS
        refine take_w (i := 31) (v := ?_) (some 210) rfl (by kernel_rfl) rfl (fun _ _ _ h => h) (Or.inl ⟨by rfl, ?_⟩) hS ?_
        rotate_left
        · (intro wq hq; go_simp); first | done | with_reducible rfl
        try simp only [Act.put, List.setIfInBounds_toArray, List.set_cons_zero, List.set_cons_succ]
        replace hS := Till.list 31 hS
        refine take_w (i := 32) (v := ?_) (some 211) rfl (by kernel_rfl) rfl (fun _ _ _ h => h) (Or.inl ⟨by rfl, ?_⟩) hS ?_
        rotate_left
        · (intro wq hq; go_simp); first | done | with_reducible rfl
        try simp only [Act.put, List.setIfInBounds_toArray, List.set_cons_zero, List.set_cons_succ]
        replace hS := Till.list 32 hS
        refine take_w (i := 33) (v := ?_) (some 212) rfl (by kernel_rfl) rfl (fun _ _ _ h => h) (Or.inl ⟨by rfl, ?_⟩) hS ?_
        rotate_left
        · (intro wq hq; go_simp); first | done | with_reducible rfl
        try simp only [Act.put, List.setIfInBounds_toArray, List.set_cons_zero, List.set_cons_succ]
        replace hS := Till.list 33 hS
        refine take_w (i := 34) (v := ?_) (some 213) rfl (by kernel_rfl) rfl (fun _ _ _ h => h) (Or.inl ⟨by rfl, ?_⟩) hS ?_
        rotate_left
        · (intro wq hq; go_simp); first | done | with_reducible rfl
        try simp only [Act.put, List.setIfInBounds_toArray, List.set_cons_zero, List.set_cons_succ]
        replace hS := Till.list 34 hS
        refine take_g (i := 35) (v := .string (strOfNums z1)) [47, 40, 39, 38, 35] (some 214) rfl (by kernel_rfl) rfl (fun _ _ _ h => h) (Or.inl ⟨by rfl, ?_⟩) hS ?_
        · (intro wq hq; (have r1 := f3 wq hq; go_simp))
        try simp only [Act.put, List.setIfInBounds_toArray, List.set_cons_zero, List.set_cons_succ]
        replace hS := Till.list 35 hS
        refine take_w (i := 36) (v := ?_) (some 215) rfl (by kernel_rfl) rfl (fun _ _ _ h => h) (Or.inl ⟨by rfl, ?_⟩) hS ?_
        rotate_left
        · (intro wq hq; go_simp); first | done | with_reducible rfl
        try simp only [Act.put, List.setIfInBounds_toArray, List.set_cons_zero, List.set_cons_succ]
        replace hS := Till.list 36 hS
        refine take_g (i := 37) (v := .string (strOfNums z1)) [47, 40, 39, 38, 37] (some 216) rfl (by kernel_rfl) rfl (fun _ _ _ h => h) (Or.inl ⟨by rfl, ?_⟩) hS ?_
        · (intro wq hq; (have r1 := f4 wq hq; go_simp))
        try simp only [Act.put, List.setIfInBounds_toArray, List.set_cons_zero, List.set_cons_succ]
        replace hS := Till.list 37 hS
        refine take_w (i := 38) (v := ?_) (some 217) rfl (by kernel_rfl) rfl (fun _ _ _ h => h) (Or.inl ⟨by rfl, ?_⟩) hS ?_
        rotate_left
        · (intro wq hq; go_simp); first | done | with_reducible rfl
        try simp only [Act.put, List.setIfInBounds_toArray, List.set_cons_zero, List.set_cons_succ]
        replace hS := Till.list 38 hS
        refine take_w (i := 39) (v := ?_) (some 218) rfl (by kernel_rfl) rfl (fun _ _ _ h => h) (Or.inl ⟨by rfl, ?_⟩) hS ?_
        rotate_left
        · (intro wq hq; go_simp); first | done | with_reducible rfl
        try simp only [Act.put, List.setIfInBounds_toArray, List.set_cons_zero, List.set_cons_succ]
        replace hS := Till.list 39 hS
        refine take_w (i := 40) (v := ?_) (some 219) rfl (by kernel_rfl) rfl (fun _ _ _ h => h) (Or.inl ⟨by rfl, ?_⟩) hS ?_
        rotate_left
        · (intro wq hq; go_simp); first | done | with_reducible rfl
        try simp only [Act.put, List.setIfInBounds_toArray, List.set_cons_zero, List.set_cons_succ]
        replace hS := Till.list 40 hS
        refine take_w (i := 41) (v := ?_) (some 220) rfl (by kernel_rfl) rfl (fun _ _ _ h => h) (Or.inl ⟨by rfl, ?_⟩) hS ?_
        rotate_left
        · (intro wq hq; go_simp); first | done | with_reducible rfl
        try simp only [Act.put, List.setIfInBounds_toArray, List.set_cons_zero, List.set_cons_succ]
        replace hS := Till.list 41 hS
        refine take_g (i := 42) (v := .string (strOfNums gt)) [47, 46, 45, 42] (some 221) rfl (by kernel_rfl) rfl (fun _ _ _ h => h) (Or.inl ⟨by rfl, ?_⟩) hS ?_
        · (intro wq hq; (have r1 := f5 wq hq; go_simp))
        try simp only [Act.put, List.setIfInBounds_toArray, List.set_cons_zero, List.set_cons_succ]
        replace hS := Till.list 42 hS
        refine take_w (i := 43) (v := ?_) (some 222) rfl (by kernel_rfl) rfl (fun _ _ _ h => h) (Or.inl ⟨by rfl, ?_⟩) hS ?_
        rotate_left
        · (intro wq hq; go_simp); first | done | with_reducible rfl
        try simp only [Act.put, List.setIfInBounds_toArray, List.set_cons_zero, List.set_cons_succ]
        replace hS := Till.list 43 hS
        refine take_g (i := 44) (v := .string (strOfNums gt)) [47, 46, 45, 44] (some 223) rfl (by kernel_rfl) rfl (fun _ _ _ h => h) (Or.inl ⟨by rfl, ?_⟩) hS ?_
        · (intro wq hq; (have r1 := f1 wq hq; go_simp))
        try simp only [Act.put, List.setIfInBounds_toArray, List.set_cons_zero, List.set_cons_succ]
        replace hS := Till.list 44 hS
        refine take_w (i := 45) (v := ?_) (some 224) rfl (by kernel_rfl) rfl (fun _ _ _ h => h) (Or.inl ⟨by rfl, ?_⟩) hS ?_
        rotate_left
        · (intro wq hq; go_simp); first | done | with_reducible rfl
        try simp only [Act.put, List.setIfInBounds_toArray, List.set_cons_zero, List.set_cons_succ]
        replace hS := Till.list 45 hS
        refine take_w (i := 46) (v := ?_) (some 225) rfl (by kernel_rfl) rfl (fun _ _ _ h => h) (Or.inl ⟨by rfl, ?_⟩) hS ?_
        rotate_left
        · (intro wq hq; go_simp); first | done | with_reducible rfl
        try simp only [Act.put, List.setIfInBounds_toArray, List.set_cons_zero, List.set_cons_succ]
        replace hS := Till.list 46 hS
        refine take_w (i := 47) (v := ?_) (some 226) rfl (by kernel_rfl) rfl (fun _ _ _ h => h) (Or.inl ⟨by rfl, ?_⟩) hS ?_
        rotate_left
        · (intro wq hq; go_simp); first | done | with_reducible rfl
        try simp only [Act.put, List.setIfInBounds_toArray, List.set_cons_zero, List.set_cons_succ]
        replace hS := Till.list 47 hS
        refine take_w (i := 48) (v := ?_) (some 227) rfl (by kernel_rfl) rfl (fun _ _ _ h => h) (Or.inl ⟨by rfl, ?_⟩) hS ?_
        rotate_left
        · (intro wq hq; go_simp); first | done | with_reducible rfl
        try simp only [Act.put, List.setIfInBounds_toArray, List.set_cons_zero, List.set_cons_succ]
        replace hS := Till.list 48 hS
        refine ready_g (rs := [49]) (by kernel_rfl) (by simp) ?_
        refine AllReadyG.cons rfl (fun Kont hK => ?_) AllReadyG.nil
        go_simp
        refine (steps_l (h10.out.1.below ((Below.refl _ _).drew))).mono ?_
        rintro e w11 ⟨rfl, e11⟩
        rw [hst]
        subst e11
        refine hK.out _ _ (Or.inl (by kernel_rfl)) (fun hS0 => ?_)
        clear hK Kont
        try simp only [Act.put, List.setIfInBounds_toArray, List.set_cons_zero, List.set_cons_succ]
        clear hS
        have hS := hS0
        clear hS0
        refine take_w (i := 50) (v := ?_) (some 229) rfl (by kernel_rfl) rfl (fun _ _ _ h => h) (Or.inl ⟨by rfl, ?_⟩) hS ?_
        rotate_left
        · (intro wq hq; go_simp); first | done | with_reducible rfl
        try simp only [Act.put, List.setIfInBounds_toArray, List.set_cons_zero, List.set_cons_succ]
        replace hS := Till.list 50 hS
        refine take_w (i := 51) (v := ?_) (some 230) rfl (by kernel_rfl) rfl (fun _ _ _ h => h) (Or.inl ⟨by rfl, ?_⟩) hS ?_
        rotate_left
        · (intro wq hq; go_simp); first | done | with_reducible rfl
        try simp only [Act.put, List.setIfInBounds_toArray, List.set_cons_zero, List.set_cons_succ]
        replace hS := Till.list 51 hS
        refine take_w (i := 52) (v := ?_) (some 4) rfl (by kernel_rfl) rfl (fun _ _ _ h => h) (Or.inl ⟨by rfl, ?_⟩) hS ?_
        rotate_left
        · (intro wq hq; go_simp); first | done | with_reducible rfl
        try simp only [Act.put, List.setIfInBounds_toArray, List.set_cons_zero, List.set_cons_succ]
        replace hS := Till.list 52 hS
        refine done_g (by kernel_rfl) (NoPanic.normal ?_) _
        clear hS
        go_wp2_with fail
        go_ret
        exact ⟨by rfl, HB1.out.trans ((h10.out.2.2.drew).mono HB1.out.size)⟩
end Go.Proofs.Ytlagmjdldplblaa
/-
  DiskSafe: for every case (things that are done ahead and behind, how many changes, how many tails) and every slice of bytes the statement's function returns true, and its arguments read as they did. No condition.
-/
namespace Go.Proofs.Ytlagmjdldplblaa.diskSafe
open Go.ChangeShapes Go.WideShapes Go.ChangeAt Go.RowKit
set_option linter.unusedVariables false
set_option maxRecDepth 4000

set_option maxRecDepth 100000 in
theorem lifted (os : Os) (started : os.Started) (H : Type) (enc : TypeId × Value → H) :
    ReturnsInHanded {} Try.checked os 4 .any (Rows.diskSafeSpec.pre6 enc Try.prog Try.f4 Rows.diskSafeRow.domain false) (Rows.diskSafeSpec.post enc Try.prog Try.f4 false true false false) := by
  refine returnsInHanded_of_change (C := Try.checked) own started (by kernel_rfl) Try.func4
    (ChangeSpec.witness6 (enc := enc) (C := Try.checked) false ⟨#[], #[.agg #[.slice none 0 0, .slice none 0 0, .int .i64 0, .slice none 0 0], .slice none 0 0], []⟩ 8 (by kernel_rfl) (by kernel_rfl) (by kernel_rfl) (by kernel_rfl)) ?_
  intro W base args ds gs before hval0 hW hcnd _
  have hval : ∀ (j : Nat) t v, Try.f4.params[j]? = some t → args[j]? = some v → Value.okWide Try.prog W .any base t v := hval0
  have hW' := hW
  obtain ⟨p, q, hA0, hV, rfl, hfz, hnd⟩ := hW
  have hA : DataW.TrodAll enc Try.prog W 0 (fun _ => true) true Try.f4.params.toList args.toList ds p := hA0
  rw [Try.params4] at hA hval
  obtain ⟨v0, vs0, d0, ds0, p0, q0, hargs0, rfl, rfl, h0, r0⟩ := trodAll_cons hA
  obtain ⟨v1, vs1, d1, ds1, p1, q1, hargs1, hds1, hq1, h1, r1⟩ := trodAll_cons r0
  obtain ⟨hn1, hn2, hn3⟩ := trodAll_nil r1
  subst hn2 hn3
  subst hds1 hq1
  obtain rfl : args = #[v0, v1] := by cases args; simp_all
  obtain ⟨rfl, rfl⟩ := trodVars_none hV
  have rd0 := h0
  have lt0 : ∀ x ∈ p0, x.block < W.heap.size := by obtain ⟨m, hm⟩ := rd0; exact DataW.trod_lt m _ _ _ hm
  obtain ⟨A0, n0, c0, os0, B0, m0, e0, qs0, x0, T0, q0, r0, ts0, rfl, HA0, HB0, HT0, HQ0, HX0, HR0⟩ := open_case8 (hval 0 46 v0 rfl rfl) h0
  have rd1 := h1
  have lt1 : ∀ x ∈ p1, x.block < W.heap.size := by obtain ⟨m, hm⟩ := rd1; exact DataW.trod_lt m _ _ _ hm
  obtain ⟨A1, n1, c1, z1, rfl, W1, L1⟩ := open_bytes (hval 1 28 v1 rfl rfl) h1
  clear hA0 hval0
  refine (safe8_is A0 B0 T0 A1 n0 c0 m0 e0 q0 r0 n1 c1 os0 qs0 x0 ts0 z1 W HA0 HB0 HT0 HQ0 HX0 HR0 W1 L1).mono fun e W' ⟨he, bel⟩ => ?_
  subst he
  exact ⟨_, rfl, _, _, _, [], _, [], hW', trodAll_mk1 (shut_bool Try.underlying4 _), (trodAll_cons_mk (Below.trod laidOut (by kernel_rfl) (of_decide_eq_true (by kernel_rfl)) rd0 bel lt0) (trodAll_cons_mk (Below.trod laidOut (by kernel_rfl) (of_decide_eq_true (by kernel_rfl)) rd1 bel lt1) trodAll_mk0)), rfl, bel.frame _, fun h => by cases h⟩

theorem over : Rows.diskSafeRow.holds Try.pinned (OpenSpec.ofChange Rows.diskSafeSpec) :=
  OpenClaim.holds_of_wide 4 Try.f4 rfl rfl rfl rfl rfl rfl rfl ⟨rfl, rfl, rfl, rfl, rfl⟩ rfl rfl rfl rfl rfl (by kernel_rfl) Try.func4 (by kernel_rfl)
    (of_decide_eq_true (by kernel_rfl)) (by unfold Func.isWrapper; first | (rw [if_pos (by decide +kernel)]; kernel_rfl) | (rw [if_neg (by decide +kernel)]; exact ⟨rfl, rfl⟩))
    (fun os started H enc _ => lifted os started H enc)
end Go.Proofs.Ytlagmjdldplblaa.diskSafe
namespace Go.Proofs.Ytlagmjdldplblaa
theorem diskSafe_holds : Rows.DiskSafeSaid := diskSafe.over
end Go.Proofs.Ytlagmjdldplblaa
