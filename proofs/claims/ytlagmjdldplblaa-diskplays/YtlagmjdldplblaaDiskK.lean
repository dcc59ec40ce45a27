/- Texts that belong together, one behind the other: R8k, R8l. -/
import Derived.Test.YtlagmjdldplblaaDiskH
import Derived.Test.YtlagmjdldplblaaDiskF
import Derived.Deep.CutBlock
import Derived.Deep.DeepCutAuto
import Derived.Test.YtlagmjdldplblaaDiskE
/- Contract of the document's own disk: Crash. -/
namespace Go.Proofs.Ytlagmjdldplblaa
open Go.ChangeShapes Go.WideShapes Go.ChangeAt Go.RowKit
set_option linter.unusedVariables false
set_option maxRecDepth 4000

set_option maxHeartbeats 1000000 in
theorem rnew_raw (q : Int) (w : World) : Calls Try.prog 11 #[.int .i64 q] w fun e w' => e = .returned (.pointer (some ⟨w.heap.size, 0, none⟩)) ∧ w' = w.alloc (.cells #[.int .i64 (max q 0), .int .i64 0, .slice none 0 0, .slice none 0 0, .slice none 0 0, .slice none 0 0, .slice none 0 0, .bool false, .bool false, .int .i64 0] 76) := by
  go_enter Try.func11, Try.ntmps11
  go_wp2_with fail
  go_ret
  exact ⟨rfl, rfl⟩
def upTo (M : DK) (j : Nat) : List Nm8 := (M.chs.take j).foldl doneN M.kept
def ch0 : Ch8 := ⟨none, none⟩
theorem upTo_succ (M : DK) (j : Nat) (h : j < M.chs.length) : upTo M (j + 1) = doneN (upTo M j) (M.chs.getD j ch0) := by
  unfold upTo
  rw [List.take_add_one, List.getElem?_eq_getElem h, Option.toList_some, List.foldl_append, List.getD_eq_getElem?_getD, List.getElem?_eq_getElem h]
  rfl
theorem upTo_left (M : DK) (ch : Int) (j : Nat) (hj : j = ch.toNat ∨ (j = M.chs.length ∧ j ≤ ch.toNat)) : upTo M j = leftD M ch := by
  unfold upTo leftD
  rcases hj with rfl | ⟨rfl, h⟩
  · rfl
  · rw [List.take_of_length_le (Nat.le_refl _), List.take_of_length_le h]
theorem left_place {M : DK} (ok : Ok7 M) (ch : Int) : ∀ n ∈ leftD M ch, n.2 < M.files.length := by
  intro n hn
  rcases foldN_mem _ hn with hn | ⟨c, hc, hn⟩
  · exact ok.kplace n hn
  · exact ok.cplace c (List.mem_of_mem_take hc) n hn
theorem OS.sameB {w w' : World} {n m base : Nat} {v : Value} {cs : List Value} (h : OS n w base v m cs) (he : ∀ g, v.ownBlock = some g → g < w.heap.size → w'.heap[g]? = w.heap[g]?) : OS n w' base v m cs := by
  obtain ⟨h1, h2, h3⟩ := h
  refine ⟨h1, h2, ?_⟩
  rcases h3 with h3 | ⟨g, cap, cur, T, rfl, hg, hh, hr⟩
  · exact .inl h3
  · exact .inr ⟨g, cap, cur, T, rfl, hg, (he g rfl (heap_lt hh)).trans hh, hr⟩
theorem OS.lowB {w : World} {n m base : Nat} {v : Value} {cs : List Value} (h : OS n w base v m cs) {b : Nat} (hb : v.ownBlock = some b) : b < w.heap.size := (h.lower (Nat.zero_le _)).low0 hb
/-- blocks of bytes of the disk that is found -/
abbrev Zn (W wr : World) (q : Nat) (vF vN : Value) : Nat → Prop := fun b => (W.heap.size ≤ b ∧ b < wr.heap.size) ∧ b ≠ q ∧ vF.ownBlock ≠ some b ∧ vN.ownBlock ≠ some b
/-- the disk that is found, at work -/
structure CRQ (Q : Int) (W wr : World) (q : Nat) (vF vN : Value) (ps : List PF8) (nl : List Nm8) : Prop where
  blk : Bk wr q #[.int .i64 Q, .int .i64 0, vF, vN, .slice none 0 0, .slice none 0 0, .slice none 0 0, .bool false, .bool false, .int .i64 0] 76
  oF : OS 2 wr W.heap.size vF ps.length (pcells ps)
  oN : OS 2 wr W.heap.size vN nl.length (ncells nl)
  dF : ∀ b, vF.ownBlock = some b → b ≠ q ∧ vN.ownBlock ≠ some b
  dN : ∀ b, vN.ownBlock = some b → b ≠ q
  rb : ∀ p ∈ ps, RB (Zn W wr q vF vN) wr p.1 p.2.1
  bel : Below W.heap.size W wr
  qW : W.heap.size ≤ q ∧ q < wr.heap.size
section
variable {Q : Int} {W wr w6 : World} {q : Nat} {vF vN v v' : Value} {ps : List PF8} {nl : List Nm8} {bs : List Int} {k : Nat}
theorem CRQ.below (h : CRQ Q W wr q vF vN ps nl) (hb : Below wr.heap.size wr w6) : CRQ Q W w6 q vF vN ps nl :=
  ⟨h.blk.below hb, h.oF.below hb, h.oN.below hb, h.dF, h.dN, fun p hp => (h.rb p hp).kp (Kp.of_new (F := fun _ => False) hb) (fun _ _ h => h) (fun b hb2 => ⟨⟨hb2.1.1, Nat.lt_of_lt_of_le hb2.1.2 hb.size⟩, hb2.2⟩), h.bel.trans (hb.mono h.bel.size), h.qW.1, Nat.lt_of_lt_of_le h.qW.2 hb.size⟩
theorem CRQ.room (h : CRQ Q W wr q vF vN ps nl) : W.heap.size ≤ wr.heap.size := h.bel.size
theorem CRQ.addF (h : CRQ Q W wr q vF vN ps nl) (hbs : RB (Zn W wr q vF vN) wr v bs) (ho : OS 2 w6 W.heap.size v' (ps.length + 1) (pcells ps ++ [v, .int .i64 (k : Int)])) (hb : Below W.heap.size wr w6)
    (ob : v'.ownBlock = vF.ownBlock ∨ v'.ownBlock = some wr.heap.size) (hk : ∀ b, b < wr.heap.size → vF.ownBlock ≠ some b → w6.heap[b]? = wr.heap[b]?) : CRQ Q W (w6.setCell ⟨q, 2, none⟩ v') q v' vN (ps ++ [(v, (bs, k))]) nl := by
  have hs := hb.size
  have hq := h.qW
  have hqF : vF.ownBlock ≠ some q := fun e => (h.dF q e).1 rfl
  have hB6 : Bk w6 q _ 76 := (hk q hq.2 hqF).trans h.blk
  have hne : ∀ b, v'.ownBlock = some b → b ≠ q ∧ vN.ownBlock ≠ some b := by
    intro b hb2
    rcases ob with ob | ob
    · rw [ob] at hb2; exact h.dF b hb2
    · rw [ob] at hb2; cases hb2
      exact ⟨by omega, fun e => by have := h.oN.lowB e; omega⟩
  have hkp : Kp (fun b => vF.ownBlock = some b ∨ b = q) wr (w6.setCell ⟨q, 2, none⟩ v') :=
    ⟨hb.os, hb.tape, hb.output, by rw [size_set]; exact hs, fun b h1 h2 => (Below.heap_setCell _ _ _ _ (fun e => h2 (.inr e))).trans (hk b h1 (fun e => h2 (.inl e)))⟩
  have hmo : ∀ b, Zn W wr q vF vN b → Zn W (w6.setCell ⟨q, 2, none⟩ v') q v' vN b := fun b hz => by
    refine ⟨⟨hz.1.1, by rw [size_set]; have := hz.1.2; omega⟩, hz.2.1, fun e => ?_, hz.2.2.2⟩
    rcases ob with ob | ob
    · rw [ob] at e; exact hz.2.2.1 e
    · rw [ob] at e; cases e; have := hz.1.2; omega
  refine ⟨hB6.set 2 v', ?_, ?_, hne, h.dN, ?_, (h.bel.trans hb).setCell hq.1 _, hq.1, by rw [size_set]; omega⟩
  · rw [List.length_append, List.length_singleton, pcells_app]
    exact ho.sameB (fun g hg _ => Below.heap_setCell _ _ _ _ (hne g hg).1)
  · exact h.oN.sameB (fun g hg hl => (Below.heap_setCell _ _ _ _ (h.dN g hg)).trans (hk g hl (fun e => (h.dF g e).2 hg)))
  · intro p hp
    rcases List.mem_append.1 hp with hp | hp
    · exact (h.rb p hp).kp hkp (fun b hz hF => hF.elim hz.2.2.1 hz.2.1) hmo
    · rw [List.mem_singleton.1 hp]
      exact hbs.kp hkp (fun b hz hF => hF.elim hz.2.2.1 hz.2.1) hmo
theorem CRQ.addN (h : CRQ Q W wr q vF vN ps nl) {s : ByteArray} {f : Nat} (ho : OS 2 w6 W.heap.size v' (nl.length + 1) (ncells nl ++ [.string s, .int .i64 (f : Int)])) (hb : Below W.heap.size wr w6)
    (ob : v'.ownBlock = vN.ownBlock ∨ v'.ownBlock = some wr.heap.size) (hk : ∀ b, b < wr.heap.size → vN.ownBlock ≠ some b → w6.heap[b]? = wr.heap[b]?) : CRQ Q W (w6.setCell ⟨q, 3, none⟩ v') q vF v' ps (nl ++ [(s, f)]) := by
  have hs := hb.size
  have hq := h.qW
  have hqN : vN.ownBlock ≠ some q := fun e => h.dN q e rfl
  have hB6 : Bk w6 q _ 76 := (hk q hq.2 hqN).trans h.blk
  have hne : ∀ b, v'.ownBlock = some b → b ≠ q ∧ vF.ownBlock ≠ some b := by
    intro b hb2
    rcases ob with ob | ob
    · rw [ob] at hb2; exact ⟨h.dN b hb2, fun e => (h.dF b e).2 hb2⟩
    · rw [ob] at hb2; cases hb2
      exact ⟨by omega, fun e => by have := h.oF.lowB e; omega⟩
  have hkp : Kp (fun b => vN.ownBlock = some b ∨ b = q) wr (w6.setCell ⟨q, 3, none⟩ v') :=
    ⟨hb.os, hb.tape, hb.output, by rw [size_set]; exact hs, fun b h1 h2 => (Below.heap_setCell _ _ _ _ (fun e => h2 (.inr e))).trans (hk b h1 (fun e => h2 (.inl e)))⟩
  have hmo : ∀ b, Zn W wr q vF vN b → Zn W (w6.setCell ⟨q, 3, none⟩ v') q vF v' b := fun b hz => by
    refine ⟨⟨hz.1.1, by rw [size_set]; have := hz.1.2; omega⟩, hz.2.1, hz.2.2.1, fun e => ?_⟩
    rcases ob with ob | ob
    · rw [ob] at e; exact hz.2.2.2 e
    · rw [ob] at e; cases e; have := hz.1.2; omega
  refine ⟨hB6.set 3 v', ?_, ?_, fun b hb2 => ⟨(h.dF b hb2).1, fun e => (hne b e).2 hb2⟩, fun b hb2 => (hne b hb2).1, ?_, (h.bel.trans hb).setCell hq.1 _, hq.1, by rw [size_set]; omega⟩
  · exact h.oF.sameB (fun g hg hl => (Below.heap_setCell _ _ _ _ (h.dF g hg).1).trans (hk g hl (fun e => (h.dF g hg).2 e)))
  · rw [List.length_append, List.length_singleton, ncells_app]
    exact ho.sameB (fun g hg _ => Below.heap_setCell _ _ _ _ (hne g hg).1)
  · intro p hp
    exact (h.rb p hp).kp hkp (fun b hz hF => hF.elim hz.2.2.2 hz.2.1) hmo
end
section
variable {I : Nat → Prop} {w : World} {y : Nat} {M : DK} {vF vN vK vC vX : Value}
set_option maxHeartbeats 8000000 in
theorem rcrash_any (h : RP w I y M vF vN vK vC vX) (hs8 : Sm8 M) (ok : Ok7 M) (hlen : ∀ x ∈ M.files, x.1.length ≤ 5000000) (ch : Int) (T : Option Addr) (n c : Nat) (ts : List Int) (hv : IV w T n ts) (hn : n ≤ 1000) (hr : ∀ x ∈ ts, -9223372036854775808 ≤ x ∧ x ≤ maxI) :
    Calls Try.prog 14 #[.pointer (some ⟨y, 0, none⟩), .int .i64 ch, .slice T n c] w fun e w' => ∃ q, e = .returned (.pointer (some ⟨q, 0, none⟩)) ∧ RD w' (AndNew I w w') q (crashD M ch ts) ∧ w.heap.size ≤ q ∧ Below w.heap.size w w' := by
  obtain ⟨Ak, Ck, rfl, hCk, hkv, -⟩ := h.kept
  obtain ⟨rc, hrc, Ac, Cc, rfl, hCc, hcv, -⟩ := h.chs
  have hrl : rc.length = M.chs.length := by rw [hrc, List.length_map]
  have hc5 := hs8.chs
  have hk5 := hs8.kept
  have hf5 := hs8.files
  have c0 := h.blk.cell 0 (v := .int .i64 M.quota) rfl
  have c2 := h.blk.cell 2 (v := vF) rfl
  have c4 := h.blk.cell 4 (v := .slice Ak M.kept.length Ck) rfl
  have c5 := h.blk.cell 5 (v := .slice Ac rc.length Cc) rfl
  have HF := Lib.hid h.files
  have HO := Lib.hid (And.intro ok (And.intro hlen (And.intro hr hrc)))
  obtain ⟨C, hC⟩ : ∃ C, rc.length = C := ⟨_, rfl⟩
  rw [hC] at c5 hcv hCc
  have HC := Lib.hid (And.intro hC (show M.chs.length = C by omega))
  have hC5 : C ≤ 5000 := by omega
  clear h hs8 ok hlen hr hrl hrc hC hc5
  go_enter Try.func14, Try.ntmps14
  go_upto_block 0 with fail
  go_cut [7] (fun v wx => ∃ (A : Option Addr) (m d : Nat), v = .slice A m d ∧ m ≤ d ∧ m ≤ 10000 ∧ NV wx A m (leftD M ch) ∧ Below w.heap.size w wx)
  case first =>
    go_wp2_with fail
    go_loopw [7, 8] (fun v i wr => ∃ (j : Nat) (A : Option Addr) (m d : Nat), j ≤ C ∧ j ≤ ch.toNat ∧ i = .int .i64 (j : Int) ∧ v = .slice A m d ∧ m ≤ d ∧ m ≤ 5000 + j ∧ NV wr A m (upTo M j) ∧ Below w.heap.size w wr) (fun _ i _ => C - (intOf i).toNat)
    case atStart => exact ⟨0, Ak, _, Ck, by omega, by omega, rfl, rfl, hCk, by omega, hkv, Below.refl _ _⟩
    case round =>
      obtain ⟨j, A, m, d, hj, hjc, rfl, rfl, hmd, hm5, hnv, hbel⟩ := hrel
      replace c5 := keepc c5 hbel
      by_cases h1 : (j : Int) < ch
      · by_cases h2 : j < C
        · have h2i : (j : Int) < (C : Int) := by omega
          have hst := upTo_succ M j (by rw [HC.out.2]; exact h2)
          obtain ⟨x, hx⟩ : ∃ x, rc.getD j rc0 = x := ⟨_, rfl⟩
          have hxr : M.chs.getD j ch0 = rch x := by
            rw [HO.out.2.2.2, ← hx, List.getD_eq_getElem?_getD, List.getElem?_map, List.getD_eq_getElem?_getD, List.getElem?_eq_getElem (by rw [HC.out.1]; exact h2)]; rfl
          rw [hxr] at hst
          obtain ⟨e0, e1, e2, e3⟩ := ccells_at rc j (by rw [HC.out.1]; exact h2)
          rw [hx] at e0 e1 e2 e3
          obtain ⟨-, -, h0 | ⟨b, off, rfl, hcl⟩⟩ := hcv
          · omega
          · have p0 := keepc (hcl _ _ e0) hbel
            have p1 := keepc (hcl _ _ e1) hbel
            have p2 := keepc (hcl _ _ e2) hbel
            have p3 := keepc (hcl _ _ e3) hbel
            rw [← Nat.add_assoc] at p1 p2 p3
            have HS := Lib.hid hst
            have HB := Lib.hid hbel
            have hml := NV.len hnv
            clear hst hx hxr e0 e1 e2 e3 hcl
            go_wp2_with fail
            refine (done8_any A m d (upTo M j) x _ hnv (by omega) hmd).mono ?_
            rintro e w3 ⟨A', m', d', rfl, hmd', hnv', -, hb3⟩
            have hm' : m' ≤ m + 1 := by
              have h1 := NV.len hnv'
              have h2 := doneN_len (upTo M j) (rch x)
              omega
            rw [← HS.out] at hnv'
            have HR3 := Lib.hid (And.intro hnv' (Below.then HB.out hb3))
            clear hnv' hb3 hml p0 p1 p2 p3
            go_wp2_with fail
            go_roundw
            case rel => exact ⟨j + 1, A', m', d', by omega, by omega, by go_num, rfl, hmd', by omega, HR3.out.1, HR3.out.2⟩
            case measure => simp [intOf]; omega
        · have h2i : ¬ (j : Int) < (C : Int) := by omega
          have hnl := upTo_left M ch j (.inr ⟨by rw [HC.out.2]; omega, hjc⟩)
          rw [hnl] at hnv
          clear hnl
          go_wp2_with fail
          go_meet
          exact ⟨A, m, d, rfl, hmd, by omega, hnv, hbel⟩
      · have hnl := upTo_left M ch j (.inl (by omega))
        rw [hnl] at hnv
        clear hnl
        go_wp2_with fail
        go_meet
        exact ⟨A, m, d, rfl, hmd, by omega, hnv, hbel⟩
  case rest =>
    obtain ⟨A, m, d, rfl, hmd, hm5, hnv, hbel⟩ := hcut
    have hq0 : max M.quota 0 = M.quota := by have := HO.out.1.quota; omega
    replace c0 := keepc c0 hbel
    replace c2 := keepc c2 hbel
    have hvT := SV.below hv hbel
    have HFW := Lib.hid (HF.out.kp (Kp.of_new (F := fun _ => False) hbel) (fun _ _ h => h) (fun _ h => h))
    have HPL := Lib.hid (left_place HO.out.1 ch)
    have HCD := Lib.hid (show crashD M ch ts = ⟨M.quota, 0, foundL M.files ts 0 (leftD M ch), numberN 0 (leftD M ch), numberN 0 (leftD M ch), [], [], none, false⟩ from rfl)
    generalize leftD M ch = l at *
    have hml := NV.len hnv
    have HML := Lib.hid hml
    have HB := Lib.hid hbel
    clear hv hkv hcv c4 c5 HF hbel hml hCc hCk HC hC5 hk5
    go_wp2_with fail
    refine (rnew_raw M.quota wc).mono ?_
    rintro e w2 ⟨rfl, e2⟩
    rw [hq0] at e2
    have hw2 : Below wc.heap.size wc w2 := by rw [e2]; exact Joins.below_alloc1 _ _
    have hBq : Bk w2 wc.heap.size #[.int .i64 M.quota, .int .i64 0, .slice none 0 0, .slice none 0 0, .slice none 0 0, .slice none 0 0, .slice none 0 0, .bool false, .bool false, .int .i64 0] 76 := by rw [e2]; exact Bk.new wc _ _
    have hCR0 : CRQ M.quota wc w2 wc.heap.size (.slice none 0 0) (.slice none 0 0) [] [] :=
      ⟨hBq, OS.nil _ _, OS.nil _ _, (fun b hb => by cases hb), (fun b hb => by cases hb), (fun p hp => by cases hp), hw2, Nat.le_refl _, hBq.lt⟩
    have HCR0 := Lib.hid hCR0
    obtain ⟨q, hq⟩ : ∃ q, wc.heap.size = q := ⟨_, rfl⟩
    rw [hq] at HCR0 ⊢
    have HQ := Lib.hid hq
    clear e2 hw2 hBq hCR0 hq0 hq
    go_wp2_with fail
    go_loopw [10] (fun i wr => ∃ (j : Nat) (vF' vN' : Value) (ps : List PF8), j ≤ m ∧ i = .int .i64 (j : Int) ∧ Hid (ps.map Prod.snd = foundL M.files ts 0 (l.take j)) ∧ Hid (CRQ M.quota wc wr q vF' vN' ps (numberN 0 (l.take j)))) (fun i _ => m - (intOf i).toNat)
    case atStart => exact ⟨0, _, _, _, by omega, rfl, Lib.hid rfl, HCR0⟩
    case round =>
      clear HCR0
      obtain ⟨j, vF', vN', ps, hj, rfl, HFS, HCR⟩ := hrel
      by_cases hlt : j < m
      · obtain ⟨b, off, rfl, e1, e2⟩ := NV.at hnv j hlt
        have hji : (j : Int) < (m : Int) := by omega
        obtain ⟨x, hx⟩ : ∃ x, l.getD j nm0 = x := ⟨_, rfl⟩
        have hff := HPL.out _ (getD_mem8 (l := l) (j := j) (by rw [HML.out]; exact hlt))
        have htk := take_nm l j (by rw [HML.out]; exact hlt)
        rw [hx] at e1 e2 hff htk
        obtain ⟨s, f⟩ := x
        simp only at e1 e2 hff
        have HTK := Lib.hid htk
        obtain ⟨A2, C2, b2, off2, Av, nv, cv, rfl, rfl, p0, p1, hnc, hbv, -, -⟩ := HFW.out.at hff
        have hfi : (f : Int) < (M.files.length : Int) := by omega
        obtain ⟨z, hz⟩ : ∃ z, M.files.getD f ([], 0) = z := ⟨_, rfl⟩
        have hzm : z ∈ M.files := by rw [← hz, List.getD_eq_getElem?_getD, List.getElem?_eq_getElem hff]; exact List.getElem_mem hff
        have hzl := HO.out.2.1 z hzm
        have hzs := HO.out.1.safe z hzm
        rw [hz] at p1 hbv
        have hzn : z.1.length = nv := hbv.1
        have HZ := Lib.hid (And.intro hz (And.intro hzn hzs))
        have hsn : z.2 ≤ nv := by omega
        have hnv5 : nv ≤ 5000000 := by omega
        have q2 := keepc c2 HCR.out.bel
        have q1 := keepc e1 HCR.out.bel
        have HE1 := Lib.hid e1
        have q3 := keepc e2 HCR.out.bel
        have q4 := keepc p0 HCR.out.bel
        have q5 := keepc p1 HCR.out.bel
        have HBV := Lib.hid (hbv.below HCR.out.bel)
        clear hx htk hz hzm hzl hzs hzn hbv e1 e2 p0 p1
        go_wp2_with fail
        refine wp_region_noPanic ?_
        refine region_g 12 (Ext (World.drew _)) (by kernel_rfl) (Ext.refl _) (fun hS => ?_)
        refine take_w (i := 0) (v := ?_) (some 52) rfl (by kernel_rfl) rfl (fun _ _ _ h => h) (Or.inl ⟨by rfl, ?_⟩) hS ?_
        rotate_left
        · (intro wq hq; go_simp); first | done | with_reducible rfl
        try simp only [Act.put, List.setIfInBounds_toArray, List.set_cons_zero, List.set_cons_succ]
        replace hS := Till.list 0 hS
        refine take_w (i := 4) (v := ?_) (some 56) rfl (by kernel_rfl) rfl (fun _ _ _ h => h) (Or.inl ⟨by rfl, ?_⟩) hS ?_
        rotate_left
        · (intro wq hq; go_simp); first | done | with_reducible rfl
        try simp only [Act.put, List.setIfInBounds_toArray, List.set_cons_zero, List.set_cons_succ]
        replace hS := Till.list 4 hS
        refine take_w (i := 5) (v := ?_) (some 57) rfl (by kernel_rfl) rfl (fun _ _ _ h => h) (Or.inl ⟨by rfl, ?_⟩) hS ?_
        rotate_left
        · (intro wq hq; go_simp); first | done | with_reducible rfl
        try simp only [Act.put, List.setIfInBounds_toArray, List.set_cons_zero, List.set_cons_succ]
        replace hS := Till.list 5 hS
        refine take_w (i := 1) (v := ?_) (some 53) rfl (by kernel_rfl) rfl (fun _ _ _ h => h) (Or.inl ⟨by rfl, ?_⟩) hS ?_
        rotate_left
        · (intro wq hq; go_simp); first | done | with_reducible rfl
        try simp only [Act.put, List.setIfInBounds_toArray, List.set_cons_zero, List.set_cons_succ]
        replace hS := Till.list 1 hS
        refine take_w (i := 6) (v := ?_) (some 58) rfl (by kernel_rfl) rfl (fun _ _ _ h => h) (Or.inl ⟨by rfl, ?_⟩) hS ?_
        rotate_left
        · (intro wq hq; go_simp); first | done | with_reducible rfl
        try simp only [Act.put, List.setIfInBounds_toArray, List.set_cons_zero, List.set_cons_succ]
        replace hS := Till.list 6 hS
        refine take_w (i := 2) (v := ?_) (some 54) rfl (by kernel_rfl) rfl (fun _ _ _ h => h) (Or.inl ⟨by rfl, ?_⟩) hS ?_
        rotate_left
        · (intro wq hq; go_simp); first | done | with_reducible rfl
        try simp only [Act.put, List.setIfInBounds_toArray, List.set_cons_zero, List.set_cons_succ]
        replace hS := Till.list 2 hS
        refine take_w (i := 7) (v := ?_) (some 59) rfl (by kernel_rfl) rfl (fun _ _ _ h => h) (Or.inl ⟨by rfl, ?_⟩) hS ?_
        rotate_left
        · (intro wq hq; go_simp); first | done | with_reducible rfl
        try simp only [Act.put, List.setIfInBounds_toArray, List.set_cons_zero, List.set_cons_succ]
        replace hS := Till.list 7 hS
        refine take_g (i := 3) (v := ?_) [3] (some 55) rfl (by kernel_rfl) rfl (fun _ _ _ h => h) (Or.inl ⟨by rfl, ?_⟩) hS ?_
        rotate_left
        · (intro wq hq; have q0 := hq _ _ _ q2; have q1 := hq _ _ _ q3; have q2 := hq _ _ _ q4; have q3 := hq _ _ _ q5; go_simp); first | done | with_reducible rfl
        try simp only [Act.put, List.setIfInBounds_toArray, List.set_cons_zero, List.set_cons_succ]
        replace hS := Till.list 3 hS
        refine take_g (i := 8) (v := ?_) [8] (some 60) rfl (by kernel_rfl) rfl (fun _ _ _ h => h) (Or.inl ⟨by rfl, ?_⟩) hS ?_
        rotate_left
        · (intro wq hq; have q0 := hq _ _ _ q2; have q1 := hq _ _ _ q3; have q2 := hq _ _ _ q4; have q3 := hq _ _ _ q5; go_simp); first | done | with_reducible rfl
        try simp only [Act.put, List.setIfInBounds_toArray, List.set_cons_zero, List.set_cons_succ]
        replace hS := Till.list 8 hS
        refine take_w (i := 9) (v := ?_) (some 61) rfl (by kernel_rfl) rfl (fun _ _ _ h => h) (Or.inl ⟨by rfl, ?_⟩) hS ?_
        rotate_left
        · (intro wq hq; go_simp); first | done | with_reducible rfl
        try simp only [Act.put, List.setIfInBounds_toArray, List.set_cons_zero, List.set_cons_succ]
        replace hS := Till.list 9 hS
        refine take_g (i := 10) (v := ?_) [10] (some 62) rfl (by kernel_rfl) rfl (fun _ _ _ h => h) (Or.inl ⟨by rfl, ?_⟩) hS ?_
        rotate_left
        · (intro wq hq; have q0 := hq _ _ _ q2; have q1 := hq _ _ _ q3; have q2 := hq _ _ _ q4; have q3 := hq _ _ _ q5; go_simp); first | done | with_reducible rfl
        try simp only [Act.put, List.setIfInBounds_toArray, List.set_cons_zero, List.set_cons_succ]
        replace hS := Till.list 10 hS
        refine ready_g (rs := [11]) (by kernel_rfl) (by simp) ?_
        refine AllReadyG.cons rfl (fun Kont hK => ?_) AllReadyG.nil
        go_simp
        refine hK.out _ _ (Or.inr ((hS.get (by kernel_rfl)).alloc _)) (fun hS0 => ?_)
        clear hK Kont
        try simp only [Act.put, List.setIfInBounds_toArray, List.set_cons_zero, List.set_cons_succ]
        clear hS
        have hS := hS0
        clear hS0
        refine ready_g (rs := [12]) (by kernel_rfl) (by simp) ?_
        refine AllReadyG.cons rfl (fun Kont hK => ?_) AllReadyG.nil
        go_simp
        refine hK.out _ _ (Or.inl (by kernel_rfl)) (fun hS0 => ?_)
        clear hK Kont
        try simp only [Act.put, List.setIfInBounds_toArray, List.set_cons_zero, List.set_cons_succ]
        clear hS
        have hS := hS0
        clear hS0
        refine done_g (by kernel_rfl) (NoPanic.normal ?_) _
        clear hS
        have hD := (Bk.new wr #[.slice Av nv cv, .int .i64 (z.2 : Int)] 93).drew
        have hw1 : Below wr.heap.size wr (wr.alloc (.cells #[.slice Av nv cv, .int .i64 (z.2 : Int)] 93)).drew := (Joins.below_alloc1 _ _).drew
        have HCR1 := Lib.hid (HCR.out.below hw1)
        have HBV1 := Lib.hid (HBV.out.below hw1)
        obtain ⟨g, hg⟩ : ∃ g, wr.heap.size = g := ⟨_, rfl⟩
        rw [hg] at hD ⊢
        replace q1 := keepc q1 hw1
        have hT := SV.below hvT HCR1.out.bel
        generalize (wr.alloc (.cells #[.slice Av nv cv, .int .i64 (z.2 : Int)] 93)).drew = w1 at *
        have d0 := hD.cell 0 (v := .slice Av nv cv) rfl
        have d1 := hD.cell 1 (v := .int .i64 (z.2 : Int)) rfl
        clear hw1 q2 q3 q4 q5 HBV hg HCR
        have hsub : IntKind.i64.wrap ((nv : Int) - (z.2 : Int)) = ((nv - z.2 : Nat) : Int) := by rw [IntKind.wrap_i64]; omega
        obtain ⟨t, ht⟩ : ∃ t, nv - z.2 = t := ⟨_, rfl⟩
        rw [ht] at hsub
        have ht5 : t ≤ 5000000 := by omega
        have HT := Lib.hid ht
        clear ht
        go_upto_if 71 with fail
        obtain ⟨wo, rfl⟩ : ∃ wo : World, wo = wc := ⟨_, rfl⟩
        go_cut [13] (fun v wx => v = .int .i64 (tailD ts j t : Int) ∧ wx = w1)
        case first =>
          have hl := IV.len hT
          by_cases h0 : n = 0
          · have HD0 := Lib.hid (show tailD ts j t = 0 by unfold tailD; rw [if_pos (List.eq_nil_of_length_eq_zero (by omega))])
            subst h0
            clear hT hl
            go_wp2_with fail
            go_meet
            exact ⟨by rw [HD0.out]; rfl, rfl⟩
          · have hne : ts ≠ [] := fun e => by rw [e] at hl; simp at hl; omega
            have hjn : j % n < n := Nat.mod_lt _ (by omega)
            obtain ⟨bt, offt, rfl, hcl⟩ := IV.at hT (j % n) hjn
            have hmem : ts.getD (j % n) 0 ∈ ts := by
              rw [List.getD_eq_getElem?_getD, List.getElem?_eq_getElem (by omega)]; exact List.getElem_mem _
            obtain ⟨hr0, hr1⟩ := HO.out.2.2.1 _ hmem
            have hD0 : tailD ts j t = (ts.getD (j % n) 0 % ((t : Int) + 1)).toNat := by unfold tailD; rw [if_neg hne, hl]
            unfold maxI at hr1
            generalize ts.getD (j % n) 0 = x at *
            have hn0 : ¬ (n : Int) = 0 := by omega
            have hn0' : (0 : Int) < (n : Int) := by omega
            have hmod : (j : Int).tmod (n : Int) = ((j % n : Nat) : Int) := by rw [Int.tmod_eq_emod_of_nonneg (by omega)]; omega
            have hm1 : IntKind.i64.wrap ((t : Int) + 1) = (t : Int) + 1 := by rw [IntKind.wrap_i64]; omega
            have hlti : ((j % n : Nat) : Int) < (n : Int) := by omega
            obtain ⟨r, hre⟩ : ∃ r, x.tmod ((t : Int) + 1) = r := ⟨_, rfl⟩
            have hd : (0 ≤ r → r = x % ((t : Int) + 1)) ∧ (r < 0 → r + ((t : Int) + 1) = x % ((t : Int) + 1)) ∧ r < (t : Int) + 1 ∧ -((t : Int) + 1) < r := by
              have h1 := Int.tmod_eq_emod (a := x) (b := (t : Int) + 1)
              have h2 := Int.emod_nonneg x (show (t : Int) + 1 ≠ 0 by omega)
              have h3 := Int.emod_lt_of_pos x (show 0 < (t : Int) + 1 by omega)
              have h4 : ((((t : Int) + 1).natAbs : Nat) : Int) = (t : Int) + 1 := by omega
              rw [hre] at h1
              split at h1
              · have h1 : r = x % ((t : Int) + 1) := by simpa using h1
                refine ⟨fun _ => h1, fun _ => ?_, ?_, ?_⟩ <;> omega
              · rename_i hno
                rw [h4] at h1
                have hx0 : x < 0 := by omega
                have hnz : x % ((t : Int) + 1) ≠ 0 := fun e => hno (.inr (Int.dvd_of_emod_eq_zero e))
                refine ⟨fun _ => ?_, fun _ => ?_, ?_, ?_⟩ <;> omega
            have h2 := Int.emod_nonneg x (show (t : Int) + 1 ≠ 0 by omega)
            have HD := Lib.hid (And.intro hD0 (And.intro hd h2))
            clear hD0 h2 hT hmem hne hr0 hr1 hl
            by_cases hneg : r < 0
            · clear hd
              go_wp2_with fail
              go_meet
              refine ⟨?_, rfl⟩
              obtain ⟨e1, ⟨e2, e3, e4, e5⟩, e6⟩ := HD.out
              rw [e1]
              have e7 := e3 hneg
              have e8 : wrap64 (wrap64 (r + (t : Int)) + 1) = (((x % ((t : Int) + 1)).toNat : Nat) : Int) := by unfold wrap64; omega
              show Value.int .i64 (wrap64 (wrap64 (r + (t : Int)) + 1)) = _
              rw [e8]
            · clear hd
              have hneg' : 0 ≤ r := by omega
              go_wp2_with fail
              go_meet
              refine ⟨?_, rfl⟩
              obtain ⟨e1, ⟨e2, e3, e4, e5⟩, e6⟩ := HD.out
              rw [e1]
              have e7 := e2 hneg'
              congr 1
              omega
        case rest =>
          obtain ⟨rfl, rfl⟩ := hcut
          have htl := tailD_le ts j t
          have hps : ps.length = j := by
            have := congrArg List.length HFS.out
            rw [List.length_map, foundL_len, List.length_take, HML.out] at this; omega
          have hps5 : ps.length ≤ 10000 := by omega
          have HPS := Lib.hid hps
          clear hps
          obtain ⟨tl, htle⟩ : ∃ tl, tailD ts j t = tl := ⟨_, rfl⟩
          rw [htle] at htl ⊢
          obtain ⟨kp, hkp⟩ : ∃ kp, z.2 + tl = kp := ⟨_, rfl⟩
          have HKP := Lib.hid (And.intro htle (And.intro hkp (show kp ≤ nv by have := HT.out; omega)))
          have hA2 : IntKind.i64.wrap ((z.2 : Int) + (tl : Int)) = (kp : Int) := by rw [IntKind.wrap_i64]; omega
          have hA3 : (z.2 : Int) + (tl : Int) = (kp : Int) := by omega
          have hA4 : IntKind.i64.wrap (kp : Int) = (kp : Int) := by rw [IntKind.wrap_i64]; omega
          have hk1 : (kp : Int) ≤ (cv : Int) := by have := HT.out; omega
          have hk2 : kp ≤ cv := by omega
          have hk3 : (0 : Int) ≤ (kp : Int) := by omega
          have hknv : kp ≤ nv := HKP.out.2.2
          have HBK := Lib.hid (HBV1.out.take kp hknv)
          have k2 := HCR1.out.blk.cell 2 (v := vF') rfl
          obtain ⟨aF, cF, rfl⟩ := HCR1.out.oF.shape
          obtain ⟨aN, cN, rfl⟩ := HCR1.out.oN.shape
          clear htl htle hkp hsub hT
          go_wp2_with fail
          refine wp_region_noPanic ?_
          refine region_g 20 (Ext (World.drew _)) (by kernel_rfl) (Ext.refl _) (fun hS => ?_)
          refine take_w (i := 0) (v := ?_) (some 88) rfl (by kernel_rfl) rfl (fun _ _ _ h => h) (Or.inl ⟨by rfl, ?_⟩) hS ?_
          rotate_left
          · (intro wq hq; go_simp); first | done | with_reducible rfl
          try simp only [Act.put, List.setIfInBounds_toArray, List.set_cons_zero, List.set_cons_succ]
          replace hS := Till.list 0 hS
          refine take_w (i := 1) (v := ?_) (some 89) rfl (by kernel_rfl) rfl (fun _ _ _ h => h) (Or.inl ⟨by rfl, ?_⟩) hS ?_
          rotate_left
          · (intro wq hq; go_simp); first | done | with_reducible rfl
          try simp only [Act.put, List.setIfInBounds_toArray, List.set_cons_zero, List.set_cons_succ]
          replace hS := Till.list 1 hS
          refine take_w (i := 6) (v := ?_) (some 94) rfl (by kernel_rfl) rfl (fun _ _ _ h => h) (Or.inl ⟨by rfl, ?_⟩) hS ?_
          rotate_left
          · (intro wq hq; go_simp); first | done | with_reducible rfl
          try simp only [Act.put, List.setIfInBounds_toArray, List.set_cons_zero, List.set_cons_succ]
          replace hS := Till.list 6 hS
          refine take_w (i := 8) (v := ?_) (some 96) rfl (by kernel_rfl) rfl (fun _ _ _ h => h) (Or.inl ⟨by rfl, ?_⟩) hS ?_
          rotate_left
          · (intro wq hq; go_simp); first | done | with_reducible rfl
          try simp only [Act.put, List.setIfInBounds_toArray, List.set_cons_zero, List.set_cons_succ]
          replace hS := Till.list 8 hS
          refine take_w (i := 10) (v := ?_) (some 98) rfl (by kernel_rfl) rfl (fun _ _ _ h => h) (Or.inl ⟨by rfl, ?_⟩) hS ?_
          rotate_left
          · (intro wq hq; go_simp); first | done | with_reducible rfl
          try simp only [Act.put, List.setIfInBounds_toArray, List.set_cons_zero, List.set_cons_succ]
          replace hS := Till.list 10 hS
          refine take_w (i := 14) (v := ?_) (some 102) rfl (by kernel_rfl) rfl (fun _ _ _ h => h) (Or.inl ⟨by rfl, ?_⟩) hS ?_
          rotate_left
          · (intro wq hq; go_simp); first | done | with_reducible rfl
          try simp only [Act.put, List.setIfInBounds_toArray, List.set_cons_zero, List.set_cons_succ]
          replace hS := Till.list 14 hS
          refine take_w (i := 16) (v := ?_) (some 104) rfl (by kernel_rfl) rfl (fun _ _ _ h => h) (Or.inl ⟨by rfl, ?_⟩) hS ?_
          rotate_left
          · (intro wq hq; go_simp); first | done | with_reducible rfl
          try simp only [Act.put, List.setIfInBounds_toArray, List.set_cons_zero, List.set_cons_succ]
          replace hS := Till.list 16 hS
          refine take_w (i := 2) (v := ?_) (some 90) rfl (by kernel_rfl) rfl (fun _ _ _ h => h) (Or.inl ⟨by rfl, ?_⟩) hS ?_
          rotate_left
          · (intro wq hq; go_simp); first | done | with_reducible rfl
          try simp only [Act.put, List.setIfInBounds_toArray, List.set_cons_zero, List.set_cons_succ]
          replace hS := Till.list 2 hS
          refine take_g (i := 7) (v := ?_) [13, 12, 7] (some 95) rfl (by kernel_rfl) rfl (fun _ _ _ h => h) (Or.inl ⟨by rfl, ?_⟩) hS ?_
          rotate_left
          · (intro wq hq; have q0 := hq _ _ _ k2; have q1 := hq _ _ _ d0; have q2 := hq _ _ _ d1; go_simp); first | done | with_reducible rfl
          try simp only [Act.put, List.setIfInBounds_toArray, List.set_cons_zero, List.set_cons_succ]
          replace hS := Till.list 7 hS
          refine take_g (i := 9) (v := ?_) [13, 12, 11, 9] (some 97) rfl (by kernel_rfl) rfl (fun _ _ _ h => h) (Or.inl ⟨by rfl, ?_⟩) hS ?_
          rotate_left
          · (intro wq hq; have q0 := hq _ _ _ k2; have q1 := hq _ _ _ d0; have q2 := hq _ _ _ d1; go_simp); first | done | with_reducible rfl
          try simp only [Act.put, List.setIfInBounds_toArray, List.set_cons_zero, List.set_cons_succ]
          replace hS := Till.list 9 hS
          refine take_g (i := 15) (v := ?_) [19, 18, 17, 15] (some 103) rfl (by kernel_rfl) rfl (fun _ _ _ h => h) (Or.inl ⟨by rfl, ?_⟩) hS ?_
          rotate_left
          · (intro wq hq; have q0 := hq _ _ _ k2; have q1 := hq _ _ _ d0; have q2 := hq _ _ _ d1; go_simp); first | done | with_reducible rfl
          try simp only [Act.put, List.setIfInBounds_toArray, List.set_cons_zero, List.set_cons_succ]
          replace hS := Till.list 15 hS
          refine take_w (i := 3) (v := ?_) (some 91) rfl (by kernel_rfl) rfl (fun _ _ _ h => h) (Or.inl ⟨by rfl, ?_⟩) hS ?_
          rotate_left
          · (intro wq hq; go_simp); first | done | with_reducible rfl
          try simp only [Act.put, List.setIfInBounds_toArray, List.set_cons_zero, List.set_cons_succ]
          replace hS := Till.list 3 hS
          refine take_w (i := 11) (v := ?_) (some 99) rfl (by kernel_rfl) rfl (fun _ _ _ h => h) (Or.inl ⟨by rfl, ?_⟩) hS ?_
          rotate_left
          · (intro wq hq; go_simp); first | done | with_reducible rfl
          try simp only [Act.put, List.setIfInBounds_toArray, List.set_cons_zero, List.set_cons_succ]
          replace hS := Till.list 11 hS
          refine take_w (i := 17) (v := ?_) (some 105) rfl (by kernel_rfl) rfl (fun _ _ _ h => h) (Or.inl ⟨by rfl, ?_⟩) hS ?_
          rotate_left
          · (intro wq hq; go_simp); first | done | with_reducible rfl
          try simp only [Act.put, List.setIfInBounds_toArray, List.set_cons_zero, List.set_cons_succ]
          replace hS := Till.list 17 hS
          refine take_g (i := 4) (v := ?_) [4] (some 92) rfl (by kernel_rfl) rfl (fun _ _ _ h => h) (Or.inl ⟨by rfl, ?_⟩) hS ?_
          rotate_left
          · (intro wq hq; have q0 := hq _ _ _ k2; have q1 := hq _ _ _ d0; have q2 := hq _ _ _ d1; go_simp); first | done | with_reducible rfl
          try simp only [Act.put, List.setIfInBounds_toArray, List.set_cons_zero, List.set_cons_succ]
          replace hS := Till.list 4 hS
          refine take_w (i := 12) (v := ?_) (some 100) rfl (by kernel_rfl) rfl (fun _ _ _ h => h) (Or.inl ⟨by rfl, ?_⟩) hS ?_
          rotate_left
          · (intro wq hq; go_simp); first | done | with_reducible rfl
          try simp only [Act.put, List.setIfInBounds_toArray, List.set_cons_zero, List.set_cons_succ]
          replace hS := Till.list 12 hS
          refine ready_g (rs := [5]) (by kernel_rfl) (by simp) ?_
          refine AllReadyG.cons rfl (fun Kont hK => ?_) AllReadyG.nil
          go_simp
          refine hK.out _ _ (Or.inr ((hS.get (by kernel_rfl)).alloc _)) (fun hS0 => ?_)
          clear hK Kont
          try simp only [Act.put, List.setIfInBounds_toArray, List.set_cons_zero, List.set_cons_succ]
          clear hS
          have hS := hS0
          clear hS0
          refine ready_g (rs := [13]) (by kernel_rfl) (by simp) ?_
          refine AllReadyG.cons rfl (fun Kont hK => ?_) AllReadyG.nil
          refine want (by kernel_rfl) ?_
          refine wp_append_ow (some 101) rfl (.tmp 93) (.tmp 100) rfl wc.heap.size _ [] rfl (OW.empty wc.drew wc.heap.size (Nat.le_refl _) _ rfl) Av kp cv (z.1.take kp) rfl (HBK.out.drew.alloc _) (by simp only [List.length_nil]; omega) (by simp) ?_
          intro v4 w4 ho4 hb4
          rw [List.nil_append] at ho4
          have hbW : Below wc.heap.size wc w4 := ((Below.refl _ _).alloc (Nat.le_refl _) _).drew.trans hb4
          have hbyt : ∀ r ∈ z.1.take kp, 0 ≤ r ∧ r ≤ 255 := HBK.out.2.1
          obtain ⟨a4, c4, rfl, hk4, -, hv4, hl4⟩ := ho4.bvn hbyt kp HBK.out.1
          have HCR4 := Lib.hid (HCR1.out.below hbW)
          have HRB := Lib.hid (show RB (Zn wo w4 q (.slice aF ps.length cF) (.slice aN (numberN 0 (l.take j)).length cN)) w4 (.slice a4 kp c4) (z.1.take kp) from
            ⟨a4, kp, c4, rfl, hk4, hv4, fun r hr => by
              have h1 := hl4 r hr
              have h2 : r.block < w4.heap.size := by subst hr; exact (ho4.mono (Nat.zero_le _)).low0 rfl
              have h3 := HCR1.out.qW.2
              have h4 := HCR1.out.room
              exact ⟨⟨by omega, h2⟩, by omega, fun e => by have := HCR1.out.oF.lowB e; omega, fun e => by have := HCR1.out.oN.lowB e; omega⟩⟩)
          have HD4 := Lib.hid (And.intro (hD.below hbW) (keepc q1 hbW))
          clear hbyt hk4 hv4 hl4 ho4
          refine hK.out _ _ (Or.inr (((hS.get (by kernel_rfl)).low hb4 (Nat.le_refl _)))) (fun hS0 => ?_)
          clear hK Kont
          try simp only [Act.put, List.setIfInBounds_toArray, List.set_cons_zero, List.set_cons_succ]
          clear hS
          have hS := hS0
          clear hS0
          refine take_w (i := 18) (v := ?_) (some 106) rfl (by kernel_rfl) rfl (fun _ _ _ h => h) (Or.inl ⟨by rfl, ?_⟩) hS ?_
          rotate_left
          · (intro wq hq; go_simp); first | done | with_reducible rfl
          try simp only [Act.put, List.setIfInBounds_toArray, List.set_cons_zero, List.set_cons_succ]
          replace hS := Till.list 18 hS
          refine ready_g (rs := [19]) (by kernel_rfl) (by simp) ?_
          refine AllReadyG.cons rfl (fun Kont hK => ?_) AllReadyG.nil
          go_simp
          have hw5 : Below w4.heap.size w4 (w4.alloc (.cells #[.slice a4 kp c4, .int .i64 (kp : Int)] 93)) := Joins.below_alloc1 _ _
          have HCR5 := Lib.hid (HCR4.out.below hw5)
          have HRB5 := Lib.hid (show RB (Zn wo (w4.alloc (.cells #[.slice a4 kp c4, .int .i64 (kp : Int)] 93)) q (.slice aF ps.length cF) (.slice aN (numberN 0 (l.take j)).length cN)) (w4.alloc (.cells #[.slice a4 kp c4, .int .i64 (kp : Int)] 93)) (.slice a4 kp c4) (z.1.take kp) from
            HRB.out.kp (Kp.of_new (F := fun _ => False) hw5) (fun _ _ h => h) (fun b hb => ⟨⟨hb.1.1, by have := hb.1.2; have := hw5.size; omega⟩, hb.2⟩))
          have HD5 := Lib.hid (And.intro (HD4.out.1.below hw5) (keepc HD4.out.2 hw5))
          clear hw5
          refine hK.out _ _ (Or.inr ((hS.get (by kernel_rfl)).alloc _)) (fun hS0 => ?_)
          clear hK Kont
          try simp only [Act.put, List.setIfInBounds_toArray, List.set_cons_zero, List.set_cons_succ]
          clear hS
          have hS := hS0
          clear hS0
          generalize hwe : (w4.alloc (.cells #[.slice a4 kp c4, .int .i64 (kp : Int)] 93)) = w5 at *
          have hone5 : SV 2 w5 (some ⟨w4.heap.size, 0, none⟩) 1 [.slice a4 kp c4, .int .i64 (kp : Int)] := by
            rw [← hwe]; exact SV.lit' (k := 2) w4 [.slice a4 kp c4, .int .i64 (kp : Int)] 1 93 rfl (by intro u hu; simp only [List.mem_cons, List.not_mem_nil, or_false] at hu; rcases hu with rfl | rfl <;> rfl) _ rfl
          clear hwe
          refine ready_g (rs := [20]) (by kernel_rfl) (by simp) ?_
          refine AllReadyG.cons rfl (fun Kont hK => ?_) AllReadyG.nil
          refine want (by kernel_rfl) ?_
          refine wp_append_os2 el_files8 (some 108) rfl (.tmp 92) (.tmp 107) rfl wo.heap.size _ ps.length (pcells ps) rfl HCR5.out.oF _ 1 1 [.slice a4 kp c4, .int .i64 (kp : Int)] rfl hone5 (by omega) (by omega) HCR5.out.room ?_
          intro v6 w6 ho6 hb6 ob6 hk6
          have HCR6 := Lib.hid (HCR5.out.addF HRB5.out ho6 hb6 ob6 hk6)
          have hBq6 : Bk w6 q _ 76 := (hk6 q HCR5.out.qW.2 (fun e => (HCR5.out.dF q e).1 rfl)).trans HCR5.out.blk
          have u2 := hBq6.cell 2 (v := .slice aF ps.length cF) rfl
          have fu := hBq6.free 2
          obtain ⟨a6, c6, rfl⟩ := ho6.shape
          clear ho6 hb6 ob6 hk6 hone5 hBq6
          refine hK.out _ _ (Or.inl (by kernel_rfl)) (fun hS0 => ?_)
          clear hK Kont
          try simp only [Act.put, List.setIfInBounds_toArray, List.set_cons_zero, List.set_cons_succ]
          clear hS
          have hS := hS0
          clear hS0
          refine take_w (i := 21) (v := ?_) (some 109) rfl (by kernel_rfl) rfl (fun _ _ _ h => h) (Or.inl ⟨by rfl, ?_⟩) hS ?_
          rotate_left
          · (intro wq hq; go_simp); first | done | with_reducible rfl
          try simp only [Act.put, List.setIfInBounds_toArray, List.set_cons_zero, List.set_cons_succ]
          replace hS := Till.list 21 hS
          refine take_w (i := 22) (v := ?_) (some 110) rfl (by kernel_rfl) rfl (fun _ _ _ h => h) (Or.inl ⟨by rfl, ?_⟩) hS ?_
          rotate_left
          · (intro wq hq; go_simp); first | done | with_reducible rfl
          try simp only [Act.put, List.setIfInBounds_toArray, List.set_cons_zero, List.set_cons_succ]
          replace hS := Till.list 22 hS
          refine ready_g (rs := [23]) (by kernel_rfl) (by simp) ?_
          refine AllReadyG.cons rfl (fun Kont hK => ?_) AllReadyG.nil
          go_simp
          refine hK.out _ _ (Or.inl (by kernel_rfl)) (fun hS0 => ?_)
          clear hK Kont
          try simp only [Act.put, List.setIfInBounds_toArray, List.set_cons_zero, List.set_cons_succ]
          clear hS
          have hS := hS0
          clear hS0
          refine done_g (by kernel_rfl) (NoPanic.normal ?_) _
          clear hS
          have HB6 := Lib.hid (keepc HE1.out HCR6.out.bel)
          generalize (w6.setCell ⟨q, 2, none⟩ (.slice a6 (ps.length + 1) c6)) = w7 at *
          have k3 := HCR6.out.blk.cell 3 (v := .slice aN (numberN 0 (l.take j)).length cN) rfl
          have q9 := HB6.out
          have hnn : (numberN 0 (l.take j)).length ≤ 10000 := by rw [numberN_len, List.length_take]; omega
          obtain ⟨P1, hP1⟩ : ∃ P1, ps ++ [(Value.slice a4 kp c4, (z.1.take kp, kp))] = P1 := ⟨_, rfl⟩
          rw [hP1] at HCR6
          have HP1 := Lib.hid hP1
          obtain ⟨nl, hnl⟩ : ∃ nl, numberN 0 (l.take j) = nl := ⟨_, rfl⟩
          rw [hnl] at HCR6 k3 hnn
          have HNL := Lib.hid hnl
          clear hP1 hnl u2 fu HCR5 HRB5 HD5 HCR4 HRB HD4 HCR1 HBV1 HBK hb4 hbW k2 d0 d1 q1 hD
          go_wp2_with fail
          refine wp_region_noPanic ?_
          refine region_g 13 (Ext (World.drew _)) (by kernel_rfl) (Ext.refl _) (fun hS => ?_)
          refine take_w (i := 0) (v := ?_) (some 111) rfl (by kernel_rfl) rfl (fun _ _ _ h => h) (Or.inl ⟨by rfl, ?_⟩) hS ?_
          rotate_left
          · (intro wq hq; go_simp); first | done | with_reducible rfl
          try simp only [Act.put, List.setIfInBounds_toArray, List.set_cons_zero, List.set_cons_succ]
          replace hS := Till.list 0 hS
          refine take_w (i := 1) (v := ?_) (some 112) rfl (by kernel_rfl) rfl (fun _ _ _ h => h) (Or.inl ⟨by rfl, ?_⟩) hS ?_
          rotate_left
          · (intro wq hq; go_simp); first | done | with_reducible rfl
          try simp only [Act.put, List.setIfInBounds_toArray, List.set_cons_zero, List.set_cons_succ]
          replace hS := Till.list 1 hS
          refine take_w (i := 5) (v := ?_) (some 116) rfl (by kernel_rfl) rfl (fun _ _ _ h => h) (Or.inl ⟨by rfl, ?_⟩) hS ?_
          rotate_left
          · (intro wq hq; go_simp); first | done | with_reducible rfl
          try simp only [Act.put, List.setIfInBounds_toArray, List.set_cons_zero, List.set_cons_succ]
          replace hS := Till.list 5 hS
          refine take_w (i := 6) (v := ?_) (some 117) rfl (by kernel_rfl) rfl (fun _ _ _ h => h) (Or.inl ⟨by rfl, ?_⟩) hS ?_
          rotate_left
          · (intro wq hq; go_simp); first | done | with_reducible rfl
          try simp only [Act.put, List.setIfInBounds_toArray, List.set_cons_zero, List.set_cons_succ]
          replace hS := Till.list 6 hS
          refine take_w (i := 10) (v := ?_) (some 121) rfl (by kernel_rfl) rfl (fun _ _ _ h => h) (Or.inl ⟨by rfl, ?_⟩) hS ?_
          rotate_left
          · (intro wq hq; go_simp); first | done | with_reducible rfl
          try simp only [Act.put, List.setIfInBounds_toArray, List.set_cons_zero, List.set_cons_succ]
          replace hS := Till.list 10 hS
          refine take_w (i := 2) (v := ?_) (some 113) rfl (by kernel_rfl) rfl (fun _ _ _ h => h) (Or.inl ⟨by rfl, ?_⟩) hS ?_
          rotate_left
          · (intro wq hq; go_simp); first | done | with_reducible rfl
          try simp only [Act.put, List.setIfInBounds_toArray, List.set_cons_zero, List.set_cons_succ]
          replace hS := Till.list 2 hS
          refine take_w (i := 7) (v := ?_) (some 118) rfl (by kernel_rfl) rfl (fun _ _ _ h => h) (Or.inl ⟨by rfl, ?_⟩) hS ?_
          rotate_left
          · (intro wq hq; go_simp); first | done | with_reducible rfl
          try simp only [Act.put, List.setIfInBounds_toArray, List.set_cons_zero, List.set_cons_succ]
          replace hS := Till.list 7 hS
          refine take_w (i := 3) (v := ?_) (some 114) rfl (by kernel_rfl) rfl (fun _ _ _ h => h) (Or.inl ⟨by rfl, ?_⟩) hS ?_
          rotate_left
          · (intro wq hq; go_simp); first | done | with_reducible rfl
          try simp only [Act.put, List.setIfInBounds_toArray, List.set_cons_zero, List.set_cons_succ]
          replace hS := Till.list 3 hS
          refine take_w (i := 8) (v := ?_) (some 119) rfl (by kernel_rfl) rfl (fun _ _ _ h => h) (Or.inl ⟨by rfl, ?_⟩) hS ?_
          rotate_left
          · (intro wq hq; go_simp); first | done | with_reducible rfl
          try simp only [Act.put, List.setIfInBounds_toArray, List.set_cons_zero, List.set_cons_succ]
          replace hS := Till.list 8 hS
          refine take_g (i := 4) (v := ?_) [4] (some 115) rfl (by kernel_rfl) rfl (fun _ _ _ h => h) (Or.inl ⟨by rfl, ?_⟩) hS ?_
          rotate_left
          · (intro wq hq; have q0 := hq _ _ _ k3; have q1 := hq _ _ _ q9; go_simp); first | done | with_reducible rfl
          try simp only [Act.put, List.setIfInBounds_toArray, List.set_cons_zero, List.set_cons_succ]
          replace hS := Till.list 4 hS
          refine take_g (i := 9) (v := ?_) [12, 11, 9] (some 120) rfl (by kernel_rfl) rfl (fun _ _ _ h => h) (Or.inl ⟨by rfl, ?_⟩) hS ?_
          rotate_left
          · (intro wq hq; have q0 := hq _ _ _ k3; have q1 := hq _ _ _ q9; go_simp); first | done | with_reducible rfl
          try simp only [Act.put, List.setIfInBounds_toArray, List.set_cons_zero, List.set_cons_succ]
          replace hS := Till.list 9 hS
          refine take_w (i := 11) (v := ?_) (some 122) rfl (by kernel_rfl) rfl (fun _ _ _ h => h) (Or.inl ⟨by rfl, ?_⟩) hS ?_
          rotate_left
          · (intro wq hq; go_simp); first | done | with_reducible rfl
          try simp only [Act.put, List.setIfInBounds_toArray, List.set_cons_zero, List.set_cons_succ]
          replace hS := Till.list 11 hS
          refine ready_g (rs := [12]) (by kernel_rfl) (by simp) ?_
          refine AllReadyG.cons rfl (fun Kont hK => ?_) AllReadyG.nil
          go_simp
          have hw8 : Below w7.heap.size w7 (w7.alloc (.cells #[.string s, .int .i64 (j : Int)] 89)).drew := (Joins.below_alloc1 _ _).drew
          have hw8' : Below w7.heap.size w7 (w7.drew.alloc (.cells #[.string s, .int .i64 (j : Int)] 89)) := ((Below.refl _ _).drew).alloc (Nat.le_refl _) _
          refine hK.out _ _ (Or.inr ((hS.get (by kernel_rfl)).alloc _)) (fun hS0 => ?_)
          clear hK Kont
          try simp only [Act.put, List.setIfInBounds_toArray, List.set_cons_zero, List.set_cons_succ]
          clear hS
          have hS := hS0
          clear hS0
          have HCR8 := Lib.hid (HCR6.out.below hw8')
          have hone8 : SV 2 (w7.drew.alloc (.cells #[.string s, .int .i64 (j : Int)] 89)) (some ⟨w7.heap.size, 0, none⟩) 1 [.string s, .int .i64 (j : Int)] := SV.lit' (k := 2) w7.drew [.string s, .int .i64 (j : Int)] 1 89 rfl (two_nm _ _) _ rfl
          refine ready_g (rs := [13]) (by kernel_rfl) (by simp) ?_
          refine AllReadyG.cons rfl (fun Kont hK => ?_) AllReadyG.nil
          refine want (by kernel_rfl) ?_
          refine wp_append_os2 el_names8 (some 124) rfl (.tmp 115) (.tmp 123) rfl wo.heap.size _ nl.length (ncells nl) rfl HCR8.out.oN _ 1 1 [.string s, .int .i64 (j : Int)] rfl hone8 (by omega) (by omega) HCR8.out.room ?_
          intro v9 w9 ho9 hb9 ob9 hk9
          have HCR9 := Lib.hid (HCR8.out.addN ho9 hb9 ob9 hk9)
          have hBq9 : Bk w9 q _ 76 := (hk9 q HCR8.out.qW.2 (fun e => HCR8.out.dN q e rfl)).trans HCR8.out.blk
          have u3 := hBq9.cell 3 (v := .slice aN nl.length cN) rfl
          have fu := hBq9.free 3
          obtain ⟨a9, c9, rfl⟩ := ho9.shape
          clear ho9 hb9 ob9 hk9 hone8 hBq9 hw8 hw8'
          refine hK.out _ _ (Or.inl (by kernel_rfl)) (fun hS0 => ?_)
          clear hK Kont
          try simp only [Act.put, List.setIfInBounds_toArray, List.set_cons_zero, List.set_cons_succ]
          clear hS
          have hS := hS0
          clear hS0
          refine take_w (i := 14) (v := ?_) (some 125) rfl (by kernel_rfl) rfl (fun _ _ _ h => h) (Or.inl ⟨by rfl, ?_⟩) hS ?_
          rotate_left
          · (intro wq hq; go_simp); first | done | with_reducible rfl
          try simp only [Act.put, List.setIfInBounds_toArray, List.set_cons_zero, List.set_cons_succ]
          replace hS := Till.list 14 hS
          refine take_w (i := 15) (v := ?_) (some 126) rfl (by kernel_rfl) rfl (fun _ _ _ h => h) (Or.inl ⟨by rfl, ?_⟩) hS ?_
          rotate_left
          · (intro wq hq; go_simp); first | done | with_reducible rfl
          try simp only [Act.put, List.setIfInBounds_toArray, List.set_cons_zero, List.set_cons_succ]
          replace hS := Till.list 15 hS
          refine ready_g (rs := [16]) (by kernel_rfl) (by simp) ?_
          refine AllReadyG.cons rfl (fun Kont hK => ?_) AllReadyG.nil
          go_simp
          refine hK.out _ _ (Or.inl (by kernel_rfl)) (fun hS0 => ?_)
          clear hK Kont
          try simp only [Act.put, List.setIfInBounds_toArray, List.set_cons_zero, List.set_cons_succ]
          clear hS
          have hS := hS0
          clear hS0
          refine done_g (by kernel_rfl) (NoPanic.normal ?_) _
          clear hS
          have HFS2 := Lib.hid (show P1.map Prod.snd = foundL M.files ts 0 (l.take (j + 1)) by
            rw [HTK.out, foundL_snoc, ← HFS.out, ← HP1.out, List.map_append]
            have hlj : (l.take j).length = j := by rw [List.length_take, HML.out]; omega
            obtain ⟨z1, z2, z3⟩ := HZ.out
            obtain ⟨k1, k2, k3⟩ := HKP.out
            have : foundOne M.files ts (0 + (l.take j).length) f = (z.1.take kp, kp) := by
              unfold foundOne
              rw [z1, z2, hlj, Nat.zero_add, HT.out, k1, k2]
            rw [this]; rfl)
          have HNL2 := Lib.hid (show nl ++ [(s, j)] = numberN 0 (l.take (j + 1)) by
            have hlj : (l.take j).length = j := by rw [List.length_take, HML.out]; omega
            rw [HTK.out, numberN_snoc, HNL.out, Nat.zero_add, hlj])
          go_wp2_with fail
          go_roundw
          case rel => exact ⟨j + 1, _, _, P1, by omega, by go_num, HFS2, Lib.hid (by rw [← HNL2.out]; exact HCR9.out)⟩
          case measure => simp [intOf]; omega
      · obtain rfl : j = m := by omega
        have htk : l.take j = l := List.take_of_length_le (by rw [HML.out]; exact Nat.le_refl _)
        rw [htk] at HFS HCR
        obtain ⟨aN, cN, rfl, hcN, -, hsN, -, -⟩ := HCR.out.oN.sv
        have hnn : (numberN 0 l).length ≤ 10000 := by rw [numberN_len, HML.out]; omega
        have hqs := HCR.out.qW.2
        obtain ⟨nl, hnl⟩ : ∃ nl, numberN 0 l = nl := ⟨_, rfl⟩
        rw [hnl] at HCR hnn hsN hcN HCD
        have hwa : Below wr.heap.size wr (wr.alloc (.cells #[] 89)) := Joins.below_alloc1 _ _
        have o0 : OS 2 (wr.alloc (.cells #[] 89)) wr.heap.size (.slice (some ⟨wr.heap.size, 0, none⟩) 0 0) 0 [] := OS.lit (k := 2) wr wr.heap.size (Nat.le_refl _) [] 0 89 rfl (by simp) (by simp) _ rfl
        have k3 := (HCR.out.blk.below hwa).cell 3 (v := .slice aN nl.length cN) rfl
        have hsN2 := SV.below hsN hwa
        have HNL := Lib.hid hnl
        clear htk hnl hsN hnv hvT c0 c2
        go_wp2_with (at_builtin; refine append_os el_names8 rfl (.tmp 128) (.tmp 132) rfl wr.heap.size _ 0 [] rfl o0 aN nl.length cN (ncells nl) rfl hsN2 (by omega) (by omega) hwa.size ?_; intro v2 w3 ho2 hb2; rw [Nat.zero_add, List.nil_append] at ho2; have hb3 := hwa.trans hb2; have hB3 := HCR.out.blk.below hb3; have f4 := hB3.free 4; have c4 := hB3.cell 4 (v := .slice none 0 0) rfl; obtain ⟨A3, C3, rfl⟩ := ho2.shape)
        go_ret
        have HC3 := HCR.out.below hb3
        have hso : ∀ b, (Value.slice A3 nl.length C3).ownBlock = some b → b ≠ q := fun b hb => by
          have h1 : wr.heap.size ≤ b := by
            obtain ⟨_, _, h0 | ⟨g, cap, cur, T', e, hg, hh, -⟩⟩ := ho2
            · rw [h0.1] at hb; cases hb
            · rw [e] at hb; cases hb; exact hg
          omega
        have hbf : Below w.heap.size w (w3.setCell ⟨q, 4, none⟩ (.slice A3 nl.length C3)) := (HB.out.trans (HC3.bel.mono HB.out.size)).setCell (show w.heap.size ≤ q from Nat.le_trans HB.out.size HC3.qW.1) _
        have hsz : (w3.setCell ⟨q, 4, none⟩ (.slice A3 nl.length C3)).heap.size = w3.heap.size := size_set _ _ _
        have hJ : ∀ b, wc.heap.size ≤ b → b < w3.heap.size → b ≠ q → Jn (AndNew I w (w3.setCell ⟨q, 4, none⟩ (.slice A3 nl.length C3))) q b := fun b h1 h2 h3 => ⟨.inr ⟨Nat.le_trans HB.out.size h1, by rw [hsz]; exact h2⟩, h3⟩
        have hkq : Kp (fun b => b = q) w3 (w3.setCell ⟨q, 4, none⟩ (.slice A3 nl.length C3)) := kp_set (Below.refl _ _) 4 _
        have hsl : ∀ {k n : Nat} {v : Value} {cs : List Value} {b0 : Nat}, OS k w3 b0 v n cs → wc.heap.size ≤ b0 → (∀ b, v.ownBlock = some b → b ≠ q) → RSl (Jn (AndNew I w (w3.setCell ⟨q, 4, none⟩ (.slice A3 nl.length C3))) q) k (w3.setCell ⟨q, 4, none⟩ (.slice A3 nl.length C3)) v n cs := by
          intro k n v cs b0 ho hb0 hne
          have ho' := ho.sameB (w' := w3.setCell ⟨q, 4, none⟩ (.slice A3 nl.length C3)) (fun g hg hl => Below.heap_setCell _ _ _ _ (hne g hg))
          obtain ⟨A', c', rfl, h1, -, h3, h4, -⟩ := ho'.sv
          exact ⟨A', c', rfl, h1, h3, fun r hr => by
            subst hr
            have h5 := ho.lowB (b := r.block) rfl
            exact hJ _ (Nat.le_trans hb0 (h4 r rfl)) h5 (hne _ rfl)⟩
        refine ⟨q, rfl, ⟨vF', .slice aN nl.length cN, .slice A3 nl.length C3, .slice none 0 0, .slice none 0 0, ?_⟩, Nat.le_trans HB.out.size HC3.qW.1, hbf⟩
        rw [HCD.out]
        refine ⟨HC3.blk.set 4 _, .inr ⟨Nat.le_trans HB.out.size HC3.qW.1, by rw [hsz]; exact HC3.qW.2⟩, ⟨ps, HFS.out.symm, hsl HC3.oF (Nat.le_refl _) (fun b hb => (HC3.dF b hb).1), fun p hp => (HC3.rb p hp).kp hkq (fun b hz => hz.2.1) (fun b hz => hJ b hz.1.1 hz.1.2 hz.2.1)⟩, hsl HC3.oN (Nat.le_refl _) HC3.dN, hsl ho2 HCR.out.room hso, ⟨[], rfl, RSl.nil _ _ _⟩, RSl.nil _ _ _, Nat.zero_le _⟩
end
end Go.Proofs.Ytlagmjdldplblaa
/- Contract of package disk: Clone. -/
namespace Go.Proofs.Ytlagmjdldplblaa
open Go.ChangeShapes Go.WideShapes Go.ChangeAt Go.RowKit Go.WideMaps Go.Maps
set_option linter.unusedVariables false
set_option maxRecDepth 4000

set_option maxHeartbeats 1000000 in
theorem sclone8_any (a : Option Addr) (n cap : Nat) (cs : List Value) (w : World) (hv : SV 4 w a n cs) (hl : n ≤ 100000) :
    Calls Try.prog 44 #[.slice a n cap] w fun e w' => ∃ v, e = .returned v ∧ OS 4 w' w.heap.size v n cs ∧ Below w.heap.size w w' := by
  cases a with
  | none =>
    have hn : n = 0 := by
      rcases hv.2.2 with h | ⟨b, off, h, _⟩
      · exact h
      · cases h
    subst hn
    have hz : cs = [] := List.eq_nil_of_length_eq_zero (by have := hv.1; omega)
    subst hz
    clear hv
    have hnil : ∀ wx, (binOp .eql 68 (.slice none 0 cap) (.slice none 0 0)).run Try.prog wx = .ok (.bool true) wx := fun wx => Lib.run_eql_slice_nil wx 68 97 none 0 cap 0 0 Try.underlying68
    go_enter Try.func44, Try.ntmps44
    go_wp2
    go_ret
    exact ⟨_, rfl, OS.nil _ _, Below.refl _ _⟩
  | some x =>
    have hnil : ∀ wx, (binOp .eql 68 (.slice (some x) n cap) (.slice none 0 0)).run Try.prog wx = .ok (.bool false) wx := fun wx => Lib.run_eql_slice_nil wx 68 97 (some x) n cap 0 0 Try.underlying68
    have hw1 : Below w.heap.size w (w.alloc (.cells #[] 97)) := Joins.below_alloc1 _ _
    have o0 : OS 4 (w.alloc (.cells #[] 97)) w.heap.size (.slice (some ⟨w.heap.size, 0, none⟩) 0 0) 0 [] := OS.lit (k := 4) w w.heap.size (Nat.le_refl _) [] 0 97 rfl (by simp) (by simp) _ rfl
    have hv1 := SV.below hv hw1
    go_enter Try.func44, Try.ntmps44
    go_wp2_with (at_builtin; refine append_os el_chs rfl (.tmp 5) (.tmp 6) rfl w.heap.size _ 0 [] rfl o0 (some x) n cap cs rfl hv1 (by omega) (by omega) hw1.size ?_; intro v2 w2 ho2 hb2; rw [Nat.zero_add, List.nil_append] at ho2)
    go_ret
    exact ⟨_, rfl, ho2, hw1.trans hb2⟩
/-- a map of names that is copied, or none -/
theorem kclone_any {og : Nat → Or8} {rl : Nat → Nat} {w : World} {F : Nat → Prop} {o : Option Nat} {l : List Nm8} (h : KMap og rl w F o l) :
    Calls Try.prog 43 #[.map o] w fun e w' => ∃ o', e = .returned (.map o') ∧ ((o' = none ∧ l = []) ∨ (o' = some w.heap.size ∧ w'.ownsMap Try.prog 9 eO w.heap.size l.length (nmD og l) ∧ w.heap.size < w'.heap.size)) ∧ Below w.heap.size w w' := by
  rcases h with ⟨rfl, rfl⟩ | ⟨b, rfl, h1, -, -⟩
  · exact (mclone_nil w).mono (fun e w' ⟨h1, h2⟩ => ⟨none, h1, .inl ⟨rfl, rfl⟩, by rw [h2]; exact Below.refl _ _⟩)
  · exact (mclone_any w h1).mono (fun e w' ⟨h1, h2, h3, h4⟩ => ⟨_, h1, .inr ⟨rfl, h2, by omega⟩, h3⟩)
theorem xcl_any {rl : Nat → Nat} {D : DataW Value} {w : World} {F : Nat → Prop} {o : Option Nat} {l : List Int} (h : XMap rl D w F o l) :
    Calls Try.prog 45 #[.map o] w fun e w' => ∃ o', e = .returned (.map o') ∧ ((o' = none ∧ l = []) ∨ (o' = some w.heap.size ∧ w'.ownsMap Try.prog 3 unitElem w.heap.size (Maps.size D) D ∧ (∀ x : Int, -9223372036854775808 ≤ x → x ≤ maxI → Maps.has D (.int .i64 x) = decide (x ∈ l)) ∧ w.heap.size < w'.heap.size)) ∧ Below w.heap.size w w' := by
  rcases h with ⟨rfl, rfl⟩ | ⟨b, rfl, h1, h2, -, -⟩
  · exact (xclone_nil w).mono (fun e w' ⟨h1, h2⟩ => ⟨none, h1, .inl ⟨rfl, rfl⟩, by rw [h2]; exact Below.refl _ _⟩)
  · exact (xclone_any w h1).mono (fun e w' ⟨h3, h4, h5, h6⟩ => ⟨_, h3, .inr ⟨rfl, h4, h2, by omega⟩, h5⟩)
/-- what is copied of the files so far -/
structure CLN (g : G8) (M : DK) (B0 : Nat) (left : Lit → Bool) (D : DataW Value) (sv : Nat → Value) (rl : Nat → Nat) (wr : World) : Prop where
  each : ∀ f, g.lv f → left (kO (g.og f)) = false → Maps.has D (kO (g.og f)) = true ∧ (∀ z, D.atKey (kO (g.og f)) z = .held (fileV (sv f) (flN M f).2)) ∧ OW wr B0 (sv f) (flN M f).1 ∧ ∀ b, (sv f).ownBlock = some b → rl b = 6 + f
  full : ∀ l, Maps.has D l = true → ∃ f, g.lv f ∧ l = kO (g.og f)
theorem CLN.below {g : G8} {M : DK} {B0 : Nat} {left : Lit → Bool} {D : DataW Value} {sv : Nat → Value} {rl : Nat → Nat} {wr w' : World} (h : CLN g M B0 left D sv rl wr) (he : ∀ b, B0 ≤ b → b < wr.heap.size → w'.heap[b]? = wr.heap[b]?) : CLN g M B0 left D sv rl w' := by
  refine ⟨fun f hf hl => ?_, h.full⟩
  obtain ⟨h1, h2, h3, h4⟩ := h.each f hf hl
  refine ⟨h1, h2, ?_, h4⟩
  rcases h3 with h3 | ⟨g', cap, cur, T, e, hg, hh, hr⟩
  · exact .inl h3
  · exact .inr ⟨g', cap, cur, T, e, hg, (he g' hg (heap_lt hh)).trans hh, hr⟩
theorem CLN.step {g : G8} {k : Nat} {w : World} {F : Nat → Prop} {p : Nat} {M : DK} (hd : DD g k w F p M) (hk : k ≤ 1000) {B0 : Nat} {left : Lit → Bool} {D : DataW Value} {sv : Nat → Value} {rl : Nat → Nat} {wr : World} (h : CLN g M B0 left D sv rl wr) (ht : Maps.Tidy D) {f n : Nat} (hf : g.lv f) {v : Value} (hv : OW wr n v (flN M f).1) (hn : B0 ≤ n)
    (ho : ∀ f', g.lv f' → left (kO (g.og f')) = false → ∀ b, (sv f').ownBlock = some b → b < n) :
    CLN g M B0 (fun z => left z && !z.sameKey (kO (g.og f))) (D.put (kO (g.og f)) (.held (fileV v (flN M f).2))) (fun j => if j = f then v else sv j) (fun b => if b < n then rl b else 6 + f) wr := by
  have hkl := law8O.key (hd.key hk (hd.each f hf).place)
  refine ⟨fun f' hf' hl => ?_, fun l hl => ?_⟩
  · by_cases e : f' = f
    · subst e
      refine ⟨has_put_same ht.isMap hkl _, fun z => by rw [if_pos rfl]; exact atKey_put_same ht.isMap hkl _ z, ?_, fun b hb => ?_⟩
      · rw [if_pos rfl]
        rcases hv with hv | ⟨g', cap, cur, T, e, hg, hr⟩
        · exact .inl hv
        · exact .inr ⟨g', cap, cur, T, e, Nat.le_trans hn hg, hr⟩
      · rw [if_pos rfl] at hb
        have : n ≤ b := by
          rcases hv with ⟨hv, _⟩ | ⟨g', cap, cur, T, e, hg, -⟩
          · rw [hv] at hb; cases hb
          · rw [e] at hb; cases hb; exact hg
        rw [if_neg (by omega)]
    · have hne := hd.keyNe hk (hd.each f' hf').place (hd.each f hf).place e
      have hl2 : left (kO (g.og f')) = false := by
        rw [Bool.and_eq_false_iff] at hl
        rcases hl with hl | hl
        · exact hl
        · exfalso
          rw [Bool.not_eq_false'] at hl
          exact hne (WideAt.sameKey_eq hl)
      obtain ⟨h1, h2, h3, h4⟩ := h.each f' hf' hl2
      refine ⟨(has_put_other hne _).trans h1, fun z => by rw [if_neg e]; exact (atKey_put_other hne _ z).trans (h2 z), by rw [if_neg e]; exact h3, fun b hb => ?_⟩
      rw [if_neg e] at hb
      rw [if_pos (ho f' hf' hl2 b hb), h4 b hb]
  · by_cases e : l = kO (g.og f)
    · exact ⟨f, hf, e⟩
    · exact h.full l ((has_put_other e _).symm.trans hl)
theorem ranges_below {H : Type} {P : Program} {kt : TypeId} {R : Value → Option (DataW H × List MemPlace)} {w w' : World} {b r n : Nat} {D : DataW H} {left : Lit → Bool} {cnt : Nat} (h : w.ranges P kt R b r n D left cnt) (hb : Below w.heap.size w w') : w'.ranges P kt R b r n D left cnt := by
  have h1 := h.owns.lt
  have h2 := h.lt
  obtain ⟨es, clock, since, seen, c0, hb', F, hs, hD, hr, rest⟩ := h
  exact ⟨es, clock, since, seen, c0, (hb.block b h1).trans hb', F, hs, hD, (hb.block r h2).trans hr, rest⟩
theorem OW.sameB {w w' : World} {base : Nat} {v : Value} {bs : List Int} (h : OW w base v bs) (he : ∀ g, base ≤ g → g < w.heap.size → w'.heap[g]? = w.heap[g]?) : OW w' base v bs := by
  rcases h with h | ⟨g, cap, cur, T, e, h2, h3, h4⟩
  · exact .inl h
  · exact .inr ⟨g, cap, cur, T, e, h2, (he g h2 (heap_lt h3)).trans h3, h4⟩
theorem OW.lowB {w : World} {base : Nat} {v : Value} {bs : List Int} (h : OW w base v bs) {b : Nat} (hb : v.ownBlock = some b) : base ≤ b ∧ b < w.heap.size := by
  rcases h with ⟨rfl, _⟩ | ⟨g, cap, cur, T, rfl, h2, h3, h4⟩
  · cases hb
  · cases hb; exact ⟨h2, heap_lt h3⟩
set_option maxHeartbeats 8000000 in
theorem clone_any (g : G8) (k : Nat) (w : World) (F : Nat → Prop) (p : Nat) (M : DK) (hk : k ≤ 900) (h : DD g k w F p M) :
    Calls Try.prog 15 #[.pointer (some ⟨p, 0, none⟩)] w fun e w' => ∃ q, e = .returned (.pointer (some ⟨q, 0, none⟩)) ∧ (∃ g', DD g' k w' (fun b => w.heap.size ≤ b) q M) ∧ Below w.heap.size w w' := by
  have hB := h.blk
  have c0 := hB.cell 0 (v := .int .i64 M.quota) rfl
  have c1 := hB.cell 1 (v := .map (some g.bF)) rfl
  have c2 := hB.cell 2 (v := .map (some g.bN)) rfl
  have c3 := hB.cell 3 (v := .map g.bK) rfl
  have c4 := hB.cell 4 (v := g.ch) rfl
  have c5 := hB.cell 5 (v := .int .i64 (M.taken : Int)) rfl
  have c6 := hB.cell 6 (v := .map g.bX) rfl
  have c7 := hB.cell 7 (v := .bool M.limit.isSome) rfl
  have c8 := hB.cell 8 (v := .int .i64 ((M.limit.getD 0 : Nat) : Int)) rfl
  have c9 := hB.cell 9 (v := .bool M.dead) rfl
  obtain ⟨chA, chC, hchs⟩ := h.chv.1.shape
  have HH := Lib.hid h
  have HCH := Lib.hid hchs
  rw [hchs] at c4
  have hpl := hB.lt
  have hmk : ∀ wx, (Instr.makeMap 66 none).run Try.prog wx = .ok (.map (some wx.heap.size)) (wx.alloc (.map #[] 0)) := fun wx => run_makeMap ..
  clear h hB hchs
  go_enter Try.func15, Try.ntmps15
  go_upto_region 3 with fail
  have hbA : Below w.heap.size w (w.alloc (.cells #[.int .i64 M.quota, .map (some (w.heap.size + 1)), .map (some g.bN), .map g.bK, .slice chA g.pc.length chC, .int .i64 (M.taken : Int), .map g.bX, .bool M.limit.isSome, .int .i64 ((M.limit.getD 0 : Nat) : Int), .bool M.dead] 71)) := Joins.below_alloc1 _ _
  have hPA := Bk.new w #[.int .i64 M.quota, .map (some (w.heap.size + 1)), .map (some g.bN), .map g.bK, .slice chA g.pc.length chC, .int .i64 (M.taken : Int), .map g.bX, .bool M.limit.isSome, .int .i64 ((M.limit.getD 0 : Nat) : Int), .bool M.dead] 71
  have hsA : (w.alloc (.cells #[.int .i64 M.quota, .map (some (w.heap.size + 1)), .map (some g.bN), .map g.bK, .slice chA g.pc.length chC, .int .i64 (M.taken : Int), .map g.bX, .bool M.limit.isSome, .int .i64 ((M.limit.getD 0 : Nat) : Int), .bool M.dead] 71)).heap.size = w.heap.size + 1 := by simp
  generalize (w.alloc (.cells #[.int .i64 M.quota, .map (some (w.heap.size + 1)), .map (some g.bN), .map g.bK, .slice chA g.pc.length chC, .int .i64 (M.taken : Int), .map g.bX, .bool M.limit.isSome, .int .i64 ((M.limit.getD 0 : Nat) : Int), .bool M.dead] 71)) = wA at *
  have hb2 : Below w.heap.size w (wA.alloc (.map #[] 0)) := hbA.alloc hbA.size _
  have hP2 := hPA.alloc (.map #[] 0)
  have hmade := World.ownsMap_made wA Try.prog 83 eF
  rw [hsA] at hmade
  have hs2 : (wA.alloc (.map #[] 0)).heap.size = w.heap.size + 2 := by simp [hsA]
  generalize (wA.alloc (.map #[] 0)) = w2 at *
  have hown2 := ownsMap_same HH.out.files.1 (hb2.block _ HH.out.files.1.lt)
  have e1 := keepc c1 hb2
  have HB2 := Lib.hid (And.intro hb2 (And.intro hP2 hs2))
  have HMade := Lib.hid hmade
  clear hmk hbA hPA hsA hb2 hP2 hmade hs2 c0 c1 c2 c3 c4 c5 c6 c7 c8 c9
  go_wp2_with (first | (at_range; refine wpList_range_own _ rfl _ 66 rfl 83 85 law8O Try.underlying66 _ g.bF _ _ rfl hown2 ?_; intro w3 hrg3 hg3 hs3) | fail)
  (try go_frame)
  have hbl3 : Below w2.heap.size w2 w3 := (Below.refl _ _).grown hg3 (Nat.le_refl _) (fun j hj => by cases hj)
  have hmade3 := ownsMap_same HMade.out (hbl3.block _ (by have := HB2.out.2.2; omega))
  obtain ⟨r, hr⟩ : ∃ r, w2.heap.size = r := ⟨_, rfl⟩
  have hbl3' : Below (w.heap.size + 1) w2 w3 := hbl3.mono (by have := HB2.out.2.2; omega)
  rw [hr] at hrg3 ⊢
  have HR := Lib.hid (And.intro hr hs3)
  clear hr hs3 hg3 hown2 hbl3
  go_loopw [4] (fun _ wr => ∃ (left : Lit → Bool) (cnt : Nat) (D : DataW Value) (sv : Nat → Value) (rl : Nat → Nat), wr.ranges Try.prog 83 eF g.bF r (Maps.size g.DF) g.DF left cnt ∧ wr.ownsMap Try.prog 83 eF (w.heap.size + 1) (Maps.size D) D ∧ Maps.size D + cnt ≤ Maps.size g.DF ∧ Hid (CLN g M (w.heap.size + 3) left D sv rl wr) ∧ Below (w.heap.size + 1) w2 wr ∧ w.heap.size + 3 ≤ wr.heap.size) (fun _ wr => wr.rangeLeft g.bF r)
  case atStart =>
    refine ⟨_, _, .map [], fun _ => .slice none 0 0, fun _ => 0, hrg3, hmade3, ?_, Lib.hid ⟨fun f hf hl => ?_, fun l hl => by simp [Maps.has] at hl⟩, hbl3', by have := HR.out; have := HB2.out.2.2; omega⟩
    · simp [Maps.size]
    · rw [(HH.out.each f hf).has] at hl; cases hl
  case round =>
    clear hrg3 hmade3 hbl3'
    obtain ⟨left, cnt, D, sv, rl, hrg, hown, hsz, HC, hbel, hsr⟩ := hrel
    go_wp2_with (first | (at_next; refine wpList_next_ranges _ rfl _ rfl 83 law8O eF (fun v : Value => v) (fun v : Value => v) (fun key kl _ => ⟨key, rfl⟩) (fun v y _ => ⟨v, rfl⟩) g.bF r _ _ _ _ rfl hrg ?_ ?_) | fail)
    · intro _ hl0
      have hbw := HB2.out.1.trans (hbel.mono (Nat.le_succ _))
      have hP : Bk wr w.heap.size _ 71 := HB2.out.2.1.low hbel (Nat.lt_succ_self _)
      have hmapD := ownsMap_same hown rfl
      have HCF := Lib.hid (And.intro HC.out (And.intro (show ∀ x, left x = false from hl0) (And.intro hown (show Maps.size D ≤ k by have := HH.out.fsize; omega))))
      have c2 := (HH.out.blk.below hbw).cell 2 (v := .map (some g.bN)) rfl
      have f2 := hP.free 2
      have u2 := hP.cell 2 (v := .map (some g.bN)) rfl
      have HBW := Lib.hid (And.intro hbw hP)
      clear hmapD hbw hP hrg hown hsz HC hbel hl0 HMade
      go_wp2_with fail
      refine (mclone_any wr (ownsMap_same HH.out.names.1 (HBW.out.1.block _ HH.out.names.1.lt))).mono ?_
      rintro e w4 ⟨rfl, hm4, hb4, hs4⟩
      have hP4 := HBW.out.2.below hb4
      have g2 := hP4.free 2
      have v2 := hP4.cell 2 (v := .map (some g.bN)) rfl
      have HM4 := Lib.hid (And.intro hm4 (And.intro hb4 (And.intro hs4 hP4)))
      clear hm4 hb4 hs4 hP4 f2 u2 c2
      go_upto_region 8 with fail
      obtain ⟨n1, hn1⟩ : ∃ n1, wr.heap.size = n1 := ⟨_, rfl⟩
      have hP5 := HM4.out.2.2.2.set 2 (.map (some n1))
      have hk5 : ∀ b, b ≠ w.heap.size → (w4.setCell ⟨w.heap.size, 2, none⟩ (.map (some n1))).heap[b]? = w4.heap[b]? := fun b hb => Below.heap_setCell _ _ _ _ hb
      have hs5 : (w4.setCell ⟨w.heap.size, 2, none⟩ (.map (some n1))).heap.size = n1 + 1 := by rw [size_set, HM4.out.2.2.1, hn1]
      have hb5 : Below w.heap.size w (w4.setCell ⟨w.heap.size, 2, none⟩ (.map (some n1))) := (HBW.out.1.trans (HM4.out.2.1.mono HBW.out.1.size)).setCell (Nat.le_refl _) _
      rw [hn1]
      generalize (w4.setCell ⟨w.heap.size, 2, none⟩ (.map (some n1))) = w5 at *
      have hm5 := ownsMap_same HM4.out.1 (hk5 _ (by omega))
      rw [hn1] at hm5
      have hC5 : CLN g M (w.heap.size + 3) left D sv rl w5 := HCF.out.1.below (fun b h1 h2 => (hk5 b (by omega)).trans (HM4.out.2.1.block b h2))
      have hD5 := ownsMap_same HCF.out.2.2.1 ((hk5 _ (by omega)).trans (HM4.out.2.1.block _ HCF.out.2.2.1.lt))
      have hDl : w.heap.size + 1 < n1 := by have := HCF.out.2.2.1.lt; omega
      have hlow : ∀ f, g.lv f → ∀ b, (sv f).ownBlock = some b → w.heap.size + 3 ≤ b ∧ b < n1 := fun f hf b hb => by
        obtain ⟨-, -, h5, -⟩ := HCF.out.1.each f hf (HCF.out.2.1 _)
        have := h5.lowB hb
        omega
      have hkm5 : KMap g.og g.rl w5 F g.bK M.kept := HH.out.kept.move (F' := F) (rl' := g.rl) (fun b h1 h2 h3 => ⟨hb5.block b h3, h1, h2⟩)
      have c3 := (HH.out.blk.below hb5).cell 3 (v := .map g.bK) rfl
      have H5 := Lib.hid (And.intro hP5 (And.intro hb5 (And.intro hm5 (And.intro hC5 (And.intro hD5 (And.intro hs5 hkm5))))))
      have HLow := Lib.hid (And.intro hDl (And.intro hlow hn1))
      clear hP5 hb5 hm5 hC5 hD5 hs5 hkm5 hk5 hDl hlow hn1 g2 v2
      go_wp2_with fail
      refine (kclone_any H5.out.2.2.2.2.2.2).mono ?_
      rintro e w6 ⟨oK, rfl, hoK, hb6⟩
      have hP6 := H5.out.1.below hb6
      have g3 := hP6.free 3
      have v3 := hP6.cell 3 (v := .map g.bK) rfl
      have H6 := Lib.hid (And.intro hP6 (And.intro hoK hb6))
      clear hP6 hoK hb6 c3
      go_upto_region 9 with fail
      have hP7 := H6.out.1.set 3 (.map oK)
      have hk7 : ∀ b, b ≠ w.heap.size → (w6.setCell ⟨w.heap.size, 3, none⟩ (.map oK)).heap[b]? = w6.heap[b]? := fun b hb => Below.heap_setCell _ _ _ _ hb
      have hs7 : (w6.setCell ⟨w.heap.size, 3, none⟩ (.map oK)).heap.size = w6.heap.size := size_set _ _ _
      have hb7 : Below w.heap.size w (w6.setCell ⟨w.heap.size, 3, none⟩ (.map oK)) := (H5.out.2.1.trans (H6.out.2.2.mono H5.out.2.1.size)).setCell (Nat.le_refl _) _
      generalize (w6.setCell ⟨w.heap.size, 3, none⟩ (.map oK)) = w7 at *
      have mv7 : ∀ b, b ≠ w.heap.size → b < w5.heap.size → w7.heap[b]? = w5.heap[b]? := fun b h1 h2 => (hk7 b h1).trans (H6.out.2.2.block b h2)
      have hl5 := H5.out.2.2.2.2.2.1
      have hDl := HLow.out.1
      have hm7 := ownsMap_same H5.out.2.2.1 (mv7 n1 (by omega) (by omega))
      have hC7 : CLN g M (w.heap.size + 3) left D sv rl w7 := H5.out.2.2.2.1.below (fun b h1 h2 => mv7 b (by omega) h2)
      have hD7 := ownsMap_same H5.out.2.2.2.2.1 (mv7 (w.heap.size + 1) (by omega) (by omega))
      have hK7 : (oK = none ∧ M.kept = []) ∨ (oK = some (n1 + 1) ∧ w7.ownsMap Try.prog 9 eO (n1 + 1) M.kept.length (nmD g.og M.kept) ∧ n1 + 1 < w7.heap.size) := by
        have h6 := H6.out.2.1
        rw [hl5] at h6
        rcases h6 with h6 | ⟨h1, h2, h3⟩
        · exact .inl h6
        · exact .inr ⟨h1, ownsMap_same h2 (hk7 _ (by omega)), by omega⟩
      have hn3 : n1 + 1 ≤ w7.heap.size := by have := H6.out.2.2.size; omega
      have c4 := (HH.out.blk.below hb7).cell 4 (v := .slice chA g.pc.length chC) (by rw [← HCH.out]; rfl)
      have hsv7 : SV 4 w7 chA g.pc.length (chCells g.og g.pc) := by
        obtain ⟨a9, c9, e9, -, -, h9, -⟩ := HH.out.chv.1.sv
        rw [HCH.out] at e9
        rw [(Value.slice.inj e9).1]
        exact SV.below h9 hb7
      have hpc : g.pc.length ≤ 900 := by
        have h1 := HH.out.pl.kc
        have h2 := congrArg List.length HH.out.chs.1
        rw [List.length_map] at h2
        omega
      have H7 := Lib.hid (And.intro hP7 (And.intro hb7 (And.intro hm7 (And.intro hC7 (And.intro hD7 (And.intro hK7 (And.intro hn3 hsv7)))))))
      clear hP7 hb7 hm7 hC7 hD7 hK7 hn3 hsv7 hk7 hs7 mv7 hl5 hDl g3 v3 H5 H6
      go_wp2_with fail
      refine (sclone8_any chA g.pc.length chC _ w7 H7.out.2.2.2.2.2.2.2 (by omega)).mono ?_
      rintro e w8 ⟨v8, rfl, ho8, hb8⟩
      obtain ⟨a8, c8', rfl⟩ := ho8.shape
      have hP8 := H7.out.1.below hb8
      have g4 := hP8.free 4
      have v4 := hP8.cell 4 (v := .slice chA g.pc.length chC) rfl
      have H8 := Lib.hid (And.intro hP8 (And.intro ho8 hb8))
      clear hP8 ho8 hb8 c4
      go_upto_region 10 with fail
      have hP9 := H8.out.1.set 4 (.slice a8 g.pc.length c8')
      have hk9 : ∀ b, b ≠ w.heap.size → (w8.setCell ⟨w.heap.size, 4, none⟩ (.slice a8 g.pc.length c8')).heap[b]? = w8.heap[b]? := fun b hb => Below.heap_setCell _ _ _ _ hb
      have hs9 : (w8.setCell ⟨w.heap.size, 4, none⟩ (.slice a8 g.pc.length c8')).heap.size = w8.heap.size := size_set _ _ _
      have hb9 : Below w.heap.size w (w8.setCell ⟨w.heap.size, 4, none⟩ (.slice a8 g.pc.length c8')) := (H7.out.2.1.trans (H8.out.2.2.mono H7.out.2.1.size)).setCell (Nat.le_refl _) _
      generalize (w8.setCell ⟨w.heap.size, 4, none⟩ (.slice a8 g.pc.length c8')) = w9 at *
      obtain ⟨n3, hn3⟩ : ∃ n3, w7.heap.size = n3 := ⟨_, rfl⟩
      have mv9 : ∀ b, b ≠ w.heap.size → b < n3 → w9.heap[b]? = w7.heap[b]? := fun b h1 h2 => (hk9 b h1).trans (H8.out.2.2.block b (by omega))
      have hn13 : n1 + 1 ≤ n3 := by have := H7.out.2.2.2.2.2.2.1; omega
      have hDl := HLow.out.1
      have hm9 := ownsMap_same H7.out.2.2.1 (mv9 n1 (by omega) (by omega))
      have hC9 : CLN g M (w.heap.size + 3) left D sv rl w9 := H7.out.2.2.2.1.below (fun b h1 h2 => mv9 b (by omega) (by omega))
      have hD9 := ownsMap_same H7.out.2.2.2.2.1 (mv9 (w.heap.size + 1) (by omega) (by omega))
      have hK9 : (oK = none ∧ M.kept = []) ∨ (oK = some (n1 + 1) ∧ w9.ownsMap Try.prog 9 eO (n1 + 1) M.kept.length (nmD g.og M.kept) ∧ n1 + 1 < n3) := by
        rcases H7.out.2.2.2.2.2.1 with h6 | ⟨h1, h2, h3⟩
        · exact .inl h6
        · exact .inr ⟨h1, ownsMap_same h2 (mv9 _ (by omega) (by omega)), by omega⟩
      have hol : ∀ b, (Value.slice a8 g.pc.length c8').ownBlock = some b → n3 ≤ b ∧ b < w9.heap.size := fun b hb => by
        refine ⟨?_, by rw [hs9]; exact (H8.out.2.1.lower (Nat.zero_le _)).low0 hb⟩
        obtain ⟨-, -, h0 | ⟨g', cap, cur, T, e, hg, -⟩⟩ := H8.out.2.1
        · rw [h0.1] at hb; cases hb
        · have hb2 : some g' = some b := by rw [e] at hb; exact hb
          have := Option.some.inj hb2
          omega
      have hO9 : OS 4 w9 0 (.slice a8 g.pc.length c8') g.pc.length (chCells g.og g.pc) := (H8.out.2.1.lower (Nat.zero_le _)).same8 (fun b hb _ => hk9 b (by have := (hol b hb).1; omega))
      have hx9 : XMap g.rl g.DX w9 F g.bX M.fails := HH.out.fails.move (F' := F) (rl' := g.rl) (fun b h1 h2 h3 => ⟨hb9.block b h3, h1, h2⟩)
      have hn39 : n3 ≤ w9.heap.size := by have := H8.out.2.2.size; omega
      have c6 := (HH.out.blk.below hb9).cell 6 (v := .map g.bX) rfl
      have H9 := Lib.hid (And.intro hP9 (And.intro hb9 (And.intro hm9 (And.intro hC9 (And.intro hD9 (And.intro hK9 (And.intro hol (And.intro hO9 (And.intro hx9 (And.intro hn13 hn39))))))))))
      clear hP9 hb9 hm9 hC9 hD9 hK9 hol hO9 hx9 hk9 hs9 mv9 hDl g4 v4 H7 H8 hn13 hn39 hn3 hpc
      go_wp2_with fail
      refine (xcl_any H9.out.2.2.2.2.2.2.2.2.1).mono ?_
      rintro e w10 ⟨oX, rfl, hoX, hb10⟩
      have hP10 := H9.out.1.below hb10
      have g6 := hP10.free 6
      have v6 := hP10.cell 6 (v := .map g.bX) rfl
      have H10 := Lib.hid (And.intro hP10 (And.intro hoX hb10))
      clear hP10 hoX hb10 c6
      go_wp2_with fail
      go_ret
      obtain ⟨hP9, hb9, hm9, hC9, hD9, hK9, hol, hO9, hx9, hn13, hn39⟩ := H9.out
      obtain ⟨hP10, hoX, hb10⟩ := H10.out
      obtain ⟨hDl, hlow, -⟩ := HLow.out
      have hP11 := hP10.set 6 (.map oX)
      have hk11 : ∀ b, b ≠ w.heap.size → (w10.setCell ⟨w.heap.size, 6, none⟩ (.map oX)).heap[b]? = w10.heap[b]? := fun b hb => Below.heap_setCell _ _ _ _ hb
      have hs11 : (w10.setCell ⟨w.heap.size, 6, none⟩ (.map oX)).heap.size = w10.heap.size := size_set _ _ _
      have hb11 : Below w.heap.size w (w10.setCell ⟨w.heap.size, 6, none⟩ (.map oX)) := (hb9.trans (hb10.mono hb9.size)).setCell (Nat.le_refl _) _
      generalize (w10.setCell ⟨w.heap.size, 6, none⟩ (.map oX)) = w11 at *
      obtain ⟨n4, hn4⟩ : ∃ n4, w9.heap.size = n4 := ⟨_, rfl⟩
      rw [hn4] at hoX hol hn39
      have mv11 : ∀ b, b ≠ w.heap.size → b < n4 → w11.heap[b]? = w9.heap[b]? := fun b h1 h2 => (hk11 b h1).trans (hb10.block b (by omega))
      refine ⟨w.heap.size, rfl, ⟨{ g with sv := sv, bF := w.heap.size + 1, bN := n1, bK := oK, bX := oX, ch := .slice a8 g.pc.length c8', DF := D, rl := fun b => if b = w.heap.size then 0 else if b = w.heap.size + 1 then 1 else if b < n1 then rl b else if b = n1 then 2 else if b < n3 then 3 else if b < n4 then 5 else 4 }, ?_⟩, hb11⟩
      refine ⟨HH.out.ok, HH.out.pl, HH.out.org, HH.out.inj, hP11, ⟨Nat.le_refl _, if_pos rfl⟩, ⟨ownsMap_same hm9 (mv11 n1 (by omega) (by omega)), (show w.heap.size ≤ n1 by omega), ?_⟩, ?_, ?_, ⟨ownsMap_same hD9 (mv11 (w.heap.size + 1) (by omega) (by omega)), (show w.heap.size ≤ w.heap.size + 1 by omega), ?_⟩, HCF.out.2.2.2, HH.out.live, ?_, HH.out.chs, ⟨hO9.same8 (fun b hb _ => mv11 b (by have := hol b hb; omega) (hol b hb).2), fun b hb => ⟨(show w.heap.size ≤ b by have := hol b hb; omega), ?_⟩⟩, hC9.full⟩
      · show (if n1 = w.heap.size then 0 else if n1 = w.heap.size + 1 then 1 else if n1 < n1 then rl n1 else if n1 = n1 then 2 else _) = 2
        rw [if_neg (by omega), if_neg (by omega), if_neg (by omega), if_pos rfl]
      · rcases hK9 with hK9 | ⟨h1, h2, h3⟩
        · exact .inl hK9
        · refine .inr ⟨n1 + 1, h1, ownsMap_same h2 (mv11 (n1 + 1) (by omega) (by omega)), (show w.heap.size ≤ n1 + 1 by omega), ?_⟩
          show (if n1 + 1 = w.heap.size then 0 else if n1 + 1 = w.heap.size + 1 then 1 else if n1 + 1 < n1 then rl (n1 + 1) else if n1 + 1 = n1 then 2 else if n1 + 1 < n3 then 3 else _) = 3
          rw [if_neg (by omega), if_neg (by omega), if_neg (by omega), if_neg (by omega), if_pos h3]
      · rcases hoX with hoX | ⟨h1, h2, h3, h4⟩
        · exact .inl hoX
        · refine .inr ⟨n4, h1, ownsMap_same h2 (hk11 n4 (by omega)), h3, (show w.heap.size ≤ n4 by omega), ?_⟩
          show (if n4 = w.heap.size then 0 else if n4 = w.heap.size + 1 then 1 else if n4 < n1 then rl n4 else if n4 = n1 then 2 else if n4 < n3 then 3 else if n4 < n4 then 5 else 4) = 4
          rw [if_neg (by omega), if_neg (by omega), if_neg (by omega), if_neg (by omega), if_neg (by omega), if_neg (by omega)]
      · show (if w.heap.size + 1 = w.heap.size then 0 else if w.heap.size + 1 = w.heap.size + 1 then 1 else _) = 1
        rw [if_neg (by omega), if_pos rfl]
      · intro f hf
        obtain ⟨h1, h2, h3, h4⟩ := hC9.each f hf (HCF.out.2.1 _)
        refine ⟨(HH.out.each f hf).place, h1, h2, ?_, fun b hb => ?_⟩
        · rcases h3 with h3 | ⟨g', cap, cur, T, e, hg, hh, hr⟩
          · exact .inl h3
          · have hb := hlow f hf g' (by rw [e]; rfl)
            exact .inr ⟨g', cap, cur, T, e, Nat.zero_le _, (mv11 g' (by omega) (by omega)).trans hh, hr⟩
        · obtain ⟨h5, h6⟩ := hlow f hf b hb
          refine ⟨(show w.heap.size ≤ b by omega), ?_⟩
          show (if b = w.heap.size then 0 else if b = w.heap.size + 1 then 1 else if b < n1 then rl b else _) = _
          rw [if_neg (by omega), if_neg (by omega), if_pos h6, h4 b hb]
      · have h5 := hol b hb
        show (if b = w.heap.size then 0 else if b = w.heap.size + 1 then 1 else if b < n1 then rl b else if b = n1 then 2 else if b < n3 then 3 else if b < n4 then 5 else 4) = 5
        rw [if_neg (by omega), if_neg (by omega), if_neg (by omega), if_neg (by omega), if_neg (by omega), if_pos h5.2]
    · intro key vv kl yd yp w4 cnt1 hkey hlx hv hat hrg1 hlt hg1 hs1 hen
      obtain ⟨f, hf, rfl⟩ := HH.out.full kl (has_true_of_atKey hat)
      have hx := HH.out.each f hf
      have hkey2 : key = oV (g.og f) := law8O.inj hkey (HH.out.key (by omega) hx.place)
      subst hkey2
      obtain ⟨a, n, c, s', hvv, hyv⟩ := eF_inv hv
      have hy1 := (hat .nil).symm.trans (hx.at_ .nil)
      have hy2 : yd = .held (fV a n c s') := congrArg Prod.fst hyv
      rw [hy2] at hy1
      have hsvf : g.sv f = .slice a n c ∧ s' = ((flN M f).2 : Int) := by
        simp only [DataW.held.injEq, fV, fileV, Value.agg.injEq, Array.mk.injEq, List.cons.injEq, Value.int.injEq, true_and, and_true] at hy1
        exact ⟨hy1.1.symm, hy1.2⟩
      obtain ⟨hsv, rfl⟩ := hsvf
      subst hvv
      obtain ⟨o1, o2, hog⟩ : ∃ o1 o2, g.og f = (o1, o2) := ⟨_, _, rfl⟩
      rw [hog] at hen
      unfold fV oV at hen
      have hr2 : r = w.heap.size + 2 := by have := HR.out; have := HB2.out.2.2; omega
      have hb1' : Below (w.heap.size + 1) w2 w4 := hbel.grown hg1 (by omega) (fun j hj => by cases hj; omega)
      have hown4 := ownsMap_same hown (hg1.block _ hown.lt (fun e => by have := Option.some.inj e; omega))
      have hP4 : Bk w4 w.heap.size _ 71 := HB2.out.2.1.low hb1' (Nat.lt_succ_self _)
      have hbw4 : Below w.heap.size w w4 := HB2.out.1.trans (hb1'.mono (Nat.le_succ _))
      have hby : ∀ z ∈ (flN M f).1, 0 ≤ z ∧ z ≤ 255 := HH.out.pl.bytes _ (HH.out.mem hx.place)
      have hdl := HH.out.pl.len _ (HH.out.mem hx.place)
      have hdat := hx.data
      rw [hsv] at hdat
      obtain ⟨a', c', hac, hlc, -, hbv, -⟩ := hdat.bvn hby _ rfl
      have hnl : n = (flN M f).1.length := (Value.slice.inj hac).2.1
      have haa : a = a' := (Value.slice.inj hac).1
      subst haa
      rw [← hnl] at hbv
      have hbv4 := hbv.below hbw4
      have hC4 := HC.out.below (w' := w4) (fun b h1 h2 => hg1.block b h2 (fun e => by have := Option.some.inj e; omega))
      have hs4 : w.heap.size + 3 ≤ w4.heap.size := by have := hg1.size; omega
      have HX := Lib.hid (And.intro hx (And.intro hsv (And.intro hog (And.intro hnl hdl))))
      have HW4 := Lib.hid (And.intro hb1' (And.intro hbw4 (And.intro hC4 (And.intro hown4 hP4))))
      have HRG := Lib.hid (And.intro hrg1 (And.intro hlt hrg))
      have HBV := Lib.hid hbv4
      have hn5 : n ≤ 1000000 := by have : 1000 * k ≤ 1000 * 900 := Nat.mul_le_mul_left _ hk; omega
      clear hx hsv hac hlc hbv hdat hby hdl hbw4 hown4 hP4 hb1' hbv4 hC4 hrg1 hlt hrg hown hy1 hy2 hyv hv hat hkey hlx hg1 hs1 hbel HC hnl hog hr2
      show wpList _ _ _ _ _ _
      go_wp2_with fail


      have hN1 := (Bk.new w4 #[.int .i64 o1, .string o2] 83).alloc (.cells #[.slice a n c, .int .i64 ((flN M f).2 : Int)] 85)
      have hN2 := Bk.new (w4.alloc (.cells #[.int .i64 o1, .string o2] 83)) #[.slice a n c, .int .i64 ((flN M f).2 : Int)] 85
      rw [heap_alloc] at hN2
      have hb5 : Below w4.heap.size w4 ((w4.alloc (.cells #[.int .i64 o1, .string o2] 83)).alloc (.cells #[.slice a n c, .int .i64 ((flN M f).2 : Int)] 85)) := (Joins.below_alloc1 _ _).alloc (by rw [heap_alloc]; omega) _
      generalize ((w4.alloc (.cells #[.int .i64 o1, .string o2] 83)).alloc (.cells #[.slice a n c, .int .i64 ((flN M f).2 : Int)] 85)) = w5 at *
      have q0 := hN1.cell 0 (v := .int .i64 o1) rfl
      have q1 := hN1.cell 1 (v := .string o2) rfl
      have q2 := hN2.cell 0 (v := .slice a n c) rfl
      have q3 := hN2.cell 1 (v := .int .i64 ((flN M f).2 : Int)) rfl
      have q4 := (HW4.out.2.2.2.2.below hb5).cell 1 (v := .map (some (w.heap.size + 1))) rfl
      have HB5 := Lib.hid hb5
      have hbv5 := HBV.out.below hb5
      have h54 : w4.heap.size ≤ w5.heap.size := hb5.size
      clear hN1 hN2 hb5 hen
      refine wp_region_noPanic ?_
      refine region_g 9 (Old w5) (by kernel_rfl) ((Old.refl w5).drew) (fun hS => ?_)
      refine take_w (i := 0) (v := ?_) (some 21) rfl (by kernel_rfl) rfl (fun _ _ _ h => h) (Or.inl ⟨by rfl, ?_⟩) hS ?_
      rotate_left
      · (intro wq hq; go_simp); first | done | with_reducible rfl
      try simp only [Act.put, List.setIfInBounds_toArray, List.set_cons_zero, List.set_cons_succ]
      replace hS := Till.list 0 hS
      refine take_g (i := 2) (v := ?_) [2] (some 23) rfl (by kernel_rfl) rfl (fun _ _ _ h => h) (Or.inl ⟨by rfl, ?_⟩) hS ?_
      rotate_left
      · (intro wq hq; have p0 := hq.cell q0; have p1 := hq.cell q1; have p2 := hq.cell q2; have p3 := hq.cell q3; have p4 := hq.cell q4; go_simp); first | done | with_reducible rfl
      try simp only [Act.put, List.setIfInBounds_toArray, List.set_cons_zero, List.set_cons_succ]
      replace hS := Till.list 2 hS
      refine take_w (i := 3) (v := ?_) (some 24) rfl (by kernel_rfl) rfl (fun _ _ _ h => h) (Or.inl ⟨by rfl, ?_⟩) hS ?_
      rotate_left
      · (intro wq hq; go_simp); first | done | with_reducible rfl
      try simp only [Act.put, List.setIfInBounds_toArray, List.set_cons_zero, List.set_cons_succ]
      replace hS := Till.list 3 hS
      refine take_w (i := 6) (v := ?_) (some 27) rfl (by kernel_rfl) rfl (fun _ _ _ h => h) (Or.inl ⟨by rfl, ?_⟩) hS ?_
      rotate_left
      · (intro wq hq; go_simp); first | done | with_reducible rfl
      try simp only [Act.put, List.setIfInBounds_toArray, List.set_cons_zero, List.set_cons_succ]
      replace hS := Till.list 6 hS
      refine take_g (i := 1) (v := ?_) [1] (some 22) rfl (by kernel_rfl) rfl (fun _ _ _ h => h) (Or.inl ⟨by rfl, ?_⟩) hS ?_
      rotate_left
      · (intro wq hq; have p0 := hq.cell q0; have p1 := hq.cell q1; have p2 := hq.cell q2; have p3 := hq.cell q3; have p4 := hq.cell q4; go_simp); first | done | with_reducible rfl
      try simp only [Act.put, List.setIfInBounds_toArray, List.set_cons_zero, List.set_cons_succ]
      replace hS := Till.list 1 hS
      refine take_g (i := 4) (v := ?_) [4] (some 25) rfl (by kernel_rfl) rfl (fun _ _ _ h => h) (Or.inl ⟨by rfl, ?_⟩) hS ?_
      rotate_left
      · (intro wq hq; have p0 := hq.cell q0; have p1 := hq.cell q1; have p2 := hq.cell q2; have p3 := hq.cell q3; have p4 := hq.cell q4; go_simp); first | done | with_reducible rfl
      try simp only [Act.put, List.setIfInBounds_toArray, List.set_cons_zero, List.set_cons_succ]
      replace hS := Till.list 4 hS
      refine take_g (i := 7) (v := ?_) [7] (some 28) rfl (by kernel_rfl) rfl (fun _ _ _ h => h) (Or.inl ⟨by rfl, ?_⟩) hS ?_
      rotate_left
      · (intro wq hq; have p0 := hq.cell q0; have p1 := hq.cell q1; have p2 := hq.cell q2; have p3 := hq.cell q3; have p4 := hq.cell q4; go_simp); first | done | with_reducible rfl
      try simp only [Act.put, List.setIfInBounds_toArray, List.set_cons_zero, List.set_cons_succ]
      replace hS := Till.list 7 hS
      refine ready_g (rs := [5]) (by kernel_rfl) (by simp) ?_
      refine AllReadyG.cons rfl (fun Kont hK => ?_) AllReadyG.nil
      go_simp
      refine (clone8_any a n c (flN M f).1 _ hbv5.drew (by omega)).mono ?_
      rintro e w6 ⟨v, rfl, ho6, hb6⟩
      have hb56 : Below w5.heap.size w5 w6 := ((Below.refl _ _).drew).trans hb6
      have hb46 : Below w4.heap.size w4 w6 := Below.then HB5.out hb56
      obtain ⟨a6, m6, c6, rfl⟩ := ho6.shape
      refine hK.out _ _ (Or.inr (((hS.get (by kernel_rfl)).below hb6))) (fun hS0 => ?_)
      clear hK Kont
      try simp only [Act.put, List.setIfInBounds_toArray, List.set_cons_zero, List.set_cons_succ]
      clear hS
      have hS := hS0
      clear hS0
      refine take_w (i := 8) (v := ?_) (some 29) rfl (by kernel_rfl) rfl (fun _ _ _ h => h) (Or.inl ⟨by rfl, ?_⟩) hS ?_
      rotate_left
      · (intro wq hq; go_simp); first | done | with_reducible rfl
      try simp only [Act.put, List.setIfInBounds_toArray, List.set_cons_zero, List.set_cons_succ]
      replace hS := Till.list 8 hS
      have hown6 := ownsMap_same HW4.out.2.2.2.1 (hb46.block _ HW4.out.2.2.2.1.lt)
      have hsDF := HH.out.fsize
      obtain ⟨w7, hrun, hm7, hg7⟩ := hown6.update law8O Try.underlying66 (by unfold maxLen; omega) (by have := HH.out.key (by omega) HX.out.1.place; rw [HX.out.2.2.1] at this; exact this) (eF_mk a6 m6 c6 ((flN M f).2 : Int))
      have hrg7 := (ranges_below HRG.out.1 hb46).kept hg7 (fun e => by have := Option.some.inj e; have := HH.out.files.1.lt; omega) (fun e => by have := Option.some.inj e; have := HR.out; have := HB2.out.2.2; omega)
      have hblk7 : ∀ b, w.heap.size + 3 ≤ b → b < w6.heap.size → w7.heap[b]? = w6.heap[b]? := fun b h1 h2 => hg7.block b h2 (fun e => by have := Option.some.inj e; omega)
      have hC7 : CLN g M (w.heap.size + 3) left D sv rl w7 := HW4.out.2.2.1.below (fun b h1 h2 => (hblk7 b h1 (Nat.lt_of_lt_of_le h2 hb46.size)).trans (hb46.block b h2))
      have ho7 : OW w7 w5.heap.size (.slice a6 m6 c6) (flN M f).1 := OW.sameB (w := w6) ho6 (fun b h1 h2 => hblk7 b (by have : w5.heap.size ≤ b := h1; omega) h2)
      have hst := CLN.step HH.out (by omega) hC7 (HW4.out.2.2.2.1.tidy law8O) hf ho7 (by omega) (fun f' h1 h2 b h3 => by
        obtain ⟨-, -, h5, -⟩ := HW4.out.2.2.1.each f' h1 h2
        have := (h5.lowB h3).2; omega)
      rw [HX.out.2.2.1] at hst
      have hsp : Maps.size (D.put (kO (o1, o2)) (.held (fV a6 m6 c6 ((flN M f).2 : Int)))) ≤ Maps.size D + 1 := by
        rw [size_put (HW4.out.2.2.2.1.tidy law8O)]; split <;> omega
      rw [HX.out.2.2.1] at hrg7
      have hbel7 : Below (w.heap.size + 1) w2 w7 := (HW4.out.1.trans (hb46.mono (by omega))).grown hg7 (by have := hb46.size; omega) (fun j hj => by cases hj; omega)
      have HF := Lib.hid (And.intro hrg7 (And.intro (ownsMap_tight hm7) (And.intro (show Maps.size (D.put (kO (o1, o2)) (.held (fV a6 m6 c6 ((flN M f).2 : Int)))) + cnt1 ≤ Maps.size g.DF by have := HRG.out.2.1; omega) (And.intro hst (And.intro hbel7 (show w.heap.size + 3 ≤ w7.heap.size by have := hg7.size; have := hb46.size; omega))))))
      unfold fV oV at hrun
      clear hrg7 hm7 hst hbel7 hsp hg7 hblk7 hC7 ho7 hown6 hb56 hb46 hb6 ho6 hsDF
      refine ready_g (rs := [9]) (by kernel_rfl) (by simp) ?_
      refine AllReadyG.cons rfl (fun Kont hK => ?_) AllReadyG.nil
      go_simp
      refine hK.out _ _ (Or.inl (by kernel_rfl)) (fun hS0 => ?_)
      clear hK Kont
      try simp only [Act.put, List.setIfInBounds_toArray, List.set_cons_zero, List.set_cons_succ]
      clear hS
      have hS := hS0
      clear hS0
      refine done_g (by kernel_rfl) (NoPanic.normal ?_) _
      clear hS
      go_wp2_with fail
      go_roundw
      case rel => exact ⟨_, cnt1, _, _, _, HF.out.1, HF.out.2.1, HF.out.2.2.1, Lib.hid HF.out.2.2.2.1, HF.out.2.2.2.2.1, HF.out.2.2.2.2.2⟩
      case measure => rw [HF.out.1.left_eq, HRG.out.2.2.left_eq]; exact HRG.out.2.1
end Go.Proofs.Ytlagmjdldplblaa
