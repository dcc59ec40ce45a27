/- Texts that belong together, one behind the other: QBN, QB5, QB6, QB7. -/
import Derived.Test.YtbfihajgjbpmaaaGreatGrnA
import Derived.Test.YtbfihajgjbpmaaaGreatOrdK
import Derived.Test.YtbfihajgjbpmaaaGreatPrtB
import Derived.Test.YtbfihajgjbpmaaaGreatTexts
import Derived.Test.YtbfihajgjbpmaaaGreatPrtC
import Derived.Test.YtbfihajgjbpmaaaGreatBlockOwn
/- Rows that lie beside an own block. -/
namespace Go.Proofs.YtbfihajgjbpmaaaGreat
open Go.ChangeShapes Go.WideShapes Go.ChangeAt Go.RowKit
set_option linter.unusedVariables false
set_option maxRecDepth 4000

/-- rows that lie beside the own block of v -/
def PRN (w : World) (ps : List P9) (v : Value) : Prop := ∀ p ∈ ps, rowRep.rep w (sV p.1) p.2 (fun b => v.ownBlock ≠ some b ∧ b < w.heap.size)
theorem PRN.pr {w : World} {ps : List P9} {v : Value} (h : PRN w ps v) : PR w ps := fun p hp => (h p hp).1
theorem PRN.below {w w' : World} {ps : List P9} {v : Value} (h : PRN w ps v) (hb : Below w.heap.size w w') : PRN w' ps v := fun p hp =>
  rowRep.wider (rowRep.frame (h p hp) (fun b _ hl => hb.block b hl)) (fun b q => ⟨q.1, Nat.lt_of_lt_of_le q.2 hb.size⟩)
/-- behind an append to v: some more -/
theorem PRN.app {w w' : World} {ps qs : List P9} {v v' : Value} (h : PRN w ps v) (hq : PRN w qs v) (hs : w.heap.size ≤ w'.heap.size) (hk : v'.ownBlock = v.ownBlock ∨ v'.ownBlock = some w.heap.size)
    (hst : ∀ b, b < w.heap.size → v.ownBlock ≠ some b → w'.heap[b]? = w.heap[b]?) : PRN w' (ps ++ qs) v' := fun p hp => by
  have h1 : rowRep.rep w (sV p.1) p.2 (fun b => v.ownBlock ≠ some b ∧ b < w.heap.size) := (List.mem_append.1 hp).elim (h p) (hq p)
  refine rowRep.wider (rowRep.frame h1 (fun b q hl => hst b hl q.1)) (fun b q => ⟨fun e => ?_, Nat.lt_of_lt_of_le q.2 hs⟩)
  rcases hk with hk | hk
  · exact q.1 (hk ▸ e)
  · rw [hk] at e
    have := Option.some.inj e
    have := q.2
    omega
/-- a row in new blocks -/
theorem rowRep.fresh {w : World} {A : Option Addr} {L C M : Nat} {vs : RowV} (h : RowAt w (.slice A L C) vs) (hf : ∀ x, A = some x → M ≤ x.block) : rowRep.rep w (.slice A L C) vs (fun b => M ≤ b) := ⟨h, fun A' L' C' e => by cases e; exact .inr hf⟩
end Go.Proofs.YtbfihajgjbpmaaaGreat
/- Stage 11: the document's own Rows: rows that are built column by column, each in a block of its own. -/
namespace Go.Proofs.YtbfihajgjbpmaaaGreat
open Go.ChangeShapes Go.WideShapes Go.ChangeAt Go.RowKit
set_option linter.unusedVariables false
set_option maxRecDepth 4000

/-- the i-th header's block -/
abbrev obk (ps : List P9) (i : Nat) : Option Nat := (sV (ps.getD i p9).1).ownBlock
/-- rows that are the call's own, each in a block of its own, in a slice of the call's own -/
structure ROw (w : World) (M : Nat) (o : Value) (ps : List P9) : Prop where
  out : OS 1 w M o ps.length (pc ps)
  row : ∀ i, i < ps.length → OS 2 w M (sV (ps.getD i p9).1) (ps.getD i p9).1.2.1 (vcells (ps.getD i p9).2)
  own : ∀ i, i < ps.length → ∃ g, obk ps i = some g
  dis : ∀ i j, i < ps.length → j < ps.length → i ≠ j → obk ps i ≠ obk ps j
  off : ∀ i, i < ps.length → o.ownBlock ≠ obk ps i
theorem ROw.below {w w' : World} {M : Nat} {o : Value} {ps : List P9} (h : ROw w M o ps) (hb : Below w.heap.size w w') : ROw w' M o ps :=
  ⟨h.out.below hb, fun i hi => (h.row i hi).below hb, h.own, h.dis, h.off⟩
theorem ROw.alloc {w : World} {M : Nat} {o : Value} {ps : List P9} (h : ROw w M o ps) (ob : Obj) : ROw (w.alloc ob) M o ps := h.below (Joins.below_alloc1 w ob)
theorem ROw.low {w : World} {M : Nat} {o : Value} {ps : List P9} (h : ROw w M o ps) {i : Nat} (hi : i < ps.length) {g : Nat} (hg : obk ps i = some g) : M ≤ g ∧ g < w.heap.size := (h.row i hi).ownLow hg
theorem getD_snoc {ps : List P9} {q : P9} {i : Nat} (hi : i < ps.length) : (ps ++ [q]).getD i p9 = ps.getD i p9 := by
  rw [List.getD_eq_getElem?_getD, List.getElem?_append_left hi, ← List.getD_eq_getElem?_getD]
theorem getD_last {ps : List P9} {q : P9} : (ps ++ [q]).getD ps.length p9 = q := by simp [List.getD]
theorem getD_set_self {ps : List P9} {q : P9} {i : Nat} (hi : i < ps.length) : (ps.set i q).getD i p9 = q := by
  rw [List.getD_eq_getElem?_getD, List.getElem?_set_self hi, Option.getD_some]
theorem getD_set_ne {ps : List P9} {q : P9} {i j : Nat} (h : i ≠ j) : (ps.set i q).getD j p9 = ps.getD j p9 := by
  rw [List.getD_eq_getElem?_getD, List.getElem?_set_ne h, ← List.getD_eq_getElem?_getD]
theorem pcset5 {ps : List P9} {i : Nat} (q : P9) : (pc ps).set i (sV q.1) = pc (ps.set i q) := by unfold pc; rw [List.map_set]
/-- one row more, behind an append -/
theorem ROw.snoc {w w' : World} {M : Nat} {o o' : Value} {ps : List P9} {q : P9} (h : ROw w M o ps) (hq : OS 2 w M (sV q.1) q.1.2.1 (vcells q.2)) {gq : Nat} (hg : (sV q.1).ownBlock = some gq) (hn : ∀ i, i < ps.length → obk ps i ≠ some gq) (hoq : o.ownBlock ≠ some gq)
    (ho : OS 1 w' M o' (ps.length + 1) (pc ps ++ [sV q.1])) (hk : o'.ownBlock = o.ownBlock ∨ o'.ownBlock = some w.heap.size) (hs : ∀ b, b < w.heap.size → o.ownBlock ≠ some b → w'.heap[b]? = w.heap[b]?) : ROw w' M o' (ps ++ [q]) := by
  have off' : ∀ g, g < w.heap.size → o.ownBlock ≠ some g → o'.ownBlock ≠ some g := fun g hl hne e => by
    rcases hk with hk | hk
    · exact hne (hk ▸ e)
    · rw [hk] at e; have := Option.some.inj e; omega
  have hgl := (hq.ownLow hg).2
  have cases_ : ∀ i, i < (ps ++ [q]).length → (i < ps.length ∧ (ps ++ [q]).getD i p9 = ps.getD i p9) ∨ (i = ps.length ∧ (ps ++ [q]).getD i p9 = q) := fun i hi => by
    rw [List.length_append, List.length_singleton] at hi
    by_cases hl : i < ps.length
    · exact .inl ⟨hl, getD_snoc hl⟩
    · obtain rfl : i = ps.length := by omega
      exact .inr ⟨rfl, getD_last⟩
  refine ⟨by rw [List.length_append, pc_app]; exact ho, fun i hi => ?_, fun i hi => ?_, fun i j hi hj hij => ?_, fun i hi => ?_⟩
  · rcases cases_ i hi with ⟨hl, e⟩ | ⟨rfl, e⟩
    · rw [e]
      exact (h.row i hl).same (fun g hg' hlt => hs g hlt (fun e2 => h.off i hl (by rw [e2]; exact hg'.symm)))
    · rw [e]
      exact hq.same (fun g hg' hlt => hs g hlt (fun e2 => hoq (by rw [hg] at hg'; rw [e2]; exact hg'.symm)))
  · rcases cases_ i hi with ⟨hl, e⟩ | ⟨rfl, e⟩
    · unfold obk; rw [e]; exact h.own i hl
    · unfold obk; rw [e]; exact ⟨gq, hg⟩
  · unfold obk
    rcases cases_ i hi with ⟨hl, e⟩ | ⟨rfl, e⟩ <;> rcases cases_ j hj with ⟨hl2, e2⟩ | ⟨h2, e2⟩
    · rw [e, e2]; exact h.dis i j hl hl2 hij
    · rw [e, e2, hg]; exact hn i hl
    · rw [e, e2, hg]; exact fun e3 => hn j hl2 e3.symm
    · omega
  · unfold obk
    rcases cases_ i hi with ⟨hl, e⟩ | ⟨rfl, e⟩
    · rw [e]
      obtain ⟨g, hg'⟩ := h.own i hl
      have hl2 := (h.low hl hg').2
      have hg2 : (sV (ps.getD i p9).1).ownBlock = some g := hg'
      rw [hg2]
      exact off' g hl2 (fun e2 => h.off i hl (by rw [e2]; exact hg'.symm))
    · rw [e, hg]
      exact off' gq hgl hoq
/-- a row that was appended to, and put back -/
theorem ROw.put {w w' : World} {M i : Nat} {o v' : Value} {ps : List P9} {q : P9} (h : ROw w M o ps) (hi : i < ps.length) (hv : v' = sV q.1)
    (hq : OS 2 w' M v' q.1.2.1 (vcells q.2)) (hqn : 1 ≤ q.1.2.1) (hk : v'.ownBlock = obk ps i ∨ v'.ownBlock = some w.heap.size) (hs : ∀ b, b < w.heap.size → obk ps i ≠ some b → w'.heap[b]? = w.heap[b]?)
    {g : Nat} (hg : o.ownBlock = some g) (ho : OS 1 (w'.setCell ⟨g, i, none⟩ v') M o ps.length ((pc ps).set i v')) : ROw (w'.setCell ⟨g, i, none⟩ v') M o (ps.set i q) := by
  subst hv
  have hgl := (h.out.ownLow hg).2
  have hqo : ∃ gq, (sV q.1).ownBlock = some gq := by
    obtain ⟨g2, cap, e, -⟩ := hq.own hqn
    rw [e]; exact ⟨g2, rfl⟩
  obtain ⟨gq, hgq⟩ := hqo
  have keep : ∀ b, b < w.heap.size → obk ps i ≠ some b → b ≠ g → (w'.setCell ⟨g, i, none⟩ (sV q.1)).heap[b]? = w.heap[b]? := fun b hb h1 h2 => (Below.heap_setCell _ _ _ _ h2).trans (hs b hb h1)
  have hqg : gq ≠ g := by
    rintro rfl
    rcases hk with hk | hk
    · exact h.off i hi (by rw [hg, ← hk, hgq])
    · rw [hgq] at hk; have := Option.some.inj hk; omega
  refine ⟨by rw [List.length_set, ← pcset5]; exact ho, fun j hj => ?_, fun j hj => ?_, fun j k hj hk' hjk => ?_, fun j hj => ?_⟩
  · rw [List.length_set] at hj
    by_cases e : i = j
    · subst e
      rw [getD_set_self hi]
      exact hq.same (fun b hb hlt => Below.heap_setCell _ _ _ _ (show b ≠ g from by rw [hgq] at hb; have := Option.some.inj hb; omega))
    · rw [getD_set_ne e]
      refine (h.row j hj).same (fun b hb hlt => keep b hlt (fun e2 => h.dis i j hi hj e (by rw [e2]; exact hb.symm)) (fun e2 => h.off j hj (by rw [hg, ← e2]; exact hb.symm)))
  · rw [List.length_set] at hj
    unfold obk
    by_cases e : i = j
    · subst e; rw [getD_set_self hi]; exact ⟨gq, hgq⟩
    · rw [getD_set_ne e]; exact h.own j hj
  · rw [List.length_set] at hj hk'
    have nw : ∀ j, j < ps.length → i ≠ j → obk ps j ≠ some gq := fun j hj hij e => by
      rcases hk with hk | hk
      · rw [hgq] at hk; exact h.dis i j hi hj hij (by rw [← hk]; exact e.symm)
      · rw [hgq] at hk; have h1 := Option.some.inj hk; have := (h.low hj e).2; omega
    unfold obk
    by_cases e : i = j
    · subst e
      rw [getD_set_self hi, getD_set_ne hjk, hgq]
      exact fun e2 => nw k hk' hjk e2.symm
    · rw [getD_set_ne e]
      by_cases e2 : i = k
      · subst e2
        rw [getD_set_self hi, hgq]
        exact nw j hj e
      · rw [getD_set_ne e2]
        exact h.dis j k hj hk' hjk
  · rw [List.length_set] at hj
    unfold obk
    by_cases e : i = j
    · subst e
      rw [getD_set_self hi, hg, hgq]
      exact fun e2 => hqg (Option.some.inj e2).symm
    · rw [getD_set_ne e]; exact h.off j hj
/-- a row of so many columns -/
def rowK (cols : List RowV) (k i : Nat) : RowV := (cols.take k).map fun c => c.getD i v0
theorem rowK_next {cols : List RowV} {k : Nat} (h : k < cols.length) (i : Nat) : rowK cols (k + 1) i = rowK cols k i ++ [(cols.getD k []).getD i v0] := by
  unfold rowK
  rw [List.take_succ_eq_append_getElem h, List.map_append]
  simp [List.getD, h]
theorem rowK_len {cols : List RowV} {k : Nat} (h : k ≤ cols.length) (i : Nat) : (rowK cols k i).length = k := by unfold rowK; rw [List.length_map, List.length_take]; omega
/-- what the rows hold: the first x of them k + 1 columns, the others k -/
def RowsK (cols : List RowV) (n k x : Nat) (ps : List P9) : Prop := ps.length = n ∧ ∀ i, i < n → (ps.getD i p9).2 = rowK cols (if i < x then k + 1 else k) i
theorem RowsK.put {cols : List RowV} {n k x : Nat} {ps : List P9} {q : P9} (h : RowsK cols n k x ps) (hx : x < n) (hq : q.2 = rowK cols (k + 1) x) : RowsK cols n k (x + 1) (ps.set x q) := by
  obtain ⟨h1, h2⟩ := h
  refine ⟨by rw [List.length_set]; exact h1, fun i hi => ?_⟩
  by_cases e : x = i
  · subst e
    rw [getD_set_self (by omega), if_pos (by omega)]; exact hq
  · rw [getD_set_ne e, h2 i hi]
    by_cases hl : i < x
    · rw [if_pos hl, if_pos (by omega)]
    · rw [if_neg hl, if_neg (by omega)]
theorem RowsK.next {cols : List RowV} {n k : Nat} {ps : List P9} (h : RowsK cols n k n ps) : RowsK cols n (k + 1) 0 ps := ⟨h.1, fun i hi => by rw [h.2 i hi, if_pos hi, if_neg (by omega)]⟩
theorem RowsK.all {cols : List RowV} {n : Nat} {ps : List P9} (h : RowsK cols n cols.length 0 ps) : ps.map (·.2) = rowsC cols n := by
  apply List.ext_getElem
  · rw [List.length_map, h.1]; simp [rowsC]
  · intro i h1 h2
    rw [List.length_map] at h1
    have e := h.2 i (by have := h.1; omega)
    rw [if_neg (by omega)] at e
    have e2 : ps.getD i p9 = ps[i] := by simp [List.getD, h1]
    rw [e2] at e
    rw [List.getElem_map, e]
    simp [rowsC, rowK, List.take_length]
set_option maxHeartbeats 4000000 in
theorem rarows_any (R : Option Addr) (n c : Nat) (cols : List RowV) (w : World) (hr : RVs w R n cols) (hn : n ≤ 1000) (hm : (cols.getD 0 []).length ≤ 100000) :
    Calls Tryz.prog 77 #[.slice R n c] w fun e w' => RowsF w w' cols e := by
  have hl := Lib.hid hr.1
  by_cases h0 : n = 0
  · subst h0
    have hcn : ¬ OkC cols := fun h => h.1 (List.eq_nil_of_length_eq_zero hl.out)
    go_enter Tryz.func77, Tryz.ntmps77
    go_wp2_with fail
    go_ret2
    exact ⟨.inr ⟨hcn, rfl⟩, Below.refl _ _⟩
  · obtain ⟨b0, off0, A0, L0, C0, e0, hc0, hL0, hw0⟩ := hr.at 0 (by omega)
    have hlen0 := WV.len hw0
    rw [Nat.add_zero] at hc0
    have hn0' : ((n : Int) == 0) = false := by rw [beq_eq_false_iff_ne]; omega
    have HL0 := Lib.hid hlen0
    rw [hlen0] at hm
    clear hw0 hlen0
    have hb0 := Joins.below_alloc1 w (.cells #[] 46)
    have ro0 : ROw (w.alloc (.cells #[] 46)) w.heap.size (.slice (some ⟨w.heap.size, 0, none⟩) 0 0) [] := ⟨OS.lit (k := 1) w w.heap.size (Nat.le_refl _) [] 0 46 rfl (by simp) (by simp) _ rfl, (fun i hi => by simp at hi), (fun i hi => by simp at hi), (fun i j hi => by simp at hi), (fun i hi => by simp at hi)⟩
    go_enter Tryz.func77, Tryz.ntmps77
    go_wp2_with fail
    go_loopw [4, 5] (fun o i wr => ∃ (x : Nat) (ps : List P9), x ≤ L0 ∧ i = .int .i64 (x : Int) ∧ ps.length = x ∧ Hid (∀ p ∈ ps, p.2 = []) ∧ ROw wr w.heap.size o ps ∧ Below w.heap.size w wr) (fun _ i _ => L0 - (intOf i).toNat)
    case atStart => exact ⟨0, [], by omega, rfl, rfl, Lib.hid (fun p hp => by cases hp), ro0, hb0⟩
    case round =>
      clear ro0 hb0
      obtain ⟨x, ps, hx, rfl, hpl, HP, ro, hb⟩ := hrel
      subst e0
      have hc1 := keepc hc0 hb
      have hn00 : 0 < n := by omega
      by_cases hlx : x < L0
      · have hxi : (x : Int) < (L0 : Int) := by omega
        have ro2 := (ro.alloc (.cells #[] 62)).alloc (.cells #[.slice (some ⟨wr.heap.size, 0, none⟩) 0 0] 46)
        have hq : OS 2 ((wr.alloc (.cells #[] 62)).alloc (.cells #[.slice (some ⟨wr.heap.size, 0, none⟩) 0 0] 46)) w.heap.size (.slice (some ⟨wr.heap.size, 0, none⟩) 0 0) 0 (vcells []) := (OS.lit (k := 2) wr w.heap.size hb.size [] 0 62 rfl (by simp) (by simp) wr.heap.size rfl).alloc _
        have hsv : SV 1 ((wr.alloc (.cells #[] 62)).alloc (.cells #[.slice (some ⟨wr.heap.size, 0, none⟩) 0 0] 46)) (some ⟨wr.heap.size + 1, 0, none⟩) 1 [.slice (some ⟨wr.heap.size, 0, none⟩) 0 0] := SV.lit' (k := 1) (wr.alloc (.cells #[] 62)) [.slice (some ⟨wr.heap.size, 0, none⟩) 0 0] 1 46 rfl (by simp [Value.oneCell']) _ (by simp)
        have hb2 : Below w.heap.size w ((wr.alloc (.cells #[] 62)).alloc (.cells #[.slice (some ⟨wr.heap.size, 0, none⟩) 0 0] 46)) := (hb.alloc hb.size (.cells #[] 62)).alloc (by have := hb.size; rw [heap_alloc]; omega) (.cells #[.slice (some ⟨wr.heap.size, 0, none⟩) 0 0] 46)
        have ho2 := ro2.out
        rw [hpl] at ho2
        go_wp2_with (at_builtin; refine append_os2 el_rows rfl (.tmp 20) (.tmp 22) rfl w.heap.size _ x _ rfl ho2 _ 1 1 [.slice (some ⟨wr.heap.size, 0, none⟩) 0 0] rfl hsv (by omega) (by omega) hb2.size ?_; intro v3 w3 ho3 hb3 hk3 hst3)
        have ro3 := ro2.snoc (q := ((some ⟨wr.heap.size, 0, none⟩, 0, 0), [])) (gq := wr.heap.size) hq rfl (fun i hi e => by have := (ro.low hi e).2; omega) (fun e => by have := (ro.out.ownLow e).2; omega) (by rw [hpl]; exact ho3) hk3 hst3
        have hb4 := hb2.trans hb3
        have hpl3 : (ps ++ [(((some ⟨wr.heap.size, 0, none⟩, 0, 0), []) : P9)]).length = x + 1 := by rw [List.length_append, hpl]; rfl
        have HP3 : Hid (∀ p ∈ ps ++ [(((some ⟨wr.heap.size, 0, none⟩, 0, 0), []) : P9)], p.2 = []) := Lib.hid (fun p hp => (List.mem_append.1 hp).elim (HP.out p) (fun h => by rw [List.mem_singleton.1 h]))
        clear ro ro2 hq hsv hb2 ho2 ho3 hk3 hst3 hb hb3
        go_roundw
        case rel => exact ⟨x + 1, _, by omega, by go_num, hpl3, HP3, ro3, hb4⟩
        case measure => simp [intOf]; omega
      · have hxi : ¬ (x : Int) < (L0 : Int) := by omega
        obtain rfl : L0 = x := by omega
        have HK : Hid (RowsK cols L0 0 0 ps) := Lib.hid ⟨hpl, fun i hi => by
          have hi' : i < ps.length := by omega
          have e : ps.getD i p9 = ps[i] := by simp [List.getD, hi']
          rw [e, HP.out _ (List.getElem_mem _), if_neg (by omega)]
          unfold rowK; simp⟩
        clear HP
        obtain ⟨a4, c4, rfl⟩ := ro.out.shape
        rw [hpl] at ro ⊢
        go_wp2_with fail
        go_loopw [6] (fun i wr => ∃ (k : Nat) (ps : List P9), k ≤ n ∧ i = .int .i64 (k : Int) ∧ Hid (RowsK cols L0 k 0 ps) ∧ ROw wr w.heap.size (.slice a4 L0 c4) ps ∧ Hid (∀ j, j < k → (cols.getD j []).length = L0) ∧ Below w.heap.size w wr) (fun i _ => n - (intOf i).toNat)
        case atStart => exact ⟨0, ps, by omega, rfl, HK, ro, Lib.hid (fun j hj => by omega), hb⟩
        case round =>
          clear ro HK hb hpl hc1
          obtain ⟨k, ps, hk, rfl, HK, ro, HC, hb⟩ := hrel
          by_cases hlk : k < n
          · have hki : (k : Int) < (n : Int) := by omega
            obtain ⟨b1, off1, A1, L1, C1, e1, hc1, hL1, hw1⟩ := hr.at k hlk
            cases e1
            have hlen1 := WV.len hw1
            have hc1 := keepc hc1 hb
            by_cases hne : L1 = L0
            · subst hne
              have hHC : Hid (∀ j, j < k + 1 → (cols.getD j []).length = L1) := Lib.hid (fun j hj => by
                by_cases hjk : j < k
                · exact HC.out j hjk
                · obtain rfl : j = k := by omega
                  exact hlen1)
              clear HC hlen1
              go_wp2_with fail
              go_loopw [7] (fun i wr => ∃ (x : Nat) (ps : List P9), x ≤ L1 ∧ i = .int .i64 (x : Int) ∧ Hid (RowsK cols L1 k x ps) ∧ ROw wr w.heap.size (.slice a4 L1 c4) ps ∧ Below w.heap.size w wr) (fun i _ => L1 - (intOf i).toNat)
              case atStart => exact ⟨0, ps, by omega, rfl, HK, ro, hb⟩
              case round =>
                clear ro HK hb hc1
                obtain ⟨x, ps, hx, rfl, HK, ro, hb⟩ := hrel
                have hpl : ps.length = L1 := HK.out.1
                by_cases hlx : x < L1
                · have hxi : (x : Int) < (L1 : Int) := by omega
                  have hc2 := keepc hc1 hb
                  obtain ⟨bv, offv, rfl, hv0, hv1⟩ := hw1.at x hlx
                  have hv0 := keepc hv0 hb
                  have hv1 := keepc hv1 hb
                  have hroi := ro.row x (by omega)
                  obtain ⟨gr, hgr⟩ := ro.own x (by omega)
                  obtain ⟨g, cap, eo, hgM, -, -, hcell, hfree, hset⟩ := ro.out.own (by omega)
                  cases eo
                  have hck := hcell x _ (pc_at (show x < ps.length by omega))
                  have hfk := hfree x
                  obtain ⟨⟨⟨A3, L3, C3⟩, rk⟩, hqk⟩ : ∃ q, ps.getD x p9 = q := ⟨_, rfl⟩
                  have hrk : rk = rowK cols k x := by
                    have e := HK.out.2 x hlx
                    rw [hqk, if_neg (by omega)] at e
                    exact e
                  have hrow9 : obk ps x = (Value.slice A3 L3 C3).ownBlock := by unfold obk; rw [hqk]
                  rw [hqk] at hck hroi
                  have hck : wr.cell? ⟨g, x, none⟩ = some (.slice A3 L3 C3) := hck
                  have hL3 : k = L3 := by
                    have h1 := hroi.1
                    have h2 := rowK_len (cols := cols) (k := k) (by rw [hl.out]; exact hk) x
                    rw [vcells_len, hrk, h2] at h1
                    have h3 : k * 2 = L3 * 2 := h1
                    omega
                  subst hL3
                  have HNX := Lib.hid (rowK_next (cols := cols) (k := k) (by rw [hl.out]; exact hlk) x)
                  obtain ⟨y, hy⟩ : ∃ y, (cols.getD k []).getD x v0 = y := ⟨_, rfl⟩
                  rw [hy] at hv0 hv1 HNX
                  have HRK := Lib.hid hrk
                  have hbA : Below wr.heap.size wr (wr.alloc (.cells #[.int .i64 y.1, .string y.2] 62)).drew := (Joins.below_alloc1 wr (.cells #[.int .i64 y.1, .string y.2] 62)).drew
                  have hro2 := (show OS 2 wr w.heap.size (.slice A3 k C3) k (vcells rk) from hroi).below hbA
                  have hsv : SV 2 (wr.alloc (.cells #[.int .i64 y.1, .string y.2] 62)).drew (some ⟨wr.heap.size, 0, none⟩) 1 (vcells [y]) := SV.drew (SV.lit (k := 2) wr (vcells [y]) 1 62 rfl (vcells_one _))
                  have hb2 : Below w.heap.size w (wr.alloc (.cells #[.int .i64 y.1, .string y.2] 62)).drew := (hb.alloc hb.size _).drew
                  have roA := ro.below hbA
                  have hgL := (ro.out.ownLow (b := g) rfl).2
                  clear hcell hfree hset hroi hy hrk hqk
                  go_wp2_with fail
                  refine wp_region_noPanic ?_
                  refine region_g 14 (Ext (World.drew _)) (by kernel_rfl) (Ext.refl _) (fun hS => ?_)
                  refine take_w (i := 0) (v := ?_) (some 44) rfl (by kernel_rfl) rfl (fun _ _ _ h => h) (Or.inl ⟨by rfl, ?_⟩) hS ?_
                  rotate_left
                  · (intro wq hq; go_simp); first | done | with_reducible rfl
                  try simp only [Act.put, List.setIfInBounds_toArray, List.set_cons_zero, List.set_cons_succ]
                  replace hS := Till.list 0 hS
                  refine take_w (i := 1) (v := ?_) (some 45) rfl (by kernel_rfl) rfl (fun _ _ _ h => h) (Or.inl ⟨by rfl, ?_⟩) hS ?_
                  rotate_left
                  · (intro wq hq; go_simp); first | done | with_reducible rfl
                  try simp only [Act.put, List.setIfInBounds_toArray, List.set_cons_zero, List.set_cons_succ]
                  replace hS := Till.list 1 hS
                  refine take_w (i := 2) (v := ?_) (some 46) rfl (by kernel_rfl) rfl (fun _ _ _ h => h) (Or.inl ⟨by rfl, ?_⟩) hS ?_
                  rotate_left
                  · (intro wq hq; go_simp); first | done | with_reducible rfl
                  try simp only [Act.put, List.setIfInBounds_toArray, List.set_cons_zero, List.set_cons_succ]
                  replace hS := Till.list 2 hS
                  refine take_w (i := 3) (v := ?_) (some 47) rfl (by kernel_rfl) rfl (fun _ _ _ h => h) (Or.inl ⟨by rfl, ?_⟩) hS ?_
                  rotate_left
                  · (intro wq hq; go_simp); first | done | with_reducible rfl
                  try simp only [Act.put, List.setIfInBounds_toArray, List.set_cons_zero, List.set_cons_succ]
                  replace hS := Till.list 3 hS
                  refine take_w (i := 6) (v := ?_) (some 50) rfl (by kernel_rfl) rfl (fun _ _ _ h => h) (Or.inl ⟨by rfl, ?_⟩) hS ?_
                  rotate_left
                  · (intro wq hq; go_simp); first | done | with_reducible rfl
                  try simp only [Act.put, List.setIfInBounds_toArray, List.set_cons_zero, List.set_cons_succ]
                  replace hS := Till.list 6 hS
                  refine take_w (i := 7) (v := ?_) (some 51) rfl (by kernel_rfl) rfl (fun _ _ _ h => h) (Or.inl ⟨by rfl, ?_⟩) hS ?_
                  rotate_left
                  · (intro wq hq; go_simp); first | done | with_reducible rfl
                  try simp only [Act.put, List.setIfInBounds_toArray, List.set_cons_zero, List.set_cons_succ]
                  replace hS := Till.list 7 hS
                  refine take_w (i := 10) (v := ?_) (some 54) rfl (by kernel_rfl) rfl (fun _ _ _ h => h) (Or.inl ⟨by rfl, ?_⟩) hS ?_
                  rotate_left
                  · (intro wq hq; go_simp); first | done | with_reducible rfl
                  try simp only [Act.put, List.setIfInBounds_toArray, List.set_cons_zero, List.set_cons_succ]
                  replace hS := Till.list 10 hS
                  refine take_w (i := 4) (v := ?_) (some 48) rfl (by kernel_rfl) rfl (fun _ _ _ h => h) (Or.inl ⟨by rfl, ?_⟩) hS ?_
                  rotate_left
                  · (intro wq hq; go_simp); first | done | with_reducible rfl
                  try simp only [Act.put, List.setIfInBounds_toArray, List.set_cons_zero, List.set_cons_succ]
                  replace hS := Till.list 4 hS
                  refine take_w (i := 8) (v := ?_) (some 52) rfl (by kernel_rfl) rfl (fun _ _ _ h => h) (Or.inl ⟨by rfl, ?_⟩) hS ?_
                  rotate_left
                  · (intro wq hq; go_simp); first | done | with_reducible rfl
                  try simp only [Act.put, List.setIfInBounds_toArray, List.set_cons_zero, List.set_cons_succ]
                  replace hS := Till.list 8 hS
                  refine take_g (i := 5) (v := ?_) [5] (some 49) rfl (by kernel_rfl) rfl (fun _ _ _ h => h) (Or.inl ⟨by rfl, ?_⟩) hS ?_
                  rotate_left
                  · (intro wq hq; have q0 := hq _ _ _ hc2; have q1 := hq _ _ _ hv0; have q2 := hq _ _ _ hv1; have q3 := hq _ _ _ hck; go_simp); first | done | with_reducible rfl
                  try simp only [Act.put, List.setIfInBounds_toArray, List.set_cons_zero, List.set_cons_succ]
                  replace hS := Till.list 5 hS
                  refine take_g (i := 9) (v := ?_) [13, 12, 11, 9] (some 53) rfl (by kernel_rfl) rfl (fun _ _ _ h => h) (Or.inl ⟨by rfl, ?_⟩) hS ?_
                  rotate_left
                  · (intro wq hq; have q0 := hq _ _ _ hc2; have q1 := hq _ _ _ hv0; have q2 := hq _ _ _ hv1; have q3 := hq _ _ _ hck; go_simp); first | done | with_reducible rfl
                  try simp only [Act.put, List.setIfInBounds_toArray, List.set_cons_zero, List.set_cons_succ]
                  replace hS := Till.list 9 hS
                  refine take_w (i := 11) (v := ?_) (some 55) rfl (by kernel_rfl) rfl (fun _ _ _ h => h) (Or.inl ⟨by rfl, ?_⟩) hS ?_
                  rotate_left
                  · (intro wq hq; go_simp); first | done | with_reducible rfl
                  try simp only [Act.put, List.setIfInBounds_toArray, List.set_cons_zero, List.set_cons_succ]
                  replace hS := Till.list 11 hS
                  refine take_g (i := 12) (v := ?_) [13, 12] (some 56) rfl (by kernel_rfl) rfl (fun _ _ _ h => h) (Or.inl ⟨by rfl, ?_⟩) hS ?_
                  rotate_left
                  · (intro wq hq; have q0 := hq _ _ _ hc2; have q1 := hq _ _ _ hv0; have q2 := hq _ _ _ hv1; have q3 := hq _ _ _ hck; go_simp); first | done | with_reducible rfl
                  try simp only [Act.put, List.setIfInBounds_toArray, List.set_cons_zero, List.set_cons_succ]
                  replace hS := Till.list 12 hS
                  refine ready_g (rs := [13]) (by kernel_rfl) (by simp) ?_
                  refine AllReadyG.cons rfl (fun Kont hK => ?_) AllReadyG.nil
                  go_simp
                  refine hK.out _ _ (Or.inr ((hS.get (by kernel_rfl)).alloc _)) (fun hS0 => ?_)
                  clear hK Kont
                  try simp only [Act.put, List.setIfInBounds_toArray, List.set_cons_zero, List.set_cons_succ]
                  clear hS
                  have hS := hS0
                  clear hS0
                  refine ready_g (rs := [14]) (by kernel_rfl) (by simp) ?_
                  refine AllReadyG.cons rfl (fun Kont hK => ?_) AllReadyG.nil
                  refine want (by kernel_rfl) ?_
                  refine wp_append_os2 el_row (some 58) rfl (.tmp 49) (.tmp 57) rfl w.heap.size (.slice A3 k C3) k _ rfl hro2 (some ⟨wr.heap.size, 0, none⟩) 1 1 (vcells [y]) rfl hsv (by omega) (by omega) hb2.size ?_
                  intro v3 w3 ho3 hb3 hk3 hst3
                  have hkx : v3.ownBlock = obk ps x ∨ v3.ownBlock = some (wr.alloc (.cells #[.int .i64 y.1, .string y.2] 62)).drew.heap.size := by rw [hrow9]; exact hk3
                  have hstx : ∀ b, b < (wr.alloc (.cells #[.int .i64 y.1, .string y.2] 62)).drew.heap.size → obk ps x ≠ some b → w3.heap[b]? = (wr.alloc (.cells #[.int .i64 y.1, .string y.2] 62)).drew.heap[b]? := fun b hb hne => hst3 b hb (by rw [← hrow9]; exact hne)
                  have ro3 := roA.out.same (fun b hb hlt => hstx b hlt (by rw [← hb]; exact (roA.off x (by omega)).symm))
                  obtain ⟨g', cap', eo', -, -, -, hcell3, hfree3, hset3⟩ := ro3.own (by omega)
                  cases eo'
                  have hcs3 := hcell3 x _ (pc_at (show x < ps.length by omega))
                  have hfs3 := hfree3 x
                  obtain ⟨a3, c3, rfl⟩ := ho3.shape
                  have hset3 := hset3 x (.slice a3 (k + 1) c3) (by omega) rfl
                  clear hcell3 hfree3 ro3
                  have hro4 := roA.put (w' := w3) (q := ((a3, k + 1, c3), rk ++ [y])) (by omega) rfl (by rw [vcells_app]; exact ho3) (Nat.le_add_left 1 k) hkx hstx rfl hset3
                  have hb5 := (hb2.trans hb3).setCell (p := ⟨g, x, none⟩) hgM (.slice a3 (k + 1) c3)
                  refine hK.out _ _ (Or.inl (by kernel_rfl)) (fun hS0 => ?_)
                  clear hK Kont
                  try simp only [Act.put, List.setIfInBounds_toArray, List.set_cons_zero, List.set_cons_succ]
                  clear hS
                  have hS := hS0
                  clear hS0
                  refine take_w (i := 15) (v := ?_) (some 59) rfl (by kernel_rfl) rfl (fun _ _ _ h => h) (Or.inl ⟨by rfl, ?_⟩) hS ?_
                  rotate_left
                  · (intro wq hq; go_simp); first | done | with_reducible rfl
                  try simp only [Act.put, List.setIfInBounds_toArray, List.set_cons_zero, List.set_cons_succ]
                  replace hS := Till.list 15 hS
                  refine ready_g (rs := [16]) (by kernel_rfl) (by simp) ?_
                  refine AllReadyG.cons rfl (fun Kont hK => ?_) AllReadyG.nil
                  go_simp
                  refine hK.out _ _ (Or.inl (by kernel_rfl)) (fun hS0 => ?_)
                  clear hK Kont
                  try simp only [Act.put, List.setIfInBounds_toArray, List.set_cons_zero, List.set_cons_succ]
                  clear hS
                  have hS := hS0
                  clear hS0
                  refine done_g (by kernel_rfl) (NoPanic.normal ?_) _
                  clear hS
                  have HKN : Hid (RowsK cols ps.length k (x + 1) (ps.set x ((a3, k + 1, c3), rk ++ [y]))) := Lib.hid (HK.out.put (by omega) (by rw [HNX.out, HRK.out]))
                  clear HK ro roA hro2 hsv hkx hstx hk3 hst3 hset3 ho3 hb2 hb3 hbA
                  go_wp2_with fail
                  go_roundw
                  case rel => exact ⟨x + 1, _, by omega, by go_num, HKN, hro4, hb5⟩
                  case measure => simp [intOf]; omega
                · have hxi : ¬ (x : Int) < (L1 : Int) := by omega
                  obtain rfl : L1 = x := by omega
                  have HK2 := Lib.hid HK.out.next
                  clear HK
                  go_wp2_with fail
                  go_roundw
                  case rel => exact ⟨k + 1, ps, by omega, by go_num, HK2, ro, hHC, hb⟩
                  case measure => simp [intOf]; omega
            · have hnei : ¬ (L1 : Int) = (L0 : Int) := by omega
              have hbad : ¬ OkC cols := fun h => hne (by have := h.2 k (by rw [hl.out]; exact hlk); rw [hlen1, HL0.out] at this; exact this)
              clear HK ro HC hw1
              go_wp2_with fail
              go_ret2
              exact ⟨.inr ⟨hbad, rfl⟩, hb⟩
          · have hki : ¬ (k : Int) < (n : Int) := by omega
            obtain rfl : n = k := by omega
            have hok : OkC cols := ⟨fun e => by have := hl.out; rw [e] at this; simp at this; omega, fun x hx => by rw [HC.out x (by rw [← hl.out]; exact hx), HL0.out]⟩
            have hall : ps.map (·.2) = rowsC cols L0 := by
              have := HK.out
              rw [← hl.out] at this
              exact this.all
            have hpl : ps.length = L0 := HK.out.1
            have hac : a4 = none → c4 = 0 := fun e => by
              subst e
              rcases ro.out.2.2 with ⟨h6, _⟩ | ⟨g, cap, cur, T, h6, _⟩
              · cases h6; rfl
              · cases h6
            obtain ⟨a', c', e', h41, h42, sv4, hf4, -⟩ := ro.out.sv
            cases e'
            have hsl := slR_of (F := fun b => w.heap.size ≤ b) sv4 (fun p hp => by
              obtain ⟨i, hi, rfl⟩ := List.mem_iff_getElem.1 hp
              have e : ps.getD i p9 = ps[i] := by simp [List.getD, hi]
              have := rowRep.own (ro.row i hi)
              rwa [e] at this) hf4
            rw [hall] at hsl
            clear ro HK HC sv4 hall
            go_wp2_with fail
            go_ret2
            exact ⟨.inl ⟨hok, a4, c4, by rw [HL0.out]; rfl, by rw [HL0.out]; exact h41, h42, hac, by rw [HL0.out]; exact hsl⟩, hb⟩
end Go.Proofs.YtbfihajgjbpmaaaGreat
/- Stage 11, plain: how the document's own Read goes through the granules. -/
namespace Go.Proofs.YtbfihajgjbpmaaaGreat
set_option linter.unusedVariables false
set_option maxRecDepth 4000

/-- granules that lie from place B up to place E -/
def LieG (ts zs : List Int) (B E : Nat) (gs : List (List RowV)) (rest : List Int) : Prop := GsOk ts gs ∧ zs.drop B = frsL (gs.flatMap (granD ts)) ++ rest ∧ B + (frsL (gs.flatMap (granD ts))).length = E
/-- what is known of the rows read so far, up to place x -/
def RdI (ts zs : List Int) (B E : Nat) (acc : List RowV) (x : Nat) : Prop := ∀ gs rest, LieG ts zs B E gs rest → ∃ g1 g2, gs = g1 ++ g2 ∧ acc = g1.flatten ∧ zs.drop x = frsL (g2.flatMap (granD ts)) ++ rest ∧ x + (frsL (g2.flatMap (granD ts))).length = E
/-- no granules lie there -/
def NoRd (ts zs : List Int) (B E : Nat) : Prop := ∀ gs rest, ¬ LieG ts zs B E gs rest
theorem RdI.zero (ts zs : List Int) (B E : Nat) : RdI ts zs B E [] B := fun gs rest h => ⟨[], gs, rfl, rfl, h.2.1, h.2.2⟩
theorem RdI.at {ts zs : List Int} {B E x : Nat} {acc : List RowV} (h : RdI ts zs B E acc x) (hx : x < E) {gs : List (List RowV)} {rest : List Int} (hg : LieG ts zs B E gs rest) :
    ∃ g1 g g2, gs = g1 ++ g :: g2 ∧ acc = g1.flatten ∧ zs.drop x = frsL (granD ts g) ++ (frsL (g2.flatMap (granD ts)) ++ rest) ∧ RowsOk ts g ∧ g.length ≤ 2000 ∧ acc.length + g.length ≤ 2000 ∧ x + ((frsL (granD ts g)).length + (frsL (g2.flatMap (granD ts))).length) = E := by
  obtain ⟨g1, g2, e1, e2, e3, e4⟩ := h gs rest hg
  cases g2 with
  | nil => simp [frsL] at e4; omega
  | cons g g2 =>
    have hin := hg.1.1 g (by rw [e1]; simp)
    rw [List.flatMap_cons, frsL_app] at e3 e4
    rw [List.length_append] at e4
    refine ⟨g1, g, g2, e1, e2, by rw [e3, List.append_assoc], hin.1, hin.2, ?_, e4⟩
    have := hg.1.2
    rw [e1, List.flatten_append, List.flatten_cons, List.length_append, List.length_append, ← e2] at this
    omega
theorem RdI.next {ts zs : List Int} {B E x s : Nat} {acc g : List RowV} (h : RdI ts zs B E acc x) (hx : x < E) (ho : OneG ts (zs.drop x) g s) : RdI ts zs B E (acc ++ g) (x + s) := fun gs rest hg => by
  obtain ⟨g1, g', g2, e1, e2, e3, h1, h2, -, h4⟩ := h.at hx hg
  obtain ⟨rfl, q2⟩ := ho g' _ h1 h2 e3
  refine ⟨g1 ++ [g'], g2, by rw [e1]; simp, by rw [e2]; simp, ?_, by omega⟩
  rw [← List.drop_drop, e3, drop_app q2]
theorem RdI.none {ts zs : List Int} {B E x : Nat} {acc : List RowV} (h : RdI ts zs B E acc x) (hx : x < E) (hn : NoG ts (zs.drop x)) : NoRd ts zs B E := fun gs rest hg => by
  obtain ⟨g1, g', g2, -, -, e3, h1, h2, -, -⟩ := h.at hx hg
  exact hn g' _ h1 h2 e3
theorem RdI.many {ts zs : List Int} {B E x s : Nat} {acc g : List RowV} (h : RdI ts zs B E acc x) (hx : x < E) (ho : OneG ts (zs.drop x) g s) (hm : 2000 < acc.length + g.length) : NoRd ts zs B E := fun gs rest hg => by
  obtain ⟨g1, g', g2, -, -, e3, h1, h2, h3, -⟩ := h.at hx hg
  obtain ⟨rfl, -⟩ := ho g' _ h1 h2 e3
  omega
theorem RdI.end_ {ts zs : List Int} {B E x : Nat} {acc : List RowV} (h : RdI ts zs B E acc x) (hx : E ≤ x) (hT : 1 ≤ ts.length) : ∀ gs rest, LieG ts zs B E gs rest → gs.flatten = acc := fun gs rest hg => by
  obtain ⟨g1, g2, e1, e2, -, e4⟩ := h gs rest hg
  cases g2 with
  | nil => rw [e1, e2, List.append_nil]
  | cons g g2 =>
    rw [List.flatMap_cons, frsL_app, List.length_append] at e4
    have : 1 ≤ (frsL (granD ts g)).length := by
      cases hd : granD ts g with
      | nil => have := granD_len ts g; rw [hd] at this; simp at this; omega
      | cons d ds => rw [frsL, List.length_append]; have := frame_eight d; omega
    omega
/-- where the granules of a part lie -/
theorem lie_of {zs ts : List Int} {k m g : Int} {B n E : Nat} (hk : checkB ts k m g = true) (hn : zs.length = n) (hu : unf zs = (putS ts k m g, (B : Int), 0)) (hE : acc8 (zs.drop (n - 8)) 8 = (E : Int)) {ts' : List Int} {K' : Nat} {m' : Int} {G' : Nat} {l' : List RowV} (hp : PartOk ts' K' m' G' l') (e : partL ts' K' m' G' l' = zs) :
    (ts' = ts ∧ (K' : Int) = k ∧ m' = m ∧ (G' : Int) = g) ∧ E + 13 ≤ n ∧ ∃ rest, LieG ts zs B E (splitL G' l') rest := by
  subst e
  have hu2 := part_unf hp
  rw [hu2] at hu
  have hS : putS ts' (K' : Int) m' (G' : Int) = putS ts k m g := congrArg (fun z : List Int × Int × Int => z.1) hu
  have hB : B = (frameL (putS ts' (K' : Int) m' (G' : Int))).length := by have := congrArg (fun z : List Int × Int × Int => z.2.1) hu; simp only at this; omega
  obtain ⟨rfl, e2, e3, e4⟩ := putS_inj hp.check hk hS
  obtain ⟨q1, q2, q3⟩ := part_end hp hn hB
  obtain ⟨h1, h2, h3⟩ := part_lie hp hB
  rw [q1] at q3
  rw [q3] at hE
  rw [hn] at h2
  obtain rfl : fromN ts' K' m' G' l' = E := by omega
  refine ⟨⟨rfl, e2, e3, e4⟩, h2, ((partL ts' K' m' G' l').drop B).drop (fromN ts' K' m' G' l' - B), gs_split hp, ?_, ?_⟩
  · show _ = frsL (bodyD ts' G' l') ++ _
    rw [← h3, List.take_append_drop]
  · show B + (frsL (bodyD ts' G' l')).length = _
    rw [← h3, List.length_take, List.length_drop, hn]
    omega
theorem isp_rd {zs ts : List Int} {k m g : Int} {B n E : Nat} {l : List RowV} (hk : checkB ts k m g = true) (hn : zs.length = n) (hu : unf zs = (putS ts k m g, (B : Int), 0)) (hE : acc8 (zs.drop (n - 8)) 8 = (E : Int)) (h : ∀ gs rest, LieG ts zs B E gs rest → gs.flatten = l) : IsP zs ts k m g l := fun ts' K' m' G' l' hp e => by
  obtain ⟨⟨rfl, e1, e2, e3⟩, -, rest, q⟩ := lie_of hk hn hu hE hp e
  refine ⟨rfl, e1, e2, e3, ?_⟩
  have := h _ _ q
  rwa [split_flat hp.nums.2.2.1.1] at this
theorem nop_rd {zs ts : List Int} {k m g : Int} {B n E : Nat} (hk : checkB ts k m g = true) (hn : zs.length = n) (hu : unf zs = (putS ts k m g, (B : Int), 0)) (hE : acc8 (zs.drop (n - 8)) 8 = (E : Int)) (h : NoRd ts zs B E) : NoP zs := fun ts' K' m' G' l' hp e => by
  obtain ⟨-, -, rest, q⟩ := lie_of hk hn hu hE hp e
  exact h _ _ q
theorem nop_far {zs ts : List Int} {k m g : Int} {B n E : Nat} (hk : checkB ts k m g = true) (hn : zs.length = n) (hu : unf zs = (putS ts k m g, (B : Int), 0)) (hE : acc8 (zs.drop (n - 8)) 8 = (E : Int)) (h : n < E) : NoP zs := fun ts' K' m' G' l' hp e => by
  obtain ⟨-, q, -⟩ := lie_of hk hn hu hE hp e
  omega
theorem nop_few {zs : List Int} (h : zs.length < 8) : NoP zs := fun ts K m G l hp e => by
  have := part_long ts K m G l
  rw [e] at this
  omega
end Go.Proofs.YtbfihajgjbpmaaaGreat
/- Stage 11: the document's own blocks: a block of each type. -/
namespace Go.Proofs.YtbfihajgjbpmaaaGreat
open Go.ChangeShapes Go.WideShapes Go.ChangeAt Go.RowKit
set_option linter.unusedVariables false
set_option maxRecDepth 4000

theorem el_vlss : El 111 45 1 24 (.slice none 0 0) := ⟨Tryz.underlying111, by kernel_rfl, rfl, by omega⟩
/-- what blocks tells -/
def BlkE (w w' : World) (ts zs : List Int) (at0 N : Nat) (e : Ending) : Prop :=
  ((∃ (R : Option Addr) (c y : Nat) (cs : List RowV), e = .returned (.tuple #[.slice R N c, .int .i64 (y : Int), .bool true]) ∧ N ≤ c ∧ RVs w' R N cs ∧ (at0 < y ∧ y ≤ zs.length) ∧ (cs.getD 0 []).length ≤ 2000 ∧ Hid (TcI ts (zs.drop at0) cs N (y - at0)) ∧ Hid (∀ i, i < N → colB (ts.getD i 0) (cs.getD i []) = true ∧ RgV (cs.getD i []))) ∨
    (e = .returned (.tuple #[.slice none 0 0, .int .i64 0, .bool false]) ∧ Hid (NoG ts (zs.drop at0)))) ∧ Below w.heap.size w w'
set_option maxHeartbeats 4000000 in
theorem rbblocks_any (A : Option Addr) (N C : Nat) (ts : List Int) (a : Option Addr) (n c at0 : Nat) (zs : List Int) (w : World) (hv : IV w A N ts) (ht : Ty ts) (hN : 1 ≤ N ∧ N ≤ 64) (hb : BV w a n zs) (hc : n ≤ c) (hn : n ≤ 1000) (h0 : at0 ≤ n) :
    Calls Tryz.prog 76 #[.slice a n c, .int .i64 (at0 : Int), .slice A N C] w fun e w' => BlkE w w' ts zs at0 N e := by
  have hl := Lib.hid (IV.len hv)
  have HT := Lib.hid ht
  have hzl := Lib.hid hb.1
  have hby := Lib.hid hb.2.1
  obtain ⟨hN1, hN2⟩ := hN
  have ho0 := OS.lit (k := 1) w w.heap.size (Nat.le_refl _) [] 0 45 rfl (by simp) (by simp) w.heap.size rfl
  have hb0 := Joins.below_alloc1 w (.cells #[] 45)
  clear ht
  go_enter Tryz.func76, Tryz.ntmps76
  go_wp2_with fail
  go_loopw [1, 9, 10, 11, 12, 13] (fun bg o i v11 v12 v13 wr => ∃ (j y : Nat) (ps : List P9), j ≤ N ∧ i = .int .i64 (j : Int) ∧ bg = .int .i64 (y : Int) ∧ (at0 ≤ y ∧ y ≤ n) ∧ (j = 0 ∨ at0 < y) ∧ ps.length = j ∧ Hid (TcI ts (zs.drop at0) (ps.map (·.2)) j (y - at0)) ∧ Hid (∀ i, i < j → colB (ts.getD i 0) ((ps.map (·.2)).getD i []) = true ∧ RgV ((ps.map (·.2)).getD i [])) ∧ OS 1 wr w.heap.size o j (pc ps) ∧ PRN wr ps o ∧ Below w.heap.size w wr) (fun _ _ i _ _ _ _ => N - (intOf i).toNat)
  case atStart => exact ⟨0, at0, [], by omega, rfl, rfl, by omega, .inl rfl, rfl, Lib.hid (by rw [Nat.sub_self]; exact TcI.zero _ _), Lib.hid (fun i hi => by omega), ho0, (fun p hp => by cases hp), hb0⟩
  case round =>
    clear ho0 hb0
    obtain ⟨j, y, ps, hj, rfl, rfl, hx, hx1, hpl, HI, HC, ho, hpr, hbw⟩ := hrel
    by_cases hlt : j < N
    · have hji : (j : Int) < (N : Int) := by omega
      have hjl : j < ts.length := by rw [hl.out]; exact hlt
      have hvr := hv.below hbw
      obtain ⟨bt, offt, rfl, hct⟩ := IV.at hvr j hlt
      obtain ⟨a2, hsl, bv2⟩ := (hb.below hbw).slice_lo y c hx.2 hc
      obtain ⟨t, hte⟩ : ∃ t, ts.getD j 0 = t := ⟨_, rfl⟩
      rw [hte] at hct
      have HTE := Lib.hid hte
      have hyd := Lib.hid (show (zs.drop at0).drop (y - at0) = zs.drop y by rw [List.drop_drop, Nat.add_sub_cancel' hx.1])
      have cc := rtake7F_any t a2 (n - y) (c - y) (zs.drop y) wr.drew (bv2.below (Below.refl _ _).drew) (by omega) (by omega)
      clear hte hvr
      go_wp2_with fail
      refine wp_region_noPanic ?_
      refine region_g 7 (Ext (World.drew _)) (by kernel_rfl) (Ext.refl _) (fun hS => ?_)
      refine take_w (i := 0) (v := ?_) (some 22) rfl (by kernel_rfl) rfl (fun _ _ _ h => h) (Or.inl ⟨by rfl, ?_⟩) hS ?_
      rotate_left
      · (intro wq hq; go_simp); first | done | with_reducible rfl
      try simp only [Act.put, List.setIfInBounds_toArray, List.set_cons_zero, List.set_cons_succ]
      replace hS := Till.list 0 hS
      refine take_w (i := 1) (v := ?_) (some 23) rfl (by kernel_rfl) rfl (fun _ _ _ h => h) (Or.inl ⟨by rfl, ?_⟩) hS ?_
      rotate_left
      · (intro wq hq; go_simp); first | done | with_reducible rfl
      try simp only [Act.put, List.setIfInBounds_toArray, List.set_cons_zero, List.set_cons_succ]
      replace hS := Till.list 1 hS
      refine take_w (i := 4) (v := ?_) (some 26) rfl (by kernel_rfl) rfl (fun _ _ _ h => h) (Or.inl ⟨by rfl, ?_⟩) hS ?_
      rotate_left
      · (intro wq hq; go_simp); first | done | with_reducible rfl
      try simp only [Act.put, List.setIfInBounds_toArray, List.set_cons_zero, List.set_cons_succ]
      replace hS := Till.list 4 hS
      refine take_w (i := 5) (v := ?_) (some 27) rfl (by kernel_rfl) rfl (fun _ _ _ h => h) (Or.inl ⟨by rfl, ?_⟩) hS ?_
      rotate_left
      · (intro wq hq; go_simp); first | done | with_reducible rfl
      try simp only [Act.put, List.setIfInBounds_toArray, List.set_cons_zero, List.set_cons_succ]
      replace hS := Till.list 5 hS
      refine take_w (i := 2) (v := ?_) (some 24) rfl (by kernel_rfl) rfl (fun _ _ _ h => h) (Or.inl ⟨by rfl, ?_⟩) hS ?_
      rotate_left
      · (intro wq hq; go_simp); first | done | with_reducible rfl
      try simp only [Act.put, List.setIfInBounds_toArray, List.set_cons_zero, List.set_cons_succ]
      replace hS := Till.list 2 hS
      refine take_g (i := 3) (v := ?_) [3] (some 25) rfl (by kernel_rfl) rfl (fun _ _ _ h => h) (Or.inl ⟨by rfl, ?_⟩) hS ?_
      rotate_left
      · (intro wq hq; have q0 := hq _ _ _ hct; go_simp); first | done | with_reducible rfl
      try simp only [Act.put, List.setIfInBounds_toArray, List.set_cons_zero, List.set_cons_succ]
      replace hS := Till.list 3 hS
      refine take_g (i := 6) (v := .slice a2 (n - y) (c - y)) [6] (some 28) rfl (by kernel_rfl) rfl (fun _ _ _ h => h) (Or.inl ⟨by rfl, ?_⟩) hS ?_
      · (intro wq hq; (have := hsl; go_simp))
      try simp only [Act.put, List.setIfInBounds_toArray, List.set_cons_zero, List.set_cons_succ]
      replace hS := Till.list 6 hS
      refine ready_g (rs := [7]) (by kernel_rfl) (by simp) ?_
      refine AllReadyG.cons rfl (fun Kont hK => ?_) AllReadyG.nil
      go_simp
      refine cc.mono ?_
      rintro e w4 ⟨A4, L4, C4, col, s, ev, rfl, hL4, row4, HF4, HS, hb4⟩
      refine hK.out _ _ (Or.inl (by kernel_rfl)) (fun hS0 => ?_)
      clear hK Kont
      try simp only [Act.put, List.setIfInBounds_toArray, List.set_cons_zero, List.set_cons_succ]
      clear hS
      have hS := hS0
      clear hS0
      refine take_w (i := 8) (v := ?_) (some 21) rfl (by kernel_rfl) rfl (fun _ _ _ h => h) (Or.inl ⟨by rfl, ?_⟩) hS ?_
      rotate_left
      · (intro wq hq; go_simp); first | done | with_reducible rfl
      try simp only [Act.put, List.setIfInBounds_toArray, List.set_cons_zero, List.set_cons_succ]
      replace hS := Till.list 8 hS
      refine take_w (i := 9) (v := ?_) (some 30) rfl (by kernel_rfl) rfl (fun _ _ _ h => h) (Or.inl ⟨by rfl, ?_⟩) hS ?_
      rotate_left
      · (intro wq hq; go_simp); first | done | with_reducible rfl
      try simp only [Act.put, List.setIfInBounds_toArray, List.set_cons_zero, List.set_cons_succ]
      replace hS := Till.list 9 hS
      refine take_w (i := 10) (v := ?_) (some 31) rfl (by kernel_rfl) rfl (fun _ _ _ h => h) (Or.inl ⟨by rfl, ?_⟩) hS ?_
      rotate_left
      · (intro wq hq; go_simp); first | done | with_reducible rfl
      try simp only [Act.put, List.setIfInBounds_toArray, List.set_cons_zero, List.set_cons_succ]
      replace hS := Till.list 10 hS
      refine take_w (i := 11) (v := ?_) (some 32) rfl (by kernel_rfl) rfl (fun _ _ _ h => h) (Or.inl ⟨by rfl, ?_⟩) hS ?_
      rotate_left
      · (intro wq hq; go_simp); first | done | with_reducible rfl
      try simp only [Act.put, List.setIfInBounds_toArray, List.set_cons_zero, List.set_cons_succ]
      replace hS := Till.list 11 hS
      refine take_w (i := 12) (v := ?_) (some 11) rfl (by kernel_rfl) rfl (fun _ _ _ h => h) (Or.inl ⟨by rfl, ?_⟩) hS ?_
      rotate_left
      · (intro wq hq; go_simp); first | done | with_reducible rfl
      try simp only [Act.put, List.setIfInBounds_toArray, List.set_cons_zero, List.set_cons_succ]
      replace hS := Till.list 12 hS
      refine take_w (i := 13) (v := ?_) (some 12) rfl (by kernel_rfl) rfl (fun _ _ _ h => h) (Or.inl ⟨by rfl, ?_⟩) hS ?_
      rotate_left
      · (intro wq hq; go_simp); first | done | with_reducible rfl
      try simp only [Act.put, List.setIfInBounds_toArray, List.set_cons_zero, List.set_cons_succ]
      replace hS := Till.list 13 hS
      refine take_w (i := 14) (v := ?_) (some 13) rfl (by kernel_rfl) rfl (fun _ _ _ h => h) (Or.inl ⟨by rfl, ?_⟩) hS ?_
      rotate_left
      · (intro wq hq; go_simp); first | done | with_reducible rfl
      try simp only [Act.put, List.setIfInBounds_toArray, List.set_cons_zero, List.set_cons_succ]
      replace hS := Till.list 14 hS
      refine done_g (by kernel_rfl) (NoPanic.normal ?_) _
      clear hS
      have hb4' := (Below.refl wr.heap.size wr).drew.trans hb4
      have ho4 := ho.below hb4'
      have hpr4 := hpr.below hb4'
      have hbw4 := Below.then hbw hb4'
      have hown : Hid (∀ b, u9.ownBlock = some b → b < wr.heap.size) := Lib.hid (fun b hb => (ho.ownLow hb).2)
      clear ho hpr hb4 hb4' hbw bv2 hsl hct cc
      by_cases hev : ev = 0
      · subst hev
        obtain ⟨k1, k2, m, rfl, hm1, hm2⟩ := HS.out.long (fun z hz => hby.out z (List.mem_of_mem_drop hz))
        rw [List.length_drop, hzl.out] at hm2
        have HI2 := Lib.hid (HI.out.next hjl HT.out (by rw [HTE.out, hyd.out]; exact HS.out))
        have HK := Lib.hid (And.intro k1 k2)
        have hwx : IntKind.i64.wrap ((y : Int) + (m : Int)) = (y : Int) + (m : Int) := by rw [IntKind.wrap_i64]; omega
        have hq4 : rowRep.rep w4 (.slice A4 L4 C4) col (fun b => wr.heap.size ≤ b ∧ b < w4.heap.size) := rowRep.shrink (rowRep.fresh row4 HF4.out)
        have hpb4 : PRN w4 [((A4, L4, C4), col)] u9 := fun p hp => by
          rw [List.mem_singleton.1 hp]
          exact rowRep.wider hq4 (fun b q => ⟨fun e => by have := hown.out b e; have := q.1; omega, q.2⟩)
        have ob := Joins.below_alloc1 w4 (.cells #[.slice A4 L4 C4] 45)
        have ho5 := ho4.alloc (.cells #[.slice A4 L4 C4] 45)
        have hpr5 := hpr4.below ob
        have hpb5 := hpb4.below ob
        have sv5 : SV 1 (w4.alloc (.cells #[.slice A4 L4 C4] 45)) (some ⟨w4.heap.size, 0, none⟩) 1 (pc [((A4, L4, C4), col)]) := SV.lit' (k := 1) w4 [.slice A4 L4 C4] 1 45 rfl (by simp [Value.oneCell']) _ rfl
        have hb5 := hbw4.alloc hbw4.size (.cells #[.slice A4 L4 C4] 45)
        clear HI HS k1 k2 hjl row4 HF4 hq4 hpb4 hpr4 ob hown ho4
        go_wp2_with (at_builtin; refine append_os2 el_vlss rfl (.tmp 35) (.tmp 37) rfl w.heap.size _ j _ rfl ho5 _ 1 1 (pc [((A4, L4, C4), col)]) rfl sv5 (by omega) (by omega) hb5.size ?_; intro v6 w6 ho6 hb6 hk6 hst6)
        have hpr6 := PRN.app hpr5 hpb5 hb6.size hk6 hst6
        rw [← pc_app] at ho6
        have hb7 := hb5.trans hb6
        have HC5 : Hid (∀ i, i < j + 1 → colB (ts.getD i 0) (((ps ++ [((A4, L4, C4), col)]).map (·.2)).getD i []) = true ∧ RgV (((ps ++ [((A4, L4, C4), col)]).map (·.2)).getD i [])) := Lib.hid (fun i hi => by
          rw [List.map_append]
          by_cases hij : i < j
          · have e : (ps.map (·.2) ++ [((A4, L4, C4), col)].map (·.2)).getD i [] = (ps.map (·.2)).getD i [] := by rw [List.getD_eq_getElem?_getD, List.getElem?_append_left (by rw [List.length_map, hpl]; exact hij), ← List.getD_eq_getElem?_getD]
            rw [e]; exact HC.out i hij
          · obtain rfl : i = j := by omega
            have e : (ps.map (·.2) ++ [((A4, L4, C4), col)].map (·.2)).getD i [] = col := by rw [List.getD_eq_getElem?_getD, List.getElem?_append_right (by rw [List.length_map, hpl]; exact Nat.le_refl _), List.length_map, hpl, Nat.sub_self]; rfl
            rw [e, HTE.out]; exact HK.out)
        have hpl5 : (ps ++ [((A4, L4, C4), col)]).length = j + 1 := by rw [List.length_append, hpl]; rfl
        have HI5 : Hid (TcI ts (zs.drop at0) ((ps ++ [((A4, L4, C4), col)]).map (·.2)) (j + 1) (y + m - at0)) := by rw [List.map_append, show y + m - at0 = y - at0 + m by omega]; exact HI2
        clear hpr5 hpb5 hb6 hk6 hst6 HC HI2 hb5 sv5 ho5
        go_roundw
        case rel => exact ⟨j + 1, y + m, _, by omega, by go_num, by go_num, by omega, .inr (by omega), hpl5, HI5, HC5, ho6, hpr6, hb7⟩
        case measure => simp [intOf]; omega
      · have HNG := Lib.hid (HI.out.none hjl HT.out (by rw [HTE.out, hyd.out]; exact HS.out) hev)
        have hev' : ¬ ev = 0 := hev
        clear HI HC hpr4 ho4 HS row4
        go_wp2_with fail
        go_ret3
        exact ⟨.inr ⟨rfl, HNG⟩, hbw4⟩
    · have hji : ¬ (j : Int) < (N : Int) := by omega
      obtain rfl : j = N := by omega
      obtain ⟨a7, c7, rfl, h71, h72, sv7, hf7, -⟩ := ho.sv
      have hrv := RVs.of sv7 hpr.pr
      have hc0 := (colB_iff.1 (HC.out 0 (by omega)).1).2.1
      clear hpr ho sv7
      go_wp2_with fail
      go_ret3
      exact ⟨.inl ⟨a7, c7, y, _, rfl, h71, hrv, ⟨by omega, by rw [hzl.out]; exact hx.2⟩, hc0, HI, HC⟩, hbw⟩
end Go.Proofs.YtbfihajgjbpmaaaGreat
