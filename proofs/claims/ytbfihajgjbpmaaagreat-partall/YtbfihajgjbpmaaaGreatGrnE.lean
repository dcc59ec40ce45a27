/- Texts that belong together, one behind the other: QAi. -/
import Derived.Test.YtbfihajgjbpmaaaGreatGrnB
/- Stage 10: the document's own Split. -/
namespace Go.Proofs.YtbfihajgjbpmaaaGreat
open Go.ChangeShapes Go.WideShapes Go.ChangeAt Go.RowKit
set_option linter.unusedVariables false
set_option maxRecDepth 4000

theorem OS.still {k : Nat} {w w' : World} {base : Nat} {v : Value} {n : Nat} {cs : List Value} (h : OS k w base v n cs) (hs : ∀ b, v.ownBlock = some b → w'.heap[b]? = w.heap[b]?) : OS k w' base v n cs := by
  obtain ⟨h1, h2, h3⟩ := h
  refine ⟨h1, h2, ?_⟩
  rcases h3 with h3 | ⟨g, cap, cur, T, rfl, hg, hh, hr⟩
  · exact .inl h3
  · exact .inr ⟨g, cap, cur, T, rfl, hg, (hs g rfl).trans hh, hr⟩
theorem OwnX.still {α : Type} {R : Rep α} {d : α} {w w' : World} {base M : Nat} {v : Value} {xs : List α} {F : Nat → Prop} (h : OwnX R d w base v xs F) (hb : Below M w w') (hF : ∀ b, F b → b < M) (hv : ∀ b, v.ownBlock = some b → b < M) : OwnX R d w' base v xs F := by
  obtain ⟨cs, h1, h2, h3⟩ := h
  exact ⟨cs, h1.still (fun b hb' => hb.block b (hv b hb')), h2, fun i hi => Rep.low R (h3 i hi) hb hF⟩
theorem OwnX.from {α : Type} {R : Rep α} {d : α} {w : World} {base : Nat} {v : Value} {xs : List α} {F : Nat → Prop} (h : OwnX R d w base v xs F) : ∀ b, v.ownBlock = some b → base ≤ b ∧ b < w.heap.size := h.lt
theorem oneG_map {G i : Nat} (qs : List P9) : (oneG G qs i).map (·.2) = oneG G (qs.map (·.2)) i := by
  unfold oneG
  rw [List.length_map]
  split
  · rw [List.map_drop, List.map_take]
  · rfl
theorem outG_le {α : Type} {G : Nat} {l : List α} {i : Nat} (hi : i < l.length) : (outG G l i).length ≤ i := by
  unfold outG
  rw [if_pos hi, List.length_map, List.length_range]
  exact Nat.div_le_self _ _
set_option maxHeartbeats 4000000 in
theorem rasplit_any (A : Option Addr) (N C : Nat) (K m : Int) (G : Nat) (R : Option Addr) (n c : Nat) (vss : List RowV) (w : World) (hr : RVs w R n vss) (hn : n ≤ 100000) (hG : 1 ≤ G) (hG2 : G ≤ 100000) :
    Calls Tryz.prog 34 #[SS A N C K m (G : Int), .slice R n c] w fun e w' => ∃ A' C', e = .returned (.slice A' (cntG G n) C') ∧ cntG G n ≤ C' ∧ C' ≤ maxLen ∧ SlR granRep [] w' A' (cntG G n) (splitL G vss) (fun _ => True) ∧ Below w.heap.size w w' := by
  obtain ⟨qs, hq1, hq2, hq3⟩ := hr.pairs
  have hlq : Hid (qs.length = n) := by have := hq1.1; rw [pc_len] at this; show qs.length = n; omega
  have hlv : Hid (vss.length = n) := hr.1
  have HQ := Lib.hid hq2
  clear hr hq2
  have t0 := ((Bk.new w #[.slice A N C, .int .i64 K, .int .i64 m, .int .i64 (G : Int)] 24).alloc (.cells #[] 25)).alloc (.cells #[] 46)
  have hb0 := (Joins.below_alloc2 w (.cells #[.slice A N C, .int .i64 K, .int .i64 m, .int .i64 (G : Int)] 24) (.cells #[] 25)).alloc (by simp; omega) (.cells #[] 46)
  have ho0 : OwnX granRep [] (((w.alloc (.cells #[.slice A N C, .int .i64 K, .int .i64 m, .int .i64 (G : Int)] 24)).alloc (.cells #[] 25)).alloc (.cells #[] 46)) (w.heap.size + 1) (.slice (some ⟨w.heap.size + 1, 0, none⟩) 0 0) (outG G vss 0) (fun _ => False) := by
    rw [(outG_start G hG vss).1]
    exact ⟨[], (OS.lit (k := 1) (w.alloc (.cells #[.slice A N C, .int .i64 K, .int .i64 m, .int .i64 (G : Int)] 24)) (w.heap.size + 1) (by simp) [] 0 25 rfl (by simp) (by simp) _ (by simp)).alloc _, fun _ _ h => h, fun i hi => by simp at hi⟩
  have hn0 : OS 1 (((w.alloc (.cells #[.slice A N C, .int .i64 K, .int .i64 m, .int .i64 (G : Int)] 24)).alloc (.cells #[] 25)).alloc (.cells #[] 46)) (w.heap.size + 2) (.slice (some ⟨w.heap.size + 2, 0, none⟩) 0 0) 0 (pc (oneG G qs 0)) := by
    rw [(outG_start G hG qs).2]
    exact OS.lit (k := 1) _ (w.heap.size + 2) (by simp) [] 0 46 rfl (by simp) (by simp) _ (by simp)
  go_enter Tryz.func34, Tryz.ntmps34
  go_wp2_with fail
  go_loopw [5, 6, 7] (fun o one i wr => ∃ (j k M : Nat) (F : Nat → Prop), j ≤ n ∧ i = .int .i64 (j : Int) ∧ OwnX granRep [] wr (w.heap.size + 1) o (outG G vss j) F ∧ (∀ b, F b → b < M) ∧ (∀ b, o.ownBlock = some b → b < M) ∧ (w.heap.size < M ∧ M ≤ wr.heap.size) ∧
    Hid ((oneG G qs j).length = k) ∧ k ≤ j ∧ OS 1 wr M one k (pc (oneG G qs j)) ∧ Bk wr w.heap.size #[.slice A N C, .int .i64 K, .int .i64 m, .int .i64 (G : Int)] 24 ∧ Below w.heap.size w wr) (fun _ _ i _ => n - (intOf i).toNat)
  case atStart => exact ⟨0, 0, w.heap.size + 2, fun _ => False, by omega, rfl, ho0, (fun b h => h.elim), (fun b h => by simp [Value.ownBlock] at h; omega), ⟨by omega, by simp⟩, Lib.hid (by rw [(outG_start G hG qs).2]; rfl), by omega, hn0, t0, hb0⟩
  case round =>
    clear t0 hb0 ho0 hn0
    obtain ⟨j, k, M, F, hj, rfl, ho, hF, hob, hM, hk, hkj, hon, t, hb⟩ := hrel
    by_cases hlt : j < n
    · have hji : (j : Int) < (n : Int) := by omega
      have hgo := one_go hG (l := qs) (i := j) p9 (by rw [hlq.out]; exact hlt)
      obtain ⟨b, off, rfl, hc⟩ := pc_cell hq1 hlt
      have hc := keepc hc hb
      have hps : Hid (pc (oneG G qs j ++ [qs.getD j p9]) = pc (oneG G qs j) ++ [sV (qs.getD j p9).1]) := by show _ = _; rw [pc_app]; rfl
      have hk1 : Hid (k = j % G) := by show _ = _; have := hgo.2; rw [List.length_append, hk.out] at this; simp at this; omega
      have hpr : Hid (∀ p ∈ oneG G qs j ++ [qs.getD j p9], rowRep.rep w (sV p.1) p.2 (fun b => b < w.heap.size)) := Lib.hid (fun p hp => by
        have hin : p ∈ qs := by
          rcases List.mem_append.1 hp with hp | hp
          · unfold oneG at hp
            split at hp
            · exact List.mem_of_mem_take (List.mem_of_mem_drop hp)
            · cases hp
          · rw [List.mem_singleton.1 hp]
            have e : qs.getD j p9 = qs[j]'(by rw [hlq.out]; exact hlt) := by simp [List.getD, hlq.out, hlt]
            rw [e]; exact List.getElem_mem _
        exact Rep.old rowRep (rowRep.any (hq3 p hin)))
      have hmap : Hid ((oneG G qs j ++ [qs.getD j p9]).map (·.2) = oneG G vss j ++ [vss.getD j []]) := by
        show _ = _
        rw [List.map_append, oneG_map, HQ.out, List.map_cons, List.map_nil]
        have e : vss.getD j [] = (qs.getD j p9).2 := by rw [← HQ.out]; simp [List.getD, hlq.out, hlt]
        rw [e]
      have hs1 : SV 1 (wr.alloc (.cells #[sV (qs.getD j p9).1] 46)) (some ⟨wr.heap.size, 0, none⟩) 1 [sV (qs.getD j p9).1] := SV.lit' (k := 1) wr [sV (qs.getD j p9).1] 1 46 rfl (by simp [Value.oneCell', sV]) _ rfl
      have hgoV : Hid (j % G + 1 ≠ G → j + 1 ≠ n → outG G vss (j + 1) = outG G vss j ∧ oneG G qs (j + 1) = oneG G qs j ++ [qs.getD j p9]) := Lib.hid (fun h1 h2 =>
        ⟨(out_go hG (l := vss) ([] : RowV) (by rw [hlv.out]; exact hlt) h1 (by rw [hlv.out]; exact h2)).1, (out_go hG (l := qs) p9 (by rw [hlq.out]; exact hlt) h1 (by rw [hlq.out]; exact h2)).2⟩)
      have hput : Hid (j % G + 1 = G ∨ j + 1 = n → outG G vss j ++ [oneG G vss j ++ [vss.getD j []]] = outG G vss (j + 1) ∧ oneG G qs (j + 1) = []) := Lib.hid (fun h =>
        ⟨(out_put hG (l := vss) ([] : RowV) (by rw [hlv.out]; exact hlt) (by rw [hlv.out]; exact h)).1, (out_put hG (l := qs) p9 (by rw [hlq.out]; exact hlt) (by rw [hlq.out]; exact h)).2⟩)
      clear hgo
      generalize qs.getD j p9 = qj at *
      generalize oneG G qs j ++ [qj] = ps at *
      obtain ⟨c0, c1, c2, c3⟩ := t.sx
      have hbs : M ≤ (wr.alloc (.cells #[sV qj.1] 46)).heap.size := by rw [heap_alloc]; omega
      have hwn : IntKind.i64.wrap ((n : Int) - 1) = (n : Int) - 1 := by rw [IntKind.wrap_i64]; omega
      by_cases hp : k + 1 = G
      · have hca : (k : Int) + 1 = (G : Int) := by omega
        replace hp := Lib.hid hp
        go_upto_region 8 with (at_builtin; refine append_os2 el_rows rfl (.tmp 16) (.tmp 21) rfl M u6 k _ rfl (hon.alloc _) _ 1 1 [sV qj.1] rfl hs1 (by omega) (by omega) hbs ?_; intro v2 w2 ho2 hb2 hk3 hst2; obtain ⟨a2, d2, rfl⟩ := ho2.shape; have t2 := (t.alloc (.cells #[sV qj.1] 46)).low hb2 (by omega); obtain ⟨e0, e1, e2, e3⟩ := t2.sx)
        rw [← hps.out] at ho2
        clear e0 e1 e2 e3 c0 c1 c2 c3 hk3 hst2 hs1 hc
        have hmp : Below M wr w2 := (Joins.below_alloc1 wr (.cells #[sV qj.1] 46)).mono hM.2 |>.trans hb2
        have ho3 := ho.still hmp hF hob
        have hb3 : Below w.heap.size w w2 := hb.trans (hmp.mono (by omega))
        clear hb2 ho hb t
        have hput2 := hput.out (.inl (by rw [← hk1.out]; exact hp.out))
        obtain ⟨_, _, hA2, hd1, hd2, sv2, hfr, hnone⟩ := ho2.sv
        cases hA2
        have hF1 : ∀ p ∈ ps, rowRep.rep w2 (sV p.1) p.2 (fun b => F b ∨ b < w.heap.size ∨ M ≤ b) := fun p hp => rowRep.wider (Rep.low rowRep (hpr.out p hp) hb3 (fun b h => h)) (fun b h => .inr (.inl h))
        have hgr : granRep.rep w2 (.slice a2 (k + 1) d2) (ps.map (·.2)) (fun b => F b ∨ b < w.heap.size ∨ M ≤ b) := ⟨a2, k + 1, d2, rfl, hd1, hd2, (fun h => by have := hnone h; omega), slR_of sv2 hF1 (fun x hx => .inr (.inr (hfr x hx)))⟩
        rw [hmap.out] at hgr
        have hlo := ho3.lt
        obtain ⟨cs, q1, q2, q3⟩ := ho3
        obtain ⟨q, hq⟩ : ∃ q, (outG G vss j).length = q := ⟨_, rfl⟩
        have hqn : q ≤ 100000 := by
          have := outG_le (G := G) (l := vss) (i := j) (by rw [hlv.out]; exact hlt)
          omega
        have q1' := q1
        rw [hq] at q1'
        have hcl : cs.length = (outG G vss j).length := by have := q1.1; omega
        replace hq := Lib.hid hq
        have hba := Joins.below_alloc1 w2 (.cells #[.slice a2 (k + 1) d2] 25)
        have hs4 : SV 1 (w2.alloc (.cells #[.slice a2 (k + 1) d2] 25)) (some ⟨w2.heap.size, 0, none⟩) 1 [.slice a2 (k + 1) d2] := SV.lit' (k := 1) w2 [.slice a2 (k + 1) d2] 1 25 rfl (by simp [Value.oneCell']) _ rfl
        have hb4s : w.heap.size + 1 ≤ (w2.alloc (.cells #[.slice a2 (k + 1) d2] 25)).heap.size := by rw [heap_alloc]; have := hb3.size; omega
        clear ho2 hF1 sv2 q1 hmp hon
        go_wp2_with (at_builtin; refine append_os2 el_rowss rfl (.tmp 35) (.tmp 37) rfl (w.heap.size + 1) u5 q cs rfl (q1'.alloc _) _ 1 1 [.slice a2 (k + 1) d2] rfl hs4 (by omega) (by omega) hb4s ?_; intro v3 w3 ho4 hb4 hk4 hst4)
        have ow := OwnX.snoc (R := granRep) (d := []) (v := u5) (xs := outG G vss j) (x := oneG G vss j ++ [vss.getD j []]) (F := fun b => F b ∨ b < w.heap.size ∨ M ≤ b) (cs := cs) (by rw [hq.out]; exact ho4) hcl
          (fun b hb hf => by have := hlo b hb; have := hob b hb; rcases hf with hf | hf | hf; exact q2 b hb hf; omega; omega)
          (fun i hi => Rep.below granRep (granRep.wider (q3 i hi) (fun b h => .inl h)) hba) (Rep.below granRep hgr hba) hk4 hst4
        rw [hput2.1] at ow
        have t4 := (t2.alloc (.cells #[.slice a2 (k + 1) d2] 25)).low hb4 (Nat.lt_succ_self _)
        have hln := ow.lt
        have hsz := hb4.size
        have hb5 : Below w.heap.size w (w3.alloc (.cells #[] 46)) := ((hb3.alloc hb3.size (.cells #[.slice a2 (k + 1) d2] 25)).trans (hb4.mono (Nat.le_succ _))).alloc (by omega) (.cells #[] 46)
        have hon5 : OS 1 (w3.alloc (.cells #[] 46)) w3.heap.size (.slice (some ⟨w3.heap.size, 0, none⟩) 0 0) 0 (pc (oneG G qs (j + 1))) := by
          rw [hput2.2]
          exact OS.lit (k := 1) w3 w3.heap.size (Nat.le_refl _) [] 0 46 rfl (by simp) (by simp) _ rfl
        have hk5 : Hid ((oneG G qs (j + 1)).length = 0) := by show _ = _; rw [hput2.2]; rfl
        have hF5 : ∀ b, (F b ∨ b < w.heap.size ∨ M ≤ b) ∧ b < (w2.alloc (.cells #[.slice a2 (k + 1) d2] 25)).heap.size → b < w3.heap.size := fun b h => by have := h.2; omega
        have t5 := t4.alloc (.cells #[] 46)
        have ow5 := ow.below (Joins.below_alloc1 w3 (.cells #[] 46))
        clear ow t4 hb4 hst4 hk4 ho4 hput2 hb3 t2 hgr
        go_roundw
        case rel => exact ⟨j + 1, 0, w3.heap.size, _, by omega, by go_num, ow5, hF5, (fun b hb => (hln b hb).2), ⟨by omega, by simp⟩, hk5, by omega, hon5, t5, hb5⟩
        case measure => simp [intOf]; omega
      · have hca : ¬ (k : Int) + 1 = (G : Int) := by omega
        by_cases hp2 : j + 1 = n
        · have hcb : ((j : Int) == (n : Int) - 1) = true := by simp only [beq_iff_eq]; omega
          replace hp := Lib.hid hp
          replace hp2 := Lib.hid hp2
          go_upto_region 8 with (at_builtin; refine append_os2 el_rows rfl (.tmp 16) (.tmp 21) rfl M u6 k _ rfl (hon.alloc _) _ 1 1 [sV qj.1] rfl hs1 (by omega) (by omega) hbs ?_; intro v2 w2 ho2 hb2 hk3 hst2; obtain ⟨a2, d2, rfl⟩ := ho2.shape; have t2 := (t.alloc (.cells #[sV qj.1] 46)).low hb2 (by omega); obtain ⟨e0, e1, e2, e3⟩ := t2.sx)
          rw [← hps.out] at ho2
          clear e0 e1 e2 e3 c0 c1 c2 c3 hk3 hst2 hs1 hc
          have hmp : Below M wr w2 := (Joins.below_alloc1 wr (.cells #[sV qj.1] 46)).mono hM.2 |>.trans hb2
          have ho3 := ho.still hmp hF hob
          have hb3 : Below w.heap.size w w2 := hb.trans (hmp.mono (by omega))
          clear hb2 ho hb t
          have hput2 := hput.out (.inr hp2.out)
          obtain ⟨_, _, hA2, hd1, hd2, sv2, hfr, hnone⟩ := ho2.sv
          cases hA2
          have hF1 : ∀ p ∈ ps, rowRep.rep w2 (sV p.1) p.2 (fun b => F b ∨ b < w.heap.size ∨ M ≤ b) := fun p hp => rowRep.wider (Rep.low rowRep (hpr.out p hp) hb3 (fun b h => h)) (fun b h => .inr (.inl h))
          have hgr : granRep.rep w2 (.slice a2 (k + 1) d2) (ps.map (·.2)) (fun b => F b ∨ b < w.heap.size ∨ M ≤ b) := ⟨a2, k + 1, d2, rfl, hd1, hd2, (fun h => by have := hnone h; omega), slR_of sv2 hF1 (fun x hx => .inr (.inr (hfr x hx)))⟩
          rw [hmap.out] at hgr
          have hlo := ho3.lt
          obtain ⟨cs, q1, q2, q3⟩ := ho3
          obtain ⟨q, hq⟩ : ∃ q, (outG G vss j).length = q := ⟨_, rfl⟩
          have hqn : q ≤ 100000 := by
            have := outG_le (G := G) (l := vss) (i := j) (by rw [hlv.out]; exact hlt)
            omega
          have q1' := q1
          rw [hq] at q1'
          have hcl : cs.length = (outG G vss j).length := by have := q1.1; omega
          replace hq := Lib.hid hq
          have hba := Joins.below_alloc1 w2 (.cells #[.slice a2 (k + 1) d2] 25)
          have hs4 : SV 1 (w2.alloc (.cells #[.slice a2 (k + 1) d2] 25)) (some ⟨w2.heap.size, 0, none⟩) 1 [.slice a2 (k + 1) d2] := SV.lit' (k := 1) w2 [.slice a2 (k + 1) d2] 1 25 rfl (by simp [Value.oneCell']) _ rfl
          have hb4s : w.heap.size + 1 ≤ (w2.alloc (.cells #[.slice a2 (k + 1) d2] 25)).heap.size := by rw [heap_alloc]; have := hb3.size; omega
          clear ho2 hF1 sv2 q1 hmp hon
          go_wp2_with (at_builtin; refine append_os2 el_rowss rfl (.tmp 35) (.tmp 37) rfl (w.heap.size + 1) u5 q cs rfl (q1'.alloc _) _ 1 1 [.slice a2 (k + 1) d2] rfl hs4 (by omega) (by omega) hb4s ?_; intro v3 w3 ho4 hb4 hk4 hst4)
          have ow := OwnX.snoc (R := granRep) (d := []) (v := u5) (xs := outG G vss j) (x := oneG G vss j ++ [vss.getD j []]) (F := fun b => F b ∨ b < w.heap.size ∨ M ≤ b) (cs := cs) (by rw [hq.out]; exact ho4) hcl
            (fun b hb hf => by have := hlo b hb; have := hob b hb; rcases hf with hf | hf | hf; exact q2 b hb hf; omega; omega)
            (fun i hi => Rep.below granRep (granRep.wider (q3 i hi) (fun b h => .inl h)) hba) (Rep.below granRep hgr hba) hk4 hst4
          rw [hput2.1] at ow
          have t4 := (t2.alloc (.cells #[.slice a2 (k + 1) d2] 25)).low hb4 (Nat.lt_succ_self _)
          have hln := ow.lt
          have hsz := hb4.size
          have hb5 : Below w.heap.size w (w3.alloc (.cells #[] 46)) := ((hb3.alloc hb3.size (.cells #[.slice a2 (k + 1) d2] 25)).trans (hb4.mono (Nat.le_succ _))).alloc (by omega) (.cells #[] 46)
          have hon5 : OS 1 (w3.alloc (.cells #[] 46)) w3.heap.size (.slice (some ⟨w3.heap.size, 0, none⟩) 0 0) 0 (pc (oneG G qs (j + 1))) := by
            rw [hput2.2]
            exact OS.lit (k := 1) w3 w3.heap.size (Nat.le_refl _) [] 0 46 rfl (by simp) (by simp) _ rfl
          have hk5 : Hid ((oneG G qs (j + 1)).length = 0) := by show _ = _; rw [hput2.2]; rfl
          have hF5 : ∀ b, (F b ∨ b < w.heap.size ∨ M ≤ b) ∧ b < (w2.alloc (.cells #[.slice a2 (k + 1) d2] 25)).heap.size → b < w3.heap.size := fun b h => by have := h.2; omega
          have t5 := t4.alloc (.cells #[] 46)
          have ow5 := ow.below (Joins.below_alloc1 w3 (.cells #[] 46))
          clear ow t4 hb4 hst4 hk4 ho4 hput2 hb3 t2 hgr
          go_roundw
          case rel => exact ⟨j + 1, 0, w3.heap.size, _, by omega, by go_num, ow5, hF5, (fun b hb => (hln b hb).2), ⟨by omega, by simp⟩, hk5, by omega, hon5, t5, hb5⟩
          case measure => simp [intOf]; omega
        · have hcd : ¬ (((k : Int) + 1 == (G : Int)) = true ∨ ((j : Int) == (n : Int) - 1) = true) := by simp only [beq_iff_eq]; omega
          go_wp2_with (at_builtin; refine append_os2 el_rows rfl (.tmp 16) (.tmp 21) rfl M u6 k _ rfl (hon.alloc _) _ 1 1 [sV qj.1] rfl hs1 (by omega) (by omega) hbs ?_; intro v2 w2 ho2 hb2 hk3 hst2; obtain ⟨a2, d2, rfl⟩ := ho2.shape; have t2 := (t.alloc (.cells #[sV qj.1] 46)).low hb2 (by omega); obtain ⟨e0, e1, e2, e3⟩ := t2.sx)
          rw [← hps.out] at ho2
          have hmp : Below M wr w2 := ((Joins.below_alloc1 wr (.cells #[sV qj.1] 46)).mono hM.2).trans hb2
          have ho3 := ho.still hmp hF hob
          have hb3 : Below w.heap.size w w2 := hb.trans (hmp.mono (by omega))
          have hg2 := hgoV.out (by rw [← hk1.out]; exact hp) hp2
          clear e0 e1 e2 e3 c0 c1 c2 c3 hk3 hst2 hs1 hc hb2 ho hb t
          have hps3 : Hid (pc (oneG G qs (j + 1)) = pc ps) := by show _ = _; rw [hg2.2]
          have hk4 : Hid ((oneG G qs (j + 1)).length = k + 1) := by show _ = _; rw [hg2.2]; have := ho2.1; rw [pc_len] at this; omega
          go_roundw
          case rel => exact ⟨j + 1, k + 1, M, F, by omega, by go_num, by rw [hg2.1]; exact ho3, hF, hob, ⟨hM.1, by have := hmp.size; omega⟩, hk4, by omega, by rw [hps3.out]; exact ho2, t2, hb3⟩
          case measure => simp [intOf]; omega
    · have hji : ¬ (j : Int) < (n : Int) := by omega
      obtain rfl : j = n := by omega
      have hE : Hid (outG G vss j = splitL G vss) := by have := out_end G vss; rw [hlv.out] at this; exact this
      rw [hE.out] at ho
      have ho := ho.lower (Nat.le_succ w.heap.size)
      obtain ⟨A', C', e1, e2, e3, e4, e5⟩ := ho.slR
      rw [splitL_len, hlv.out] at e1 e2 e5
      subst e1
      clear ho hon t
      go_wp2_with fail
      go_ret
      exact ⟨A', C', rfl, e2, e3, e5.wider (fun _ _ => trivial), hb⟩
end Go.Proofs.YtbfihajgjbpmaaaGreat
