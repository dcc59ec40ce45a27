/- Texts that belong together, one behind the other: Q9l. -/
import Derived.Test.YtbfihajgjbpmaaaGreatOrdK
/- Contract of the document's own Sort. -/
namespace Go.Proofs.YtbfihajgjbpmaaaGreat
open Go.ChangeShapes Go.WideShapes Go.ChangeAt Go.RowKit
set_option linter.unusedVariables false
set_option maxRecDepth 4000

theorem insA_map {α β : Type} (c : β → β → Int) (f : α → β) (x : α) : ∀ l : List α, (insA (fun p q => c (f p) (f q)) x l).map f = insA c (f x) (l.map f)
  | [] => rfl
  | y :: l => by
    rw [insA, List.map_cons, insA]
    split
    · rfl
    · rw [List.map_cons, insA_map c f x l]
theorem sortA_map {α β : Type} (c : β → β → Int) (f : α → β) (l : List α) : (sortA (fun p q => c (f p) (f q)) l).map f = sortA c (l.map f) := by
  refine rev_ind (P := fun l => (sortA (fun p q => c (f p) (f q)) l).map f = sortA c (l.map f)) rfl (fun l x ih => ?_) l
  show (sortA _ (l ++ [x])).map f = sortA c ((l ++ [x]).map f)
  rw [sortA_snoc, insA_map, ih, List.map_append, List.map_cons, List.map_nil, sortA_snoc]
theorem sortA_mem {α : Type} {c : α → α → Int} {l : List α} {x : α} : x ∈ sortA c l ↔ x ∈ l := (sortA_perm l).mem_iff
/-- x on its way into l: so far k rows of l have been looked at -/
def InsP {α : Type} (c : α → α → Int) (x : α) (l nx : List α) (k : Nat) (put : Bool) : Prop :=
  (put = false ∧ nx = l.take k ∧ ∀ y ∈ l.take k, c y x ≤ 0) ∨ (put = true ∧ nx ++ l.drop k = insA c x l)
theorem InsP.start {α : Type} (c : α → α → Int) (x : α) (l : List α) : InsP c x l [] 0 false := .inl ⟨rfl, rfl, fun y hy => by simp at hy⟩
theorem InsP.go {α : Type} {c : α → α → Int} {x d : α} {l nx : List α} {k : Nat} (h : InsP c x l nx k true) (hk : k < l.length) : InsP c x l (nx ++ [l.getD k d]) (k + 1) true := by
  rcases h with ⟨h, -⟩ | ⟨-, h⟩
  · cases h
  · refine .inr ⟨rfl, ?_⟩
    rw [← h, List.append_assoc, List.drop_eq_getElem_cons hk]
    simp [List.getD, hk]
theorem InsP.put {α : Type} {c : α → α → Int} {x d : α} {l nx : List α} {k : Nat} (h : InsP c x l nx k false) (hk : k < l.length) (hc : 0 < c (l.getD k d) x) : InsP c x l (nx ++ [x]) k true := by
  rcases h with ⟨-, h1, h2⟩ | ⟨h, -⟩
  · refine .inr ⟨rfl, ?_⟩
    have := insA_at (c := c) (x := x) (l.take k) (l.drop k) h2 (fun y hy => by
      rw [List.drop_eq_getElem_cons hk, List.head?_cons] at hy
      obtain rfl := Option.some.inj hy
      simpa [List.getD, hk] using hc)
    rw [List.take_append_drop] at this
    rw [h1, this]; simp
  · cases h
theorem InsP.skip {α : Type} {c : α → α → Int} {x d : α} {l nx : List α} {k : Nat} (h : InsP c x l nx k false) (hk : k < l.length) (hc : c (l.getD k d) x ≤ 0) : InsP c x l (nx ++ [l.getD k d]) (k + 1) false := by
  rcases h with ⟨-, h1, h2⟩ | ⟨h, -⟩
  · have e : l.take (k + 1) = l.take k ++ [l.getD k d] := by rw [List.take_succ_eq_append_getElem hk]; simp [List.getD, hk]
    refine .inl ⟨rfl, by rw [h1, e], fun y hy => ?_⟩
    rw [e] at hy
    rcases List.mem_append.1 hy with hy | hy
    · exact h2 y hy
    · rw [List.mem_singleton.1 hy]; exact hc
  · cases h
theorem InsP.stop {α : Type} {c : α → α → Int} {x : α} {l nx : List α} (h : InsP c x l nx l.length false) : nx ++ [x] = insA c x l := by
  rcases h with ⟨-, h1, h2⟩ | ⟨h, -⟩
  · rw [List.take_length] at h1 h2
    rw [h1, insA_last h2]
  · cases h
theorem InsP.done {α : Type} {c : α → α → Int} {x : α} {l nx : List α} (h : InsP c x l nx l.length true) : nx = insA c x l := by
  rcases h with ⟨h, -⟩ | ⟨-, h⟩
  · cases h
  · rw [List.drop_length, List.append_nil] at h; exact h
theorem InsP.len {α : Type} {c : α → α → Int} {x : α} {l nx : List α} {k : Nat} {b : Bool} (h : InsP c x l nx k b) (hk : k ≤ l.length) : nx.length ≤ k + 1 := by
  rcases h with ⟨-, h1, -⟩ | ⟨-, h⟩
  · rw [h1, List.length_take]; omega
  · have := congrArg List.length h
    rw [List.length_append, List.length_drop, insA_len] at this
    omega
theorem InsP.mem {α : Type} {c : α → α → Int} {x : α} {l nx : List α} {k : Nat} {b : Bool} (h : InsP c x l nx k b) : ∀ y ∈ nx, y = x ∨ y ∈ l := by
  intro y hy
  rcases h with ⟨-, h1, -⟩ | ⟨-, h⟩
  · rw [h1] at hy; exact .inr (List.mem_of_mem_take hy)
  · exact insA_mem.1 (h ▸ List.mem_append_left _ hy)
/-- the order of rows that are shared -/
abbrev cP (ts : List Int) (K : Nat) : P9 → P9 → Int := fun p q => cN ts K p.2 q.2
/-- a slice of the call's own, of rows that are shared -/
abbrev OP (w : World) (base : Nat) (v : Value) (ps : List P9) : Prop := OS 1 w base v ps.length (pc ps)
theorem OP.push {w : World} {base : Nat} {v : Value} {ps : List P9} {x : P9} {m : Nat} (h : OS 1 w base v (ps.length + m) (pc ps ++ [sV x.1])) (hm : m = 1) : OP w base v (ps ++ [x]) := by
  subst hm
  unfold OP
  rw [List.length_append, pc_app]; exact h
set_option maxHeartbeats 4000000 in
theorem r9sort_any (A : Option Addr) (N C : Nat) (ts : List Int) (K : Nat) (m gg : Int) (R : Option Addr) (n c : Nat) (qs : List P9) (w : World) (hv : IV w A N ts) (hN : N ≤ maxLen) (hK : K ≤ maxLen) (hr : SV 1 w R n (pc qs)) (hp : PR w qs) (hn : n ≤ 100000) (hF : ∀ q ∈ qs, FR ts q.2) :
    Calls Tryz.prog 16 #[SS A N C K m gg, .slice R n c] w fun en w' => ∃ v, en = .returned v ∧ OP w' w.heap.size v (sortA (cP ts K) qs) ∧ Below w.heap.size w w' := by
  have hl : Hid (qs.length = n) := by have := hr.1; rw [pc_len] at this; show qs.length = n; omega
  have HF := Lib.hid hF
  have HP := Lib.hid hp
  have t0 := (Bk.new w #[.slice A N C, .int .i64 K, .int .i64 m, .int .i64 gg] 24).alloc (.cells #[] 46)
  have o0 : OP ((w.alloc (.cells #[.slice A N C, .int .i64 K, .int .i64 m, .int .i64 gg] 24)).alloc (.cells #[] 46)) (w.heap.size + 1) (.slice (some ⟨w.heap.size + 1, 0, none⟩) 0 0) [] := OS.lit (k := 1) (w.alloc (.cells #[.slice A N C, .int .i64 K, .int .i64 m, .int .i64 gg] 24)) (w.heap.size + 1) (by simp) [] 0 46 rfl (by simp) (by simp) _ (by simp)
  have hb0 := Joins.below_alloc2 w (.cells #[.slice A N C, .int .i64 K, .int .i64 m, .int .i64 gg] 24) (.cells #[] 46)
  clear hF hp
  go_enter Tryz.func16, Tryz.ntmps16
  go_wp2_with fail
  go_loopw [5, 6] (fun vo vi wr => ∃ (i : Nat) (ps : List P9), i ≤ n ∧ vi = .int .i64 (i : Int) ∧ OP wr (w.heap.size + 1) vo ps ∧ Hid (ps = sortA (cP ts K) (qs.take i)) ∧ Bk wr w.heap.size #[.slice A N C, .int .i64 K, .int .i64 m, .int .i64 gg] 24 ∧ Below w.heap.size w wr) (fun _ vi _ => n - (intOf vi).toNat)
  case atStart => exact ⟨0, [], by omega, rfl, o0, rfl, t0, hb0⟩
  case round =>
    clear o0 t0 hb0
    obtain ⟨i, ps, hi, rfl, ho, HS, t, hb⟩ := hrel
    have HL : Hid (ps.length = i) := by show _ = _; rw [HS.out, sortA_len, List.length_take, hl.out]; omega
    by_cases hlt : i < n
    · have hii : (i : Int) < (n : Int) := by omega
      obtain ⟨x, hx⟩ : ∃ x, qs.getD i p9 = x := ⟨_, rfl⟩
      obtain ⟨b, off, rfl, hcx⟩ := pc_cell hr hlt
      rw [hx] at hcx
      have hmx : x ∈ qs := by rw [← hx, List.getD_eq_getElem?_getD, List.getElem?_eq_getElem (by rw [hl.out]; exact hlt)]; exact List.getElem_mem _
      have HX : Hid (sortA (cP ts K) (qs.take (i + 1)) = insA (cP ts K) x ps) := by
        show _ = _
        rw [List.take_succ_eq_append_getElem (by rw [hl.out]; exact hlt), sortA_snoc, HS.out, ← hx]
        simp [List.getD, show i < qs.length by rw [hl.out]; exact hlt]
      have HM : Hid (x ∈ qs ∧ ∀ y ∈ ps, y ∈ qs) := ⟨hmx, fun y hy => List.mem_of_mem_take (sortA_mem.1 (HS.out ▸ hy))⟩
      clear hmx hx
      obtain ⟨oA, oC, hs1, ho1, ho2, hout, -⟩ := OS.sv ho
      subst hs1
      rw [HL.out] at hout ho1
      have HLE := HL.out
      rw [HLE]
      clear HLE
      have hrow := hr.below hb
      generalize hwm : wr = wm at *
      clear hwm
      have n0 : OP (wm.alloc (.cells #[] 46)) wm.heap.size (.slice (some ⟨wm.heap.size, 0, none⟩) 0 0) [] := OS.lit (k := 1) wm wm.heap.size (Nat.le_refl _) [] 0 46 rfl (by simp) (by simp) _ rfl
      have hbm := Joins.below_alloc1 wm (.cells #[] 46)
      have hin : i ≤ 100000 := by omega
      have hcx0 := keepc hcx hb
      have hvm := hv.below hb
      have w3 : IntKind.i64.wrap ((i : Int) + 1) = ((i + 1 : Nat) : Int) := by rw [IntKind.wrap_i64]; omega
      clear hcx hr hv
      go_wp2_with fail
      go_loopw [7, 8, 9] (fun vn vp vk wi => ∃ (k : Nat) (nx : List P9) (p : Bool), k ≤ i ∧ vk = .int .i64 (k : Int) ∧ vp = .bool p ∧ OP wi wm.heap.size vn nx ∧ Hid (InsP (cP ts K) x ps nx k p) ∧ nx.length ≤ k + 1 ∧ Below wm.heap.size wm wi) (fun _ _ vk _ => i - (intOf vk).toNat)
      case atStart => exact ⟨0, [], false, by omega, rfl, rfl, n0, InsP.start _ _ _, by simp, hbm⟩
      case round =>
        clear n0 hbm
        obtain ⟨k, nx, p, hk, rfl, rfl, hn9, HI, hnl, hbi⟩ := hrel
        have hsz := hbi.size
        by_cases hki : k < i
        · have hki' : (k : Int) < (i : Int) := by omega
          have w4 : IntKind.i64.wrap ((k : Int) + 1) = ((k + 1 : Nat) : Int) := by rw [IntKind.wrap_i64]; omega
          have hkl : Hid (k < ps.length) := by show _; rw [HL.out]; exact hki
          obtain ⟨b2, off2, rfl, hck0⟩ := pc_cell hout hki
          obtain ⟨y, hy⟩ : ∃ y, ps.getD k p9 = y := ⟨_, rfl⟩
          rw [hy] at hck0
          have HY := Lib.hid hy
          have hmy : y ∈ ps := by rw [← hy, List.getD_eq_getElem?_getD, List.getElem?_eq_getElem hkl.out]; exact List.getElem_mem _
          have hck := keepc hck0 hbi
          have hcx := keepc hcx0 hbi
          cases p
          · obtain ⟨c0, c1, c2, c3⟩ := (t.low hbi t.lt).sx
            obtain ⟨_, _, _, e1, a1, a2, a3, a4, -⟩ := (HP.out y (HM.out.2 y hmy)).below (hb.trans (hbi.mono hb.size)).drew
            cases e1
            obtain ⟨_, _, _, e2, b1, b2', b3, b4, -⟩ := (HP.out x HM.out.1).below (hb.trans (hbi.mono hb.size)).drew
            cases e2
            have fy := HF.out y (HM.out.2 y hmy)
            have fx := HF.out x HM.out.1
            have cc := r4compare_any A N C ts K m gg _ _ y.1.2.2 y.2 _ _ x.1.2.2 x.2 wr.drew (hvm.below hbi.drew) hN a4 (by omega) b4 (by omega) hK (RgV.of fy) (RgV.of fx)
            rw [← cN_ok K fy fx] at cc
            obtain ⟨r, hcr⟩ : ∃ r, cN ts K y.2 x.2 = r := ⟨_, rfl⟩
            rw [hcr] at cc
            have HR := Lib.hid hcr
            clear hcr hmy hy a1 a2 a3 a4 b1 b2' b3 b4 fx fy
            go_wp2_with fail
            refine wp_region_noPanic ?_
            refine region_g 12 (Ext (World.drew _)) (by kernel_rfl) (Ext.refl _) (fun hS => ?_)
            refine take_w (i := 0) (v := ?_) (some 24) rfl (by kernel_rfl) rfl (fun _ _ _ h => h) (Or.inl ⟨by rfl, ?_⟩) hS ?_
            rotate_left
            · (intro wq hq; go_simp); first | done | with_reducible rfl
            try simp only [Act.put, List.setIfInBounds_toArray, List.set_cons_zero, List.set_cons_succ]
            replace hS := Till.list 0 hS
            refine take_w (i := 1) (v := ?_) (some 25) rfl (by kernel_rfl) rfl (fun _ _ _ h => h) (Or.inl ⟨by rfl, ?_⟩) hS ?_
            rotate_left
            · (intro wq hq; go_simp); first | done | with_reducible rfl
            try simp only [Act.put, List.setIfInBounds_toArray, List.set_cons_zero, List.set_cons_succ]
            replace hS := Till.list 1 hS
            refine take_w (i := 2) (v := ?_) (some 26) rfl (by kernel_rfl) rfl (fun _ _ _ h => h) (Or.inl ⟨by rfl, ?_⟩) hS ?_
            rotate_left
            · (intro wq hq; go_simp); first | done | with_reducible rfl
            try simp only [Act.put, List.setIfInBounds_toArray, List.set_cons_zero, List.set_cons_succ]
            replace hS := Till.list 2 hS
            refine take_g (i := 3) (v := ?_) [3] (some 27) rfl (by kernel_rfl) rfl (fun _ _ _ h => h) (Or.inl ⟨by rfl, ?_⟩) hS ?_
            rotate_left
            · (intro wq hq; have q0 := hq _ _ _ c0; have q1 := hq _ _ _ c1; have q2 := hq _ _ _ c2; have q3 := hq _ _ _ c3; have q4 := hq _ _ _ hck; have q5 := hq _ _ _ hcx; go_simp); first | done | with_reducible rfl
            try simp only [Act.put, List.setIfInBounds_toArray, List.set_cons_zero, List.set_cons_succ]
            replace hS := Till.list 3 hS
            refine take_w (i := 4) (v := ?_) (some 28) rfl (by kernel_rfl) rfl (fun _ _ _ h => h) (Or.inl ⟨by rfl, ?_⟩) hS ?_
            rotate_left
            · (intro wq hq; go_simp); first | done | with_reducible rfl
            try simp only [Act.put, List.setIfInBounds_toArray, List.set_cons_zero, List.set_cons_succ]
            replace hS := Till.list 4 hS
            refine take_w (i := 5) (v := ?_) (some 29) rfl (by kernel_rfl) rfl (fun _ _ _ h => h) (Or.inl ⟨by rfl, ?_⟩) hS ?_
            rotate_left
            · (intro wq hq; go_simp); first | done | with_reducible rfl
            try simp only [Act.put, List.setIfInBounds_toArray, List.set_cons_zero, List.set_cons_succ]
            replace hS := Till.list 5 hS
            refine take_w (i := 8) (v := ?_) (some 32) rfl (by kernel_rfl) rfl (fun _ _ _ h => h) (Or.inl ⟨by rfl, ?_⟩) hS ?_
            rotate_left
            · (intro wq hq; go_simp); first | done | with_reducible rfl
            try simp only [Act.put, List.setIfInBounds_toArray, List.set_cons_zero, List.set_cons_succ]
            replace hS := Till.list 8 hS
            refine take_w (i := 9) (v := ?_) (some 33) rfl (by kernel_rfl) rfl (fun _ _ _ h => h) (Or.inl ⟨by rfl, ?_⟩) hS ?_
            rotate_left
            · (intro wq hq; go_simp); first | done | with_reducible rfl
            try simp only [Act.put, List.setIfInBounds_toArray, List.set_cons_zero, List.set_cons_succ]
            replace hS := Till.list 9 hS
            refine take_w (i := 6) (v := ?_) (some 30) rfl (by kernel_rfl) rfl (fun _ _ _ h => h) (Or.inl ⟨by rfl, ?_⟩) hS ?_
            rotate_left
            · (intro wq hq; go_simp); first | done | with_reducible rfl
            try simp only [Act.put, List.setIfInBounds_toArray, List.set_cons_zero, List.set_cons_succ]
            replace hS := Till.list 6 hS
            refine take_w (i := 10) (v := ?_) (some 34) rfl (by kernel_rfl) rfl (fun _ _ _ h => h) (Or.inl ⟨by rfl, ?_⟩) hS ?_
            rotate_left
            · (intro wq hq; go_simp); first | done | with_reducible rfl
            try simp only [Act.put, List.setIfInBounds_toArray, List.set_cons_zero, List.set_cons_succ]
            replace hS := Till.list 10 hS
            refine take_g (i := 7) (v := ?_) [7] (some 31) rfl (by kernel_rfl) rfl (fun _ _ _ h => h) (Or.inl ⟨by rfl, ?_⟩) hS ?_
            rotate_left
            · (intro wq hq; have q0 := hq _ _ _ c0; have q1 := hq _ _ _ c1; have q2 := hq _ _ _ c2; have q3 := hq _ _ _ c3; have q4 := hq _ _ _ hck; have q5 := hq _ _ _ hcx; go_simp); first | done | with_reducible rfl
            try simp only [Act.put, List.setIfInBounds_toArray, List.set_cons_zero, List.set_cons_succ]
            replace hS := Till.list 7 hS
            refine take_g (i := 11) (v := ?_) [11] (some 35) rfl (by kernel_rfl) rfl (fun _ _ _ h => h) (Or.inl ⟨by rfl, ?_⟩) hS ?_
            rotate_left
            · (intro wq hq; have q0 := hq _ _ _ c0; have q1 := hq _ _ _ c1; have q2 := hq _ _ _ c2; have q3 := hq _ _ _ c3; have q4 := hq _ _ _ hck; have q5 := hq _ _ _ hcx; go_simp); first | done | with_reducible rfl
            try simp only [Act.put, List.setIfInBounds_toArray, List.set_cons_zero, List.set_cons_succ]
            replace hS := Till.list 11 hS
            refine ready_g (rs := [12]) (by kernel_rfl) (by simp) ?_
            refine AllReadyG.cons rfl (fun Kont hK => ?_) AllReadyG.nil
            go_simp
            refine cc.mono ?_
            rintro en w' ⟨rfl, hb'⟩
            refine hK.out _ _ (Or.inl (by kernel_rfl)) (fun hS0 => ?_)
            clear hK Kont
            try simp only [Act.put, List.setIfInBounds_toArray, List.set_cons_zero, List.set_cons_succ]
            clear hS
            have hS := hS0
            clear hS0
            refine take_w (i := 13) (v := ?_) (some 37) rfl (by kernel_rfl) rfl (fun _ _ _ h => h) (Or.inl ⟨by rfl, ?_⟩) hS ?_
            rotate_left
            · (intro wq hq; go_simp); first | done | with_reducible rfl
            try simp only [Act.put, List.setIfInBounds_toArray, List.set_cons_zero, List.set_cons_succ]
            replace hS := Till.list 13 hS
            refine take_w (i := 14) (v := ?_) (some 38) rfl (by kernel_rfl) rfl (fun _ _ _ h => h) (Or.inl ⟨by rfl, ?_⟩) hS ?_
            rotate_left
            · (intro wq hq; go_simp); first | done | with_reducible rfl
            try simp only [Act.put, List.setIfInBounds_toArray, List.set_cons_zero, List.set_cons_succ]
            replace hS := Till.list 14 hS
            refine done_g (by kernel_rfl) (NoPanic.normal ?_) _
            clear hS
            replace hbi := hbi.drew.trans (hb'.mono hsz)
            replace hn9 := OS.below (w := wr.drew) hn9 hb'
            have hsz := hbi.size
            clear hb' cc c0 c1 c2 c3 hck hcx
            have hck := keepc hck0 hbi
            have hcx := keepc hcx0 hbi
            cases hd : decide (0 < r)
            · have hr0 := of_decide_eq_false hd
              have HI2 : Hid (InsP (cP ts K) x ps (nx ++ [y]) (k + 1) false) := by
                have := HI.out.skip (d := p9) hkl.out (by rw [HY.out]; show cN ts K y.2 x.2 ≤ 0; rw [HR.out]; omega)
                rwa [HY.out] at this
              clear hd hr0
              go_wp2_with (refine append_os2 el_rows rfl (.tmp 46) (.tmp 51) rfl wm.heap.size _ _ _ rfl (hn9.alloc _) _ 1 1 [sV y.1] rfl (SV.lit' (k := 1) _ [sV y.1] 1 46 rfl (by simp [Value.oneCell']) _ rfl) (by omega) (by omega) (by rw [heap_alloc]; omega) ?_; intro v6 w6 ho7 hb6 hk6 hst6)
              have hb7 := (hbi.alloc hsz (.cells #[sV y.1] 46)).trans hb6
              have ho8 := OP.push ho7 rfl
              clear ho7 hb6 hk6 hst6 hn9 hbi hck hcx
              go_wp2_with fail
              go_roundw
              case rel => exact ⟨k + 1, _, false, by omega, by go_num, rfl, ho8, HI2, by simp; omega, hb7⟩
              case measure => simp [intOf]; omega
            · have hr0 := of_decide_eq_true hd
              have HI2 : Hid (InsP (cP ts K) x ps (nx ++ [x] ++ [y]) (k + 1) true) := by
                have := (HI.out.put (d := p9) hkl.out (by rw [HY.out]; show 0 < cN ts K y.2 x.2; rw [HR.out]; omega)).go (d := p9) hkl.out
                rwa [HY.out] at this
              clear hd hr0
              go_upto_region 13 with (refine append_os2 el_rows rfl (.tmp 39) (.tmp 44) rfl wm.heap.size _ _ _ rfl (hn9.alloc _) _ 1 1 [sV x.1] rfl (SV.lit' (k := 1) _ [sV x.1] 1 46 rfl (by simp [Value.oneCell']) _ rfl) (by omega) (by omega) (by rw [heap_alloc]; omega) ?_; intro v5 w5 ho5 hb5 hk5 hst5)
              have hb6 := (hbi.alloc hsz (.cells #[sV x.1] 46)).trans hb5
              have ho6 : OP w5 wm.heap.size v5 (nx ++ [x]) := OP.push ho5 rfl
              have hnl6 : (nx ++ [x]).length ≤ k + 2 := by simp; omega
              clear ho5 hb5 hk5 hst5 hn9 hbi hck hcx
              have hck := keepc hck0 hb6
              have hsz6 := hb6.size
              clear hsz
              go_wp2_with (refine append_os2 el_rows rfl (.tmp 46) (.tmp 51) rfl wm.heap.size _ _ _ rfl (ho6.alloc _) _ 1 1 [sV y.1] rfl (SV.lit' (k := 1) _ [sV y.1] 1 46 rfl (by simp [Value.oneCell']) _ rfl) (by omega) (by omega) (by rw [heap_alloc]; omega) ?_; intro v7 w7 ho7 hb7 hk7 hst7)
              have hb8 := (hb6.alloc hsz6 (.cells #[sV y.1] 46)).trans hb7
              have ho8 := OP.push ho7 rfl
              clear ho7 hb7 hk7 hst7 ho6 hb6 hck
              go_wp2_with fail
              go_roundw
              case rel => exact ⟨k + 1, _, true, by omega, by go_num, rfl, ho8, HI2, HI2.out.len (by have := hkl.out; omega), hb8⟩
              case measure => simp [intOf]; omega
          · have HI2 : Hid (InsP (cP ts K) x ps (nx ++ [y]) (k + 1) true) := by
              have := HI.out.go (d := p9) hkl.out
              rwa [HY.out] at this
            have hn0 := hn9.drew
            clear hy hmy
            go_wp2_with fail
            refine wp_region_noPanic ?_
            refine region_g 15 (Ext (World.drew _)) (by kernel_rfl) (Ext.refl _) (fun hS => ?_)
            refine take_w (i := 0) (v := ?_) (some 24) rfl (by kernel_rfl) rfl (fun _ _ _ h => h) (Or.inl ⟨by rfl, ?_⟩) hS ?_
            rotate_left
            · (intro wq hq; go_simp); first | done | with_reducible rfl
            try simp only [Act.put, List.setIfInBounds_toArray, List.set_cons_zero, List.set_cons_succ]
            replace hS := Till.list 0 hS
            refine take_w (i := 1) (v := ?_) (some 25) rfl (by kernel_rfl) rfl (fun _ _ _ h => h) (Or.inl ⟨by rfl, ?_⟩) hS ?_
            rotate_left
            · (intro wq hq; go_simp); first | done | with_reducible rfl
            try simp only [Act.put, List.setIfInBounds_toArray, List.set_cons_zero, List.set_cons_succ]
            replace hS := Till.list 1 hS
            refine take_w (i := 2) (v := ?_) (some 26) rfl (by kernel_rfl) rfl (fun _ _ _ h => h) (Or.inl ⟨by rfl, ?_⟩) hS ?_
            rotate_left
            · (intro wq hq; go_simp); first | done | with_reducible rfl
            try simp only [Act.put, List.setIfInBounds_toArray, List.set_cons_zero, List.set_cons_succ]
            replace hS := Till.list 2 hS
            refine take_w (i := 3) (v := undef) (some 27) rfl (by kernel_rfl) rfl (fun _ _ _ h => h) (Or.inr ⟨by rfl, rfl⟩) hS ?_
            try simp only [Act.put, List.setIfInBounds_toArray, List.set_cons_zero, List.set_cons_succ]
            replace hS := Till.list 3 hS
            refine take_w (i := 4) (v := undef) (some 28) rfl (by kernel_rfl) rfl (fun _ _ _ h => h) (Or.inr ⟨by rfl, rfl⟩) hS ?_
            try simp only [Act.put, List.setIfInBounds_toArray, List.set_cons_zero, List.set_cons_succ]
            replace hS := Till.list 4 hS
            refine take_w (i := 5) (v := undef) (some 29) rfl (by kernel_rfl) rfl (fun _ _ _ h => h) (Or.inr ⟨by rfl, rfl⟩) hS ?_
            try simp only [Act.put, List.setIfInBounds_toArray, List.set_cons_zero, List.set_cons_succ]
            replace hS := Till.list 5 hS
            refine take_w (i := 8) (v := undef) (some 32) rfl (by kernel_rfl) rfl (fun _ _ _ h => h) (Or.inr ⟨by rfl, rfl⟩) hS ?_
            try simp only [Act.put, List.setIfInBounds_toArray, List.set_cons_zero, List.set_cons_succ]
            replace hS := Till.list 8 hS
            refine take_w (i := 9) (v := undef) (some 33) rfl (by kernel_rfl) rfl (fun _ _ _ h => h) (Or.inr ⟨by rfl, rfl⟩) hS ?_
            try simp only [Act.put, List.setIfInBounds_toArray, List.set_cons_zero, List.set_cons_succ]
            replace hS := Till.list 9 hS
            refine take_w (i := 6) (v := undef) (some 30) rfl (by kernel_rfl) rfl (fun _ _ _ h => h) (Or.inr ⟨by rfl, rfl⟩) hS ?_
            try simp only [Act.put, List.setIfInBounds_toArray, List.set_cons_zero, List.set_cons_succ]
            replace hS := Till.list 6 hS
            refine take_w (i := 10) (v := undef) (some 34) rfl (by kernel_rfl) rfl (fun _ _ _ h => h) (Or.inr ⟨by rfl, rfl⟩) hS ?_
            try simp only [Act.put, List.setIfInBounds_toArray, List.set_cons_zero, List.set_cons_succ]
            replace hS := Till.list 10 hS
            refine take_w (i := 7) (v := undef) (some 31) rfl (by kernel_rfl) rfl (fun _ _ _ h => h) (Or.inr ⟨by rfl, rfl⟩) hS ?_
            try simp only [Act.put, List.setIfInBounds_toArray, List.set_cons_zero, List.set_cons_succ]
            replace hS := Till.list 7 hS
            refine take_w (i := 11) (v := undef) (some 35) rfl (by kernel_rfl) rfl (fun _ _ _ h => h) (Or.inr ⟨by rfl, rfl⟩) hS ?_
            try simp only [Act.put, List.setIfInBounds_toArray, List.set_cons_zero, List.set_cons_succ]
            replace hS := Till.list 11 hS
            refine take_w (i := 12) (v := undef) (some 36) rfl (by kernel_rfl) rfl (fun _ _ _ h => h) (Or.inr ⟨by rfl, rfl⟩) hS ?_
            try simp only [Act.put, List.setIfInBounds_toArray, List.set_cons_zero, List.set_cons_succ]
            replace hS := Till.list 12 hS
            refine take_w (i := 13) (v := undef) (some 37) rfl (by kernel_rfl) rfl (fun _ _ _ h => h) (Or.inr ⟨by rfl, rfl⟩) hS ?_
            try simp only [Act.put, List.setIfInBounds_toArray, List.set_cons_zero, List.set_cons_succ]
            replace hS := Till.list 13 hS
            refine take_w (i := 14) (v := ?_) (some 38) rfl (by kernel_rfl) rfl (fun _ _ _ h => h) (Or.inl ⟨by rfl, ?_⟩) hS ?_
            rotate_left
            · (intro wq hq; go_simp); first | done | with_reducible rfl
            try simp only [Act.put, List.setIfInBounds_toArray, List.set_cons_zero, List.set_cons_succ]
            replace hS := Till.list 14 hS
            refine done_g (by kernel_rfl) (NoPanic.normal ?_) _
            clear hS
            replace hbi := hbi.drew
            replace hn9 := hn0
            clear hn0 hck hcx hsz
            generalize wr.drew = w9 at *
            have hsz := hbi.size
            have hck := keepc hck0 hbi
            have hcx := keepc hcx0 hbi
            go_wp2_with (refine append_os2 el_rows rfl (.tmp 46) (.tmp 51) rfl wm.heap.size _ _ _ rfl (hn9.alloc _) _ 1 1 [sV y.1] rfl (SV.lit' (k := 1) _ [sV y.1] 1 46 rfl (by simp [Value.oneCell']) _ rfl) (by omega) (by omega) (by rw [heap_alloc]; omega) ?_; intro v6 w6 ho7 hb6 hk6 hst6)
            have hb7 := (hbi.alloc hsz (.cells #[sV y.1] 46)).trans hb6
            have ho8 := OP.push ho7 rfl
            clear ho7 hb6 hk6 hst6 hn9 hbi hck hcx
            go_wp2_with fail
            go_roundw
            case rel => exact ⟨k + 1, _, true, by omega, by go_num, rfl, ho8, HI2, by simp; omega, hb7⟩
            case measure => simp [intOf]; omega
        · have hki' : ¬ (k : Int) < (i : Int) := by omega
          have hke : Hid (k = ps.length) := by have := HL.out; show k = ps.length; omega
          have hcx := keepc hcx0 hbi
          have hbW := hb.trans (hbi.mono hb.size)
          have t' := t.low hbi t.lt
          cases p
          · have HI2 : Hid (nx ++ [x] = sortA (cP ts K) (qs.take (i + 1))) := by
              have h := HI.out
              rw [hke.out] at h
              show _ = _
              rw [HX.out]; exact h.stop
            go_wp2_with (refine append_os2 el_rows rfl (.tmp 55) (.tmp 60) rfl wm.heap.size _ _ _ rfl (hn9.alloc _) _ 1 1 [sV x.1] rfl (SV.lit' (k := 1) _ [sV x.1] 1 46 rfl (by simp [Value.oneCell']) _ rfl) (by omega) (by omega) (by rw [heap_alloc]; omega) ?_; intro v6 w6 ho7 hb6 hk6 hst6)
            have hb7 := (hbW.alloc (Nat.le_trans hb.size hsz) (.cells #[sV x.1] 46)).trans (hb6.mono hb.size)
            have ho8 := OP.push ho7 rfl
            have t8 := (t'.alloc (.cells #[sV x.1] 46)).low hb6 t.lt
            clear ho7 hb6 hk6 hst6 hn9 hbi hcx hbW t'
            have hbs := hb.size
            have hts := t.lt
            go_wp2_with fail
            go_roundw
            case rel => exact ⟨i + 1, _, by omega, by go_num, ho8.lower (by omega), HI2, t8, hb7⟩
            case measure => simp [intOf]; omega
          · have HI2 : Hid (nx = sortA (cP ts K) (qs.take (i + 1))) := by
              have h := HI.out
              rw [hke.out] at h
              show _ = _
              rw [HX.out]; exact h.done
            have hbs := hb.size
            have hts := t.lt
            go_wp2_with fail
            go_roundw
            case rel => exact ⟨i + 1, _, by omega, by go_num, hn9.lower (by omega), HI2, t', hbW⟩
            case measure => simp [intOf]; omega
    · have hii : ¬ (i : Int) < (n : Int) := by omega
      have e : sortA (cP ts K) qs = ps := by rw [HS.out, List.take_of_length_le (by rw [hl.out]; omega)]
      have HE := Lib.hid e
      clear e
      go_wp2_with fail
      go_ret
      exact ⟨_, rfl, by rw [HE.out]; exact ho.lower (by omega), hb⟩
end Go.Proofs.YtbfihajgjbpmaaaGreat
