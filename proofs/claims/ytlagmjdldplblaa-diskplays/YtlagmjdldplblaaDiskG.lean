/- Texts that belong together, one behind the other: R8a, R8b, R8c, R8d. -/
import Derived.Test.YtlagmjdldplblaaDiskA
import Derived.Great.Walk
import Derived.Deep.DeepCutAuto
/- The document's own disk (its reference): names in slices; find, without, with, done. -/
namespace Go.Proofs.Ytlagmjdldplblaa
open Go.ChangeShapes Go.WideShapes Go.ChangeAt Go.RowKit
set_option linter.unusedVariables false
set_option maxRecDepth 4000

def nm0 : Nm8 := (⟨#[]⟩, 0)
def ncell (n : Nm8) : List Value := [.string n.1, .int .i64 (n.2 : Int)]
def ncells : List Nm8 → List Value
  | [] => []
  | n :: l => .string n.1 :: .int .i64 (n.2 : Int) :: ncells l
theorem ncells_len : ∀ l, (ncells l).length = l.length * 2
  | [] => rfl
  | n :: l => by simp [ncells, ncells_len l]; omega
theorem ncells_app : ∀ a b, ncells (a ++ b) = ncells a ++ ncells b
  | [], b => rfl
  | n :: a, b => by simp [ncells, ncells_app a b]
theorem ncells_one : ∀ l, ∀ u ∈ ncells l, u.oneCell' = true
  | [], u, h => by cases h
  | n :: l, u, h => by
    simp only [ncells, List.mem_cons] at h
    rcases h with rfl | rfl | h
    · rfl
    · rfl
    · exact ncells_one l u h
theorem ncells_at : ∀ (l : List Nm8) (j : Nat), j < l.length → (ncells l)[j * 2]? = some (.string (l.getD j nm0).1) ∧ (ncells l)[j * 2 + 1]? = some (.int .i64 ((l.getD j nm0).2 : Int))
  | [], j, h => by simp at h
  | n :: l, 0, h => ⟨rfl, rfl⟩
  | n :: l, j + 1, h => by
    have := ncells_at l j (by simpa using h)
    have e : (j + 1) * 2 = j * 2 + 1 + 1 := by omega
    rw [e]
    simpa [ncells] using this
/-- the slice at A of the names l -/
abbrev NV (w : World) (A : Option Addr) (n : Nat) (l : List Nm8) : Prop := SV 2 w A n (ncells l)
theorem NV.len {w : World} {A : Option Addr} {n : Nat} {l : List Nm8} (h : NV w A n l) : l.length = n := by have := h.1; rw [ncells_len] at this; omega
theorem NV.at {w : World} {A : Option Addr} {n : Nat} {l : List Nm8} (h : NV w A n l) (i : Nat) (hi : i < n) :
    ∃ b off, A = some ⟨b, off, none⟩ ∧ w.cell? ⟨b, off + i * 2, none⟩ = some (.string (l.getD i nm0).1) ∧ w.cell? ⟨b, off + i * 2 + 1, none⟩ = some (.int .i64 ((l.getD i nm0).2 : Int)) := by
  have hl := NV.len h
  obtain ⟨h1, h2, h3⟩ := h
  rcases h3 with h3 | ⟨b, off, rfl, hc⟩
  · omega
  · obtain ⟨e1, e2⟩ := ncells_at l i (by omega)
    exact ⟨b, off, rfl, hc _ _ e1, by rw [Nat.add_assoc]; exact hc _ _ e2⟩
theorem drop_nm (l : List Nm8) (j : Nat) (h : j < l.length) : l.drop j = l.getD j nm0 :: l.drop (j + 1) := by
  rw [List.getD_eq_getElem?_getD, List.getElem?_eq_getElem h, Option.getD_some]; exact List.drop_eq_getElem_cons h
theorem take_nm (l : List Nm8) (j : Nat) (h : j < l.length) : l.take (j + 1) = l.take j ++ [l.getD j nm0] := by
  rw [List.take_add_one, List.getElem?_eq_getElem h]; simp [List.getD, List.getElem?_eq_getElem h]
theorem el_names8 : El 73 89 2 24 (.agg #[.string ⟨#[]⟩, .int .i64 0]) := ⟨Try.underlying73, by kernel_rfl, rfl, by omega⟩
def plOf : Option Nat → Int
  | none => -1
  | some f => f
set_option maxHeartbeats 1000000 in
theorem find8_any (A : Option Addr) (n c : Nat) (l : List Nm8) (s : ByteArray) (w : World) (hv : NV w A n l) (hn : n ≤ 1000000) :
    Calls Try.prog 79 #[.slice A n c, .string s] w fun e w' => e = .returned (.int .i64 (plOf (findN l s))) ∧ w' = w := by
  have HL := Lib.hid (NV.len hv)
  go_enter Try.func79, Try.ntmps79
  go_wp2_with fail
  go_loopw [5] (fun i wr => ∃ j : Nat, j ≤ n ∧ i = .int .i64 (j : Int) ∧ Hid (findN l s = findN (l.drop j) s) ∧ wr = w) (fun i _ => n - (intOf i).toNat)
  case atStart => exact ⟨0, by omega, rfl, Lib.hid rfl, rfl⟩
  case round =>
    obtain ⟨j, hj, rfl, HF, rfl⟩ := hrel
    by_cases hlt : j < n
    · obtain ⟨b, off, rfl, e1, e2⟩ := NV.at hv j hlt
      have hji : (j : Int) < (n : Int) := by omega
      have hd := drop_nm l j (by rw [HL.out]; exact hlt)
      generalize l.getD j nm0 = x at *
      obtain ⟨t, f⟩ := x
      simp only at e1 e2
      by_cases hts : t = s
      · subst hts
        have HF2 := Lib.hid (show findN l t = some f by rw [HF.out, hd, findN, if_pos rfl])
        clear hd hv
        go_wp2_with fail
        go_ret
        exact ⟨by rw [HF2.out]; rfl, rfl⟩
      · have hne : (t.toList == s.toList) = false := by rw [beq_eq_false_iff_ne]; exact fun h => hts (toList_inj h)
        have HF2 := Lib.hid (show findN l s = findN (l.drop (j + 1)) s by rw [HF.out, hd, findN, if_neg hts])
        clear hd
        go_wp2_with fail
        go_roundw
        case rel => exact ⟨j + 1, by omega, by go_num, HF2, by trivial⟩
        case measure => simp [intOf]; omega
    · obtain rfl : j = n := by omega
      have HF2 := Lib.hid (show findN l s = none by rw [HF.out, List.drop_of_length_le (by rw [HL.out]; omega)]; rfl)
      go_wp2_with fail
      go_ret
      exact ⟨by rw [HF2.out]; rfl, rfl⟩
theorem two_nm (t : ByteArray) (f : Int) : ∀ u ∈ [Value.string t, .int .i64 f], u.oneCell' = true := by
  intro u hu
  simp only [List.mem_cons, List.not_mem_nil, or_false] at hu
  rcases hu with rfl | rfl <;> rfl
theorem withoutN_app (a b : List Nm8) (s : ByteArray) : withoutN (a ++ b) s = withoutN a s ++ withoutN b s := List.filter_append ..
set_option maxHeartbeats 1000000 in
theorem without8_any (A : Option Addr) (n c : Nat) (l : List Nm8) (s : ByteArray) (w : World) (hv : NV w A n l) (hn : n ≤ 1000000) :
    Calls Try.prog 73 #[.slice A n c, .string s] w fun e w' => ∃ v, e = .returned v ∧ OS 2 w' w.heap.size v (withoutN l s).length (ncells (withoutN l s)) ∧ Below w.heap.size w w' := by
  have HL := Lib.hid (NV.len hv)
  go_enter Try.func73, Try.ntmps73
  go_wp2_with fail
  have o0 : OS 2 (w.alloc (.cells #[] 89)) w.heap.size (.slice (some ⟨w.heap.size, 0, none⟩) 0 0) 0 (ncells []) := OS.lit (k := 2) w w.heap.size (Nat.le_refl _) [] 0 89 rfl (by simp) (by simp) _ rfl
  have hw1 : Below w.heap.size w (w.alloc (.cells #[] 89)) := Joins.below_alloc1 _ _
  go_loopw [5, 6] (fun v i wr => ∃ (j m : Nat) (k : List Nm8), j ≤ n ∧ m ≤ j ∧ i = .int .i64 (j : Int) ∧ Hid (k = withoutN (l.take j) s) ∧ OS 2 wr w.heap.size v m (ncells k) ∧ Below w.heap.size w wr) (fun _ i _ => n - (intOf i).toNat)
  case atStart => exact ⟨0, 0, [], by omega, by omega, rfl, Lib.hid rfl, o0, hw1⟩
  case round =>
    clear o0 hw1
    obtain ⟨j, m, k, hj, hm, rfl, HK, ho, hbel⟩ := hrel
    have hsz := hbel.size
    by_cases hlt : j < n
    · obtain ⟨b, off, rfl, e1, e2⟩ := NV.at hv j hlt
      replace e1 := keepc e1 hbel
      replace e2 := keepc e2 hbel
      have hji : (j : Int) < (n : Int) := by omega
      have ht := take_nm l j (by rw [HL.out]; exact hlt)
      generalize l.getD j nm0 = x at *
      obtain ⟨t, f⟩ := x
      simp only at e1 e2
      by_cases hts : t = s
      · subst hts
        have HK2 := Lib.hid (show k = withoutN (l.take (j + 1)) t by rw [ht, withoutN_app, ← HK.out]; simp [withoutN])
        clear ht
        go_wp2_with fail
        go_roundw
        case rel => exact ⟨j + 1, m, k, by omega, by omega, by go_num, HK2, ho, hbel⟩
        case measure => simp [intOf]; omega
      · have hne : (t.toList == s.toList) = false := by rw [beq_eq_false_iff_ne]; exact fun h => hts (toList_inj h)
        have HK2 := Lib.hid (show k ++ [(t, f)] = withoutN (l.take (j + 1)) s by rw [ht, withoutN_app, ← HK.out]; simp [withoutN, hts])
        clear ht
        go_wp2_with (at_builtin; refine append_os el_names8 rfl (.tmp 21) (.tmp 26) rfl w.heap.size _ m _ rfl (ho.alloc _) _ 1 1 [.string t, .int .i64 (f : Int)] rfl (SV.lit' (k := 2) _ [.string t, .int .i64 (f : Int)] 1 89 rfl (two_nm _ _) _ rfl) (by omega) (by omega) (by rw [heap_alloc]; omega) ?_; intro v2 w2 ho2 hb2)
        go_roundw
        case rel => exact ⟨j + 1, m + 1, k ++ [(t, f)], by omega, by omega, by go_num, HK2, by rw [ncells_app]; exact ho2, (hbel.alloc hsz _).trans hb2⟩
        case measure => simp [intOf]; omega
    · obtain rfl : j = n := by omega
      have HK2 := HK.out
      rw [List.take_of_length_le (by rw [HL.out]; omega)] at HK2
      subst HK2
      have hml : m = (withoutN l s).length := by have := ho.1; rw [ncells_len] at this; omega
      subst hml
      go_wp2_with fail
      go_ret
      exact ⟨_, rfl, ho, hbel⟩
/-- with, at work: what is out, what the rest is -/
structure WithI (W : World) (H2 : Nat) (wr : World) (A2 : Option Addr) (N : Nat) (R : List Nm8) (s : ByteArray) (f : Nat) (v : Value) (m : Nat) (k : List Nm8) : Prop where
  out : OS 2 wr (W.heap.size + 1) v m (ncells k)
  own : ∀ b, v.ownBlock = some b → b < W.heap.size + 2 ∨ H2 ≤ b
  d0 : wr.cell? ⟨W.heap.size, 0, none⟩ = some (.string s)
  d1 : wr.cell? ⟨W.heap.size, 1, none⟩ = some (.int .i64 (f : Int))
  rest : SV 2 wr A2 N (ncells R)
  lo : ∀ y, A2 = some y → W.heap.size + 2 ≤ y.block ∧ y.block < H2
  size : H2 ≤ wr.heap.size
  two : W.heap.size + 2 ≤ H2
  bel : Below W.heap.size W wr
section
variable {W : World} {H2 : Nat} {wr w' wa : World} {A2 : Option Addr} {N : Nat} {R : List Nm8} {s : ByteArray} {f : Nat} {v v' : Value} {m : Nat} {k : List Nm8}
theorem WithI.drew (h : WithI W H2 wr A2 N R s f v m k) : WithI W H2 wr.drew A2 N R s f v m k := ⟨h.out.drew, h.own, h.d0, h.d1, h.rest.drew, h.lo, h.size, h.two, h.bel.drew⟩
theorem WithI.alloc (h : WithI W H2 wr A2 N R s f v m k) (o : Obj) : WithI W H2 (wr.alloc o) A2 N R s f v m k :=
  ⟨h.out.alloc o, h.own, cell_alloc _ _ h.d0, cell_alloc _ _ h.d1, h.rest.alloc o, h.lo, by have := h.size; rw [heap_alloc]; omega, h.two, h.bel.alloc (by have := h.size; have := h.two; omega) o⟩
theorem WithI.room (h : WithI W H2 wr A2 N R s f v m k) : W.heap.size + 1 ≤ wr.heap.size := by have := h.size; have := h.two; omega
theorem WithI.app (h : WithI W H2 wr A2 N R s f v m k) {t : ByteArray} {g : Nat}
    (h1 : OS 2 w' (W.heap.size + 1) v' (m + 1) (ncells k ++ [.string t, .int .i64 (g : Int)])) (hb : Below (W.heap.size + 1) wr w') (ob : v'.ownBlock = v.ownBlock ∨ v'.ownBlock = some wr.heap.size)
    (hk : ∀ b, b < wr.heap.size → v.ownBlock ≠ some b → w'.heap[b]? = wr.heap[b]?) : WithI W H2 w' A2 N R s f v' (m + 1) (k ++ [(t, g)]) := by
  have hs := h.size
  have ht := h.two
  refine ⟨by rw [ncells_app]; exact h1, ?_, ?_, ?_, ?_, h.lo, ?_, ht, h.bel.trans (hb.mono (by omega))⟩
  · intro b hb2
    rcases ob with ob | ob
    · exact h.own b (ob ▸ hb2)
    · rw [ob] at hb2; cases hb2; right; omega
  · rw [hb.cell (p := ⟨W.heap.size, 0, none⟩) (by simp)]; exact h.d0
  · rw [hb.cell (p := ⟨W.heap.size, 1, none⟩) (by simp)]; exact h.d1
  · refine SV.other h.rest (fun x hx hl => hk x.block hl (fun e => ?_))
    have l1 := h.lo x hx
    have l2 := h.own _ e
    omega
  · have := hb.size; omega
end
/-- what comes behind what is out -/
def midN (n : Nm8) (put : Bool) (r : List Nm8) : List Nm8 := if put = true then r else insN n r
set_option maxHeartbeats 2000000 in
theorem with8_any (A : Option Addr) (n c : Nat) (l : List Nm8) (s : ByteArray) (f : Nat) (w : World) (hv : NV w A n l) (hn : n ≤ 100000) :
    Calls Try.prog 74 #[.slice A n c, .agg #[.string s, .int .i64 (f : Int)]] w fun e w' => ∃ v, e = .returned v ∧ OS 2 w' w.heap.size v (withN l (s, f)).length (ncells (withN l (s, f))) ∧ Below w.heap.size w w' := by
  go_enter Try.func74, Try.ntmps74
  have hB : Bk (w.alloc (.cells #[.string s, .int .i64 (f : Int)] 89)) w.heap.size #[.string s, .int .i64 (f : Int)] 89 := Bk.new w _ _
  have d0 := (hB.alloc (.cells #[] 89)).cell 0 (v := .string s) rfl
  have hd1 := (hB.alloc (.cells #[] 89)).cell 1 (v := .int .i64 (f : Int)) rfl
  have hbw : Below w.heap.size w ((w.alloc (.cells #[.string s, .int .i64 (f : Int)] 89)).alloc (.cells #[] 89)) := (Joins.below_alloc1 _ _).alloc (by simp) _
  have o0 : OS 2 ((w.alloc (.cells #[.string s, .int .i64 (f : Int)] 89)).alloc (.cells #[] 89)) (w.heap.size + 1) (.slice (some ⟨(w.alloc (.cells #[.string s, .int .i64 (f : Int)] 89)).heap.size, 0, none⟩) 0 0) 0 (ncells []) := OS.lit (k := 2) _ (w.heap.size + 1) (by simp) [] 0 89 rfl (by simp) (by simp) _ rfl
  have hH := Lib.hid (And.intro o0 (And.intro hbw (And.intro d0 (And.intro hd1 (hv.below hbw)))))
  clear o0 hbw hB hd1
  go_wp2_with fail
  refine (without8_any A n c l s _ hH.out.2.2.2.2 (by omega)).mono ?_
  rintro e w2 ⟨v, rfl, hr, hb2⟩
  have hl2 : (withoutN l s).length ≤ n := by rw [← NV.len hv]; exact withoutN_len l s
  have hsz1 : ((w.alloc (.cells #[.string s, .int .i64 (f : Int)] 89)).alloc (.cells #[] 89)).heap.size = w.heap.size + 2 := by simp
  have hbel := hH.out.2.1.trans (hb2.mono hH.out.2.1.size)
  have hp1 : (Value.slice (some ⟨(w.alloc (.cells #[.string s, .int .i64 (f : Int)] 89)).heap.size, 0, none⟩) 0 0) = .slice (some ⟨w.heap.size + 1, 0, none⟩) 0 0 := by simp
  have ho := hH.out.1.below hb2
  rw [hp1] at ho
  have hs2 := hb2.size
  obtain ⟨A2, C2, rfl, -, hc2, hrv, hlow, -⟩ := hr.sv
  have hI := Lib.hid (WithI.mk (H2 := w2.heap.size) (W := w) ho (fun b hb => by cases hb; left; exact Nat.lt_succ_self _) (keepc hH.out.2.2.1 hb2) (keepc hH.out.2.2.2.1 hb2) hrv (fun y hy => ⟨by have := hlow y hy; omega, by subst hy; exact (hr.lower (Nat.zero_le _)).low0 rfl⟩) (Nat.le_refl _) (by omega) hbel)
  have HW := Lib.hid (show withN l (s, f) = [] ++ midN (s, f) false ((withoutN l s).drop 0) from rfl)
  obtain ⟨T, hT⟩ : ∃ T, withN l (s, f) = T := ⟨_, rfl⟩
  rw [hT] at HW
  have HT := Lib.hid hT
  clear hT
  generalize withoutN l s = R at *
  have hN : R.length = R.length := rfl
  generalize hNe : R.length = N at *
  have HN := Lib.hid hNe
  clear hH hb2 hr hlow hsz1 hv hN hp1 d0 ho hs2 hrv hNe
  go_wp2_with fail
  go_loopw [5, 7, 8] (fun v p i wr => ∃ (j m : Nat) (k : List Nm8) (put : Bool), j ≤ N ∧ m ≤ 2 * j ∧ i = .int .i64 (j : Int) ∧ p = .bool put ∧ Hid (T = k ++ midN (s, f) put (R.drop j)) ∧ Hid (WithI w w2.heap.size wr A2 N R s f v m k)) (fun _ _ i _ => N - (intOf i).toNat)
  case atStart => exact ⟨0, 0, [], false, by omega, by omega, rfl, rfl, HW, hI⟩
  case round =>
    clear hbel hI HW
    obtain ⟨j, m, k, put, hj, hm, rfl, rfl, HW, hI⟩ := hrel
    have d0 := hI.out.d0
    have d1 := hI.out.d1
    obtain ⟨A1, C1, rfl⟩ := hI.out.out.shape
    by_cases hlt : j < N
    · obtain ⟨b, off, rfl, e1, e2⟩ := NV.at hI.out.rest j hlt
      have hji : (j : Int) < (N : Int) := by omega
      have hd := drop_nm R j (by rw [HN.out]; exact hlt)
      obtain ⟨x, hx⟩ : ∃ x, R.getD j nm0 = x := ⟨_, rfl⟩
      rw [hx] at e1 e2 hd
      obtain ⟨t, g⟩ := x
      have HG := Lib.hid hx
      clear hx
      simp only at e1 e2
      cases put with
      | true =>
        have HW2 := Lib.hid (show T = (k ++ [(t, g)]) ++ midN (s, f) true (R.drop (j + 1)) by rw [HW.out, hd]; simp [midN])
        clear hd HW
        go_wp2_with fail
        refine wp_region_noPanic ?_
        refine region_g 12 (Ext (World.drew _)) (by kernel_rfl) (Ext.refl _) (fun hS => ?_)
        refine take_w (i := 0) (v := ?_) (some 20) rfl (by kernel_rfl) rfl (fun _ _ _ h => h) (Or.inl ⟨by rfl, ?_⟩) hS ?_
        rotate_left
        · (intro wq hq; go_simp); first | done | with_reducible rfl
        try simp only [Act.put, List.setIfInBounds_toArray, List.set_cons_zero, List.set_cons_succ]
        replace hS := Till.list 0 hS
        refine take_w (i := 1) (v := ?_) (some 21) rfl (by kernel_rfl) rfl (fun _ _ _ h => h) (Or.inl ⟨by rfl, ?_⟩) hS ?_
        rotate_left
        · (intro wq hq; go_simp); first | done | with_reducible rfl
        try simp only [Act.put, List.setIfInBounds_toArray, List.set_cons_zero, List.set_cons_succ]
        replace hS := Till.list 1 hS
        refine take_w (i := 2) (v := ?_) (some 22) rfl (by kernel_rfl) rfl (fun _ _ _ h => h) (Or.inl ⟨by rfl, ?_⟩) hS ?_
        rotate_left
        · (intro wq hq; go_simp); first | done | with_reducible rfl
        try simp only [Act.put, List.setIfInBounds_toArray, List.set_cons_zero, List.set_cons_succ]
        replace hS := Till.list 2 hS
        refine take_w (i := 3) (v := undef) (some 23) rfl (by kernel_rfl) rfl (fun _ _ _ h => h) (Or.inr ⟨by rfl, rfl⟩) hS ?_
        try simp only [Act.put, List.setIfInBounds_toArray, List.set_cons_zero, List.set_cons_succ]
        replace hS := Till.list 3 hS
        refine take_w (i := 5) (v := undef) (some 25) rfl (by kernel_rfl) rfl (fun _ _ _ h => h) (Or.inr ⟨by rfl, rfl⟩) hS ?_
        try simp only [Act.put, List.setIfInBounds_toArray, List.set_cons_zero, List.set_cons_succ]
        replace hS := Till.list 5 hS
        refine take_w (i := 6) (v := undef) (some 26) rfl (by kernel_rfl) rfl (fun _ _ _ h => h) (Or.inr ⟨by rfl, rfl⟩) hS ?_
        try simp only [Act.put, List.setIfInBounds_toArray, List.set_cons_zero, List.set_cons_succ]
        replace hS := Till.list 6 hS
        refine take_w (i := 4) (v := undef) (some 24) rfl (by kernel_rfl) rfl (fun _ _ _ h => h) (Or.inr ⟨by rfl, rfl⟩) hS ?_
        try simp only [Act.put, List.setIfInBounds_toArray, List.set_cons_zero, List.set_cons_succ]
        replace hS := Till.list 4 hS
        refine take_w (i := 7) (v := undef) (some 27) rfl (by kernel_rfl) rfl (fun _ _ _ h => h) (Or.inr ⟨by rfl, rfl⟩) hS ?_
        try simp only [Act.put, List.setIfInBounds_toArray, List.set_cons_zero, List.set_cons_succ]
        replace hS := Till.list 7 hS
        refine take_w (i := 8) (v := undef) (some 28) rfl (by kernel_rfl) rfl (fun _ _ _ h => h) (Or.inr ⟨by rfl, rfl⟩) hS ?_
        try simp only [Act.put, List.setIfInBounds_toArray, List.set_cons_zero, List.set_cons_succ]
        replace hS := Till.list 8 hS
        refine take_w (i := 9) (v := undef) (some 29) rfl (by kernel_rfl) rfl (fun _ _ _ h => h) (Or.inr ⟨by rfl, rfl⟩) hS ?_
        try simp only [Act.put, List.setIfInBounds_toArray, List.set_cons_zero, List.set_cons_succ]
        replace hS := Till.list 9 hS
        refine take_w (i := 10) (v := undef) (some 30) rfl (by kernel_rfl) rfl (fun _ _ _ h => h) (Or.inr ⟨by rfl, rfl⟩) hS ?_
        try simp only [Act.put, List.setIfInBounds_toArray, List.set_cons_zero, List.set_cons_succ]
        replace hS := Till.list 10 hS
        refine take_w (i := 11) (v := ?_) (some 31) rfl (by kernel_rfl) rfl (fun _ _ _ h => h) (Or.inl ⟨by rfl, ?_⟩) hS ?_
        rotate_left
        · (intro wq hq; go_simp); first | done | with_reducible rfl
        try simp only [Act.put, List.setIfInBounds_toArray, List.set_cons_zero, List.set_cons_succ]
        replace hS := Till.list 11 hS
        refine done_g (by kernel_rfl) (NoPanic.normal ?_) _
        clear hS
        go_wp2_with (at_builtin; first | (have hI2 := Lib.hid (hI.out.alloc (.cells #[.string t, .int .i64 (g : Int)] 89)); refine append_os2 el_names8 rfl (.tmp 36) (.tmp 41) rfl (w.heap.size + 1) _ m _ rfl hI2.out.out _ 1 1 [.string t, .int .i64 (g : Int)] rfl (SV.lit' (k := 2) _ [.string t, .int .i64 (g : Int)] 1 89 rfl (two_nm _ _) _ rfl) (by omega) (by omega) hI2.out.room ?_; intro v3 w3 ho3 hb3 ob3 hk3; have hI3 := Lib.hid (hI2.out.app ho3 hb3 ob3 hk3); obtain ⟨A3, C3, rfl⟩ := ho3.shape; clear ho3 hb3 ob3 hk3 hI2) | (have hI2 := Lib.hid (hI.out.drew.alloc (.cells #[.string t, .int .i64 (g : Int)] 89)); refine append_os2 el_names8 rfl (.tmp 36) (.tmp 41) rfl (w.heap.size + 1) _ m _ rfl hI2.out.out _ 1 1 [.string t, .int .i64 (g : Int)] rfl (SV.lit' (k := 2) _ [.string t, .int .i64 (g : Int)] 1 89 rfl (two_nm _ _) _ rfl) (by omega) (by omega) hI2.out.room ?_; intro v3 w3 ho3 hb3 ob3 hk3; have hI3 := Lib.hid (hI2.out.app ho3 hb3 ob3 hk3); obtain ⟨A3, C3, rfl⟩ := ho3.shape; clear ho3 hb3 ob3 hk3 hI2))
        go_roundw
        case rel => exact ⟨j + 1, m + 1, _, true, by omega, by omega, by go_num, rfl, HW2, hI3⟩
        case measure => simp [intOf]; omega
      | false =>
        by_cases hls : ltN s t = true
        · have hlb : Op.bytesLess s.toList t.toList = true := by rw [ByteArray.toList_eq, ByteArray.toList_eq]; exact hls
          have HW2 := Lib.hid (show T = ((k ++ [(s, f)]) ++ [(t, g)]) ++ midN (s, f) true (R.drop (j + 1)) by rw [HW.out, hd]; simp [midN, insN, hls])
          clear hd HW
          go_wp2_with fail
          refine wp_region_noPanic ?_
          refine region_g 12 (Ext (World.drew _)) (by kernel_rfl) (Ext.refl _) (fun hS => ?_)
          refine take_w (i := 0) (v := ?_) (some 20) rfl (by kernel_rfl) rfl (fun _ _ _ h => h) (Or.inl ⟨by rfl, ?_⟩) hS ?_
          rotate_left
          · (intro wq hq; go_simp); first | done | with_reducible rfl
          try simp only [Act.put, List.setIfInBounds_toArray, List.set_cons_zero, List.set_cons_succ]
          replace hS := Till.list 0 hS
          refine take_w (i := 1) (v := ?_) (some 21) rfl (by kernel_rfl) rfl (fun _ _ _ h => h) (Or.inl ⟨by rfl, ?_⟩) hS ?_
          rotate_left
          · (intro wq hq; go_simp); first | done | with_reducible rfl
          try simp only [Act.put, List.setIfInBounds_toArray, List.set_cons_zero, List.set_cons_succ]
          replace hS := Till.list 1 hS
          refine take_w (i := 2) (v := ?_) (some 22) rfl (by kernel_rfl) rfl (fun _ _ _ h => h) (Or.inl ⟨by rfl, ?_⟩) hS ?_
          rotate_left
          · (intro wq hq; go_simp); first | done | with_reducible rfl
          try simp only [Act.put, List.setIfInBounds_toArray, List.set_cons_zero, List.set_cons_succ]
          replace hS := Till.list 2 hS
          refine take_w (i := 3) (v := ?_) (some 23) rfl (by kernel_rfl) rfl (fun _ _ _ h => h) (Or.inl ⟨by rfl, ?_⟩) hS ?_
          rotate_left
          · (intro wq hq; go_simp); first | done | with_reducible rfl
          try simp only [Act.put, List.setIfInBounds_toArray, List.set_cons_zero, List.set_cons_succ]
          replace hS := Till.list 3 hS
          refine take_w (i := 5) (v := ?_) (some 25) rfl (by kernel_rfl) rfl (fun _ _ _ h => h) (Or.inl ⟨by rfl, ?_⟩) hS ?_
          rotate_left
          · (intro wq hq; go_simp); first | done | with_reducible rfl
          try simp only [Act.put, List.setIfInBounds_toArray, List.set_cons_zero, List.set_cons_succ]
          replace hS := Till.list 5 hS
          refine take_w (i := 6) (v := ?_) (some 26) rfl (by kernel_rfl) rfl (fun _ _ _ h => h) (Or.inl ⟨by rfl, ?_⟩) hS ?_
          rotate_left
          · (intro wq hq; go_simp); first | done | with_reducible rfl
          try simp only [Act.put, List.setIfInBounds_toArray, List.set_cons_zero, List.set_cons_succ]
          replace hS := Till.list 6 hS
          refine take_n (i := 4) (v := ?_) (some 24) rfl (by kernel_rfl) rfl (fun _ _ _ h => h) (Or.inl ⟨by rfl, ?_⟩) hS ?_
          rotate_left
          · (intro wq hq; have q0 := hq _ _ _ d0; have q1 := hq _ _ _ e1; go_simp); first | done | with_reducible rfl
          try simp only [Act.put, List.setIfInBounds_toArray, List.set_cons_zero, List.set_cons_succ]
          replace hS := Till.list 4 hS
          refine take_w (i := 7) (v := ?_) (some 27) rfl (by kernel_rfl) rfl (fun _ _ _ h => h) (Or.inl ⟨by rfl, ?_⟩) hS ?_
          rotate_left
          · (intro wq hq; go_simp); first | done | with_reducible rfl
          try simp only [Act.put, List.setIfInBounds_toArray, List.set_cons_zero, List.set_cons_succ]
          replace hS := Till.list 7 hS
          refine take_w (i := 8) (v := ?_) (some 28) rfl (by kernel_rfl) rfl (fun _ _ _ h => h) (Or.inl ⟨by rfl, ?_⟩) hS ?_
          rotate_left
          · (intro wq hq; go_simp); first | done | with_reducible rfl
          try simp only [Act.put, List.setIfInBounds_toArray, List.set_cons_zero, List.set_cons_succ]
          replace hS := Till.list 8 hS
          refine take_n (i := 9) (v := ?_) (some 29) rfl (by kernel_rfl) rfl (fun _ _ _ h => h) (Or.inl ⟨by rfl, ?_⟩) hS ?_
          rotate_left
          · (intro wq hq; have q0 := hq _ _ _ d0; have q1 := hq _ _ _ e1; go_simp); first | done | with_reducible rfl
          try simp only [Act.put, List.setIfInBounds_toArray, List.set_cons_zero, List.set_cons_succ]
          replace hS := Till.list 9 hS
          refine take_w (i := 10) (v := ?_) (some 30) rfl (by kernel_rfl) rfl (fun _ _ _ h => h) (Or.inl ⟨by rfl, ?_⟩) hS ?_
          rotate_left
          · (intro wq hq; go_simp); first | done | with_reducible rfl
          try simp only [Act.put, List.setIfInBounds_toArray, List.set_cons_zero, List.set_cons_succ]
          replace hS := Till.list 10 hS
          refine take_w (i := 11) (v := ?_) (some 31) rfl (by kernel_rfl) rfl (fun _ _ _ h => h) (Or.inl ⟨by rfl, ?_⟩) hS ?_
          rotate_left
          · (intro wq hq; go_simp); first | done | with_reducible rfl
          try simp only [Act.put, List.setIfInBounds_toArray, List.set_cons_zero, List.set_cons_succ]
          replace hS := Till.list 11 hS
          refine done_g (by kernel_rfl) (NoPanic.normal ?_) _
          clear hS
          go_wp2_with (at_builtin; first | (have hI2 := Lib.hid (hI.out.alloc (.cells #[.string s, .int .i64 (f : Int)] 89)); refine append_os2 el_names8 rfl (.tmp 32) (.tmp 34) rfl (w.heap.size + 1) _ m _ rfl hI2.out.out _ 1 1 [.string s, .int .i64 (f : Int)] rfl (SV.lit' (k := 2) _ [.string s, .int .i64 (f : Int)] 1 89 rfl (two_nm _ _) _ rfl) (by omega) (by omega) hI2.out.room ?_; intro v3 w3 ho3 hb3 ob3 hk3; have hI3 := Lib.hid (hI2.out.app ho3 hb3 ob3 hk3); obtain ⟨A3, C3, rfl⟩ := ho3.shape; obtain ⟨b5, off5, hb5, p1, p2⟩ := NV.at hI3.out.rest j hlt; cases hb5; rw [HG.out] at p1 p2; simp only at p1 p2; clear ho3 hb3 ob3 hk3 hI2) | (have hI2 := Lib.hid (hI.out.drew.alloc (.cells #[.string s, .int .i64 (f : Int)] 89)); refine append_os2 el_names8 rfl (.tmp 32) (.tmp 34) rfl (w.heap.size + 1) _ m _ rfl hI2.out.out _ 1 1 [.string s, .int .i64 (f : Int)] rfl (SV.lit' (k := 2) _ [.string s, .int .i64 (f : Int)] 1 89 rfl (two_nm _ _) _ rfl) (by omega) (by omega) hI2.out.room ?_; intro v3 w3 ho3 hb3 ob3 hk3; have hI3 := Lib.hid (hI2.out.app ho3 hb3 ob3 hk3); obtain ⟨A3, C3, rfl⟩ := ho3.shape; obtain ⟨b5, off5, hb5, p1, p2⟩ := NV.at hI3.out.rest j hlt; cases hb5; rw [HG.out] at p1 p2; simp only at p1 p2; clear ho3 hb3 ob3 hk3 hI2) | (have hI2 := Lib.hid (hI3.out.alloc (.cells #[.string t, .int .i64 (g : Int)] 89)); refine append_os2 el_names8 rfl (.tmp 36) (.tmp 41) rfl (w.heap.size + 1) _ (m + 1) _ rfl hI2.out.out _ 1 1 [.string t, .int .i64 (g : Int)] rfl (SV.lit' (k := 2) _ [.string t, .int .i64 (g : Int)] 1 89 rfl (two_nm _ _) _ rfl) (by omega) (by omega) hI2.out.room ?_; intro v4 w4 ho4 hb4 ob4 hk4; have hI4 := Lib.hid (hI2.out.app ho4 hb4 ob4 hk4); obtain ⟨A4, C4, rfl⟩ := ho4.shape; clear ho4 hb4 ob4 hk4 hI2))
          go_roundw
          case rel => exact ⟨j + 1, m + 1 + 1, _, true, by omega, by omega, by go_num, rfl, HW2, hI4⟩
          case measure => simp [intOf]; omega
        · have hlb : Op.bytesLess s.toList t.toList = false := by rw [ByteArray.toList_eq, ByteArray.toList_eq]; exact Bool.eq_false_iff.2 hls
          have HW2 := Lib.hid (show T = (k ++ [(t, g)]) ++ midN (s, f) false (R.drop (j + 1)) by rw [HW.out, hd]; simp [midN, insN, hls])
          clear hd HW
          go_wp2_with fail
          refine wp_region_noPanic ?_
          refine region_g 12 (Ext (World.drew _)) (by kernel_rfl) (Ext.refl _) (fun hS => ?_)
          refine take_w (i := 0) (v := ?_) (some 20) rfl (by kernel_rfl) rfl (fun _ _ _ h => h) (Or.inl ⟨by rfl, ?_⟩) hS ?_
          rotate_left
          · (intro wq hq; go_simp); first | done | with_reducible rfl
          try simp only [Act.put, List.setIfInBounds_toArray, List.set_cons_zero, List.set_cons_succ]
          replace hS := Till.list 0 hS
          refine take_w (i := 1) (v := ?_) (some 21) rfl (by kernel_rfl) rfl (fun _ _ _ h => h) (Or.inl ⟨by rfl, ?_⟩) hS ?_
          rotate_left
          · (intro wq hq; go_simp); first | done | with_reducible rfl
          try simp only [Act.put, List.setIfInBounds_toArray, List.set_cons_zero, List.set_cons_succ]
          replace hS := Till.list 1 hS
          refine take_w (i := 2) (v := ?_) (some 22) rfl (by kernel_rfl) rfl (fun _ _ _ h => h) (Or.inl ⟨by rfl, ?_⟩) hS ?_
          rotate_left
          · (intro wq hq; go_simp); first | done | with_reducible rfl
          try simp only [Act.put, List.setIfInBounds_toArray, List.set_cons_zero, List.set_cons_succ]
          replace hS := Till.list 2 hS
          refine take_w (i := 3) (v := ?_) (some 23) rfl (by kernel_rfl) rfl (fun _ _ _ h => h) (Or.inl ⟨by rfl, ?_⟩) hS ?_
          rotate_left
          · (intro wq hq; go_simp); first | done | with_reducible rfl
          try simp only [Act.put, List.setIfInBounds_toArray, List.set_cons_zero, List.set_cons_succ]
          replace hS := Till.list 3 hS
          refine take_w (i := 5) (v := ?_) (some 25) rfl (by kernel_rfl) rfl (fun _ _ _ h => h) (Or.inl ⟨by rfl, ?_⟩) hS ?_
          rotate_left
          · (intro wq hq; go_simp); first | done | with_reducible rfl
          try simp only [Act.put, List.setIfInBounds_toArray, List.set_cons_zero, List.set_cons_succ]
          replace hS := Till.list 5 hS
          refine take_w (i := 6) (v := ?_) (some 26) rfl (by kernel_rfl) rfl (fun _ _ _ h => h) (Or.inl ⟨by rfl, ?_⟩) hS ?_
          rotate_left
          · (intro wq hq; go_simp); first | done | with_reducible rfl
          try simp only [Act.put, List.setIfInBounds_toArray, List.set_cons_zero, List.set_cons_succ]
          replace hS := Till.list 6 hS
          refine take_n (i := 4) (v := ?_) (some 24) rfl (by kernel_rfl) rfl (fun _ _ _ h => h) (Or.inl ⟨by rfl, ?_⟩) hS ?_
          rotate_left
          · (intro wq hq; have q0 := hq _ _ _ d0; have q1 := hq _ _ _ e1; go_simp); first | done | with_reducible rfl
          try simp only [Act.put, List.setIfInBounds_toArray, List.set_cons_zero, List.set_cons_succ]
          replace hS := Till.list 4 hS
          refine take_w (i := 7) (v := ?_) (some 27) rfl (by kernel_rfl) rfl (fun _ _ _ h => h) (Or.inl ⟨by rfl, ?_⟩) hS ?_
          rotate_left
          · (intro wq hq; go_simp); first | done | with_reducible rfl
          try simp only [Act.put, List.setIfInBounds_toArray, List.set_cons_zero, List.set_cons_succ]
          replace hS := Till.list 7 hS
          refine take_w (i := 8) (v := ?_) (some 28) rfl (by kernel_rfl) rfl (fun _ _ _ h => h) (Or.inl ⟨by rfl, ?_⟩) hS ?_
          rotate_left
          · (intro wq hq; go_simp); first | done | with_reducible rfl
          try simp only [Act.put, List.setIfInBounds_toArray, List.set_cons_zero, List.set_cons_succ]
          replace hS := Till.list 8 hS
          refine take_n (i := 9) (v := ?_) (some 29) rfl (by kernel_rfl) rfl (fun _ _ _ h => h) (Or.inl ⟨by rfl, ?_⟩) hS ?_
          rotate_left
          · (intro wq hq; have q0 := hq _ _ _ d0; have q1 := hq _ _ _ e1; go_simp); first | done | with_reducible rfl
          try simp only [Act.put, List.setIfInBounds_toArray, List.set_cons_zero, List.set_cons_succ]
          replace hS := Till.list 9 hS
          refine take_w (i := 10) (v := ?_) (some 30) rfl (by kernel_rfl) rfl (fun _ _ _ h => h) (Or.inl ⟨by rfl, ?_⟩) hS ?_
          rotate_left
          · (intro wq hq; go_simp); first | done | with_reducible rfl
          try simp only [Act.put, List.setIfInBounds_toArray, List.set_cons_zero, List.set_cons_succ]
          replace hS := Till.list 10 hS
          refine take_w (i := 11) (v := ?_) (some 31) rfl (by kernel_rfl) rfl (fun _ _ _ h => h) (Or.inl ⟨by rfl, ?_⟩) hS ?_
          rotate_left
          · (intro wq hq; go_simp); first | done | with_reducible rfl
          try simp only [Act.put, List.setIfInBounds_toArray, List.set_cons_zero, List.set_cons_succ]
          replace hS := Till.list 11 hS
          refine done_g (by kernel_rfl) (NoPanic.normal ?_) _
          clear hS
          go_wp2_with (at_builtin; first | (have hI2 := Lib.hid (hI.out.alloc (.cells #[.string t, .int .i64 (g : Int)] 89)); refine append_os2 el_names8 rfl (.tmp 36) (.tmp 41) rfl (w.heap.size + 1) _ m _ rfl hI2.out.out _ 1 1 [.string t, .int .i64 (g : Int)] rfl (SV.lit' (k := 2) _ [.string t, .int .i64 (g : Int)] 1 89 rfl (two_nm _ _) _ rfl) (by omega) (by omega) hI2.out.room ?_; intro v3 w3 ho3 hb3 ob3 hk3; have hI3 := Lib.hid (hI2.out.app ho3 hb3 ob3 hk3); obtain ⟨A3, C3, rfl⟩ := ho3.shape; clear ho3 hb3 ob3 hk3 hI2) | (have hI2 := Lib.hid (hI.out.drew.alloc (.cells #[.string t, .int .i64 (g : Int)] 89)); refine append_os2 el_names8 rfl (.tmp 36) (.tmp 41) rfl (w.heap.size + 1) _ m _ rfl hI2.out.out _ 1 1 [.string t, .int .i64 (g : Int)] rfl (SV.lit' (k := 2) _ [.string t, .int .i64 (g : Int)] 1 89 rfl (two_nm _ _) _ rfl) (by omega) (by omega) hI2.out.room ?_; intro v3 w3 ho3 hb3 ob3 hk3; have hI3 := Lib.hid (hI2.out.app ho3 hb3 ob3 hk3); obtain ⟨A3, C3, rfl⟩ := ho3.shape; clear ho3 hb3 ob3 hk3 hI2))
          go_roundw
          case rel => exact ⟨j + 1, m + 1, _, false, by omega, by omega, by go_num, rfl, HW2, hI3⟩
          case measure => simp [intOf]; omega
    · obtain rfl : j = N := by omega
      have hd : R.drop j = [] := List.drop_of_length_le (by rw [HN.out]; omega)
      cases put with
      | true =>
        have HW2 := Lib.hid (show T = k by rw [HW.out, hd]; simp [midN])
        clear hd HW
        go_wp2_with fail
        go_ret
        obtain rfl := HW2.out
        have hml : m = T.length := by have := hI.out.out.1; rw [ncells_len] at this; omega
        exact ⟨_, rfl, by rw [HT.out, ← hml]; exact hI.out.out.lower (by omega), hI.out.bel⟩
      | false =>
        have HW2 := Lib.hid (show T = k ++ [(s, f)] by rw [HW.out, hd]; simp [midN, insN])
        clear hd HW
        go_wp2_with (at_builtin; first | (have hI2 := Lib.hid (hI.out.alloc (.cells #[.string s, .int .i64 (f : Int)] 89)); refine append_os2 el_names8 rfl (.tmp 45) (.tmp 47) rfl (w.heap.size + 1) _ m _ rfl hI2.out.out _ 1 1 [.string s, .int .i64 (f : Int)] rfl (SV.lit' (k := 2) _ [.string s, .int .i64 (f : Int)] 1 89 rfl (two_nm _ _) _ rfl) (by omega) (by omega) hI2.out.room ?_; intro v3 w3 ho3 hb3 ob3 hk3; have hI3 := Lib.hid (hI2.out.app ho3 hb3 ob3 hk3); obtain ⟨A3, C3, rfl⟩ := ho3.shape; clear ho3 hb3 ob3 hk3 hI2) | (have hI2 := Lib.hid (hI.out.drew.alloc (.cells #[.string s, .int .i64 (f : Int)] 89)); refine append_os2 el_names8 rfl (.tmp 45) (.tmp 47) rfl (w.heap.size + 1) _ m _ rfl hI2.out.out _ 1 1 [.string s, .int .i64 (f : Int)] rfl (SV.lit' (k := 2) _ [.string s, .int .i64 (f : Int)] 1 89 rfl (two_nm _ _) _ rfl) (by omega) (by omega) hI2.out.room ?_; intro v3 w3 ho3 hb3 ob3 hk3; have hI3 := Lib.hid (hI2.out.app ho3 hb3 ob3 hk3); obtain ⟨A3, C3, rfl⟩ := ho3.shape; clear ho3 hb3 ob3 hk3 hI2))
        go_ret
        have hml : m + 1 = T.length := by have := hI3.out.out.1; rw [ncells_len, ← HW2.out] at this; omega
        exact ⟨_, rfl, by rw [HT.out, ← hml, HW2.out]; exact hI3.out.out.lower (by omega), hI3.out.bel⟩
end Go.Proofs.Ytlagmjdldplblaa
/- The document's own disk: its memory, which none else writes; done, step, New, Fail, Limit. -/
namespace Go.Proofs.Ytlagmjdldplblaa
open Go.ChangeShapes Go.WideShapes Go.ChangeAt Go.RowKit
set_option linter.unusedVariables false
set_option maxRecDepth 4000

/-- what became of names, as it is laid: from, its place, to, its place -/
structure RC8 where
  fs : ByteArray
  ff : Nat
  ts : ByteArray
  tf : Nat
def rch (c : RC8) : Ch8 := ⟨if c.fs = noN then none else some c.fs, if c.ts = noN then none else some (c.ts, c.tf)⟩
def ccell (c : RC8) : List Value := [.string c.fs, .int .i64 (c.ff : Int), .string c.ts, .int .i64 (c.tf : Int)]
def ccells : List RC8 → List Value
  | [] => []
  | c :: l => .string c.fs :: .int .i64 (c.ff : Int) :: .string c.ts :: .int .i64 (c.tf : Int) :: ccells l
def rc0 : RC8 := ⟨⟨#[]⟩, 0, ⟨#[]⟩, 0⟩
theorem ccells_len : ∀ l, (ccells l).length = l.length * 4
  | [] => rfl
  | c :: l => by simp [ccells, ccells_len l]; omega
theorem ccells_app : ∀ a b, ccells (a ++ b) = ccells a ++ ccells b
  | [], b => rfl
  | n :: a, b => by simp [ccells, ccells_app a b]
theorem four_c (s t : ByteArray) (f g : Int) : ∀ u ∈ [Value.string s, .int .i64 f, .string t, .int .i64 g], u.oneCell' = true := by
  intro u hu
  simp only [List.mem_cons, List.not_mem_nil, or_false] at hu
  rcases hu with rfl | rfl | rfl | rfl <;> rfl
theorem ccells_at : ∀ (l : List RC8) (j : Nat), j < l.length → (ccells l)[j * 4]? = some (.string (l.getD j rc0).fs) ∧ (ccells l)[j * 4 + 1]? = some (.int .i64 ((l.getD j rc0).ff : Int)) ∧ (ccells l)[j * 4 + 2]? = some (.string (l.getD j rc0).ts) ∧ (ccells l)[j * 4 + 3]? = some (.int .i64 ((l.getD j rc0).tf : Int))
  | [], j, h => by simp at h
  | n :: l, 0, h => ⟨rfl, rfl, rfl, rfl⟩
  | n :: l, j + 1, h => by
    have := ccells_at l j (by simpa using h)
    have e : (j + 1) * 4 = j * 4 + 1 + 1 + 1 + 1 := by omega
    have e2 : (j + 1) * 4 + 1 = j * 4 + 1 + 1 + 1 + 1 + 1 := by omega
    have e3 : (j + 1) * 4 + 2 = j * 4 + 2 + 1 + 1 + 1 + 1 := by omega
    have e4 : (j + 1) * 4 + 3 = j * 4 + 3 + 1 + 1 + 1 + 1 := by omega
    rw [e2, e3, e4, e]
    simpa [ccells] using this
theorem el_chs8 : El 74 91 4 48 (.agg #[.string ⟨#[]⟩, .int .i64 0, .string ⟨#[]⟩, .int .i64 0]) := ⟨Try.underlying74, by kernel_rfl, rfl, by omega⟩
/-- names that are told: those that were, or new ones -/
def NOut (w w' : World) (A : Option Addr) (e : Ending) (l : List Nm8) : Prop :=
  ∃ A' n' c', e = .returned (.slice A' n' c') ∧ n' ≤ c' ∧ NV w' A' n' l ∧ (∀ y, A' = some y → A = some y ∨ (w.heap.size ≤ y.block ∧ y.block < w'.heap.size)) ∧ Below w.heap.size w w'
theorem OS.nout {w w' : World} {A : Option Addr} {v : Value} {n b : Nat} {l : List Nm8} (h : OS 2 w' b v n (ncells l)) (hb : w.heap.size ≤ b) (hbel : Below w.heap.size w w') : NOut w w' A (.returned v) l := by
  obtain ⟨A', c', rfl, h1, -, h3, h4, -⟩ := h.sv
  exact ⟨A', n, c', rfl, h1, h3, fun y hy => .inr ⟨Nat.le_trans hb (h4 y hy), by subst hy; exact (h.lower (Nat.zero_le _)).low0 rfl⟩, hbel⟩
set_option maxHeartbeats 1000000 in
theorem done8_any (A : Option Addr) (n c : Nat) (l : List Nm8) (x : RC8) (w : World) (hv : NV w A n l) (hn : n ≤ 90000) (hnc : n ≤ c) :
    Calls Try.prog 42 #[.slice A n c, .agg #[.string x.fs, .int .i64 (x.ff : Int), .string x.ts, .int .i64 (x.tf : Int)]] w fun e w' => NOut w w' A e (doneN l (rch x)) := by
  have hB := Bk.new w #[.string x.fs, .int .i64 (x.ff : Int), .string x.ts, .int .i64 (x.tf : Int)] 91
  have hbw : Below w.heap.size w (w.alloc (.cells #[.string x.fs, .int .i64 (x.ff : Int), .string x.ts, .int .i64 (x.tf : Int)] 91)) := Joins.below_alloc1 _ _
  have hv1 := hv.below hbw
  have d0 := hB.cell 0 (v := .string x.fs) rfl
  have d2 := hB.cell 2 (v := .string x.ts) rfl
  have d3 := hB.cell 3 (v := .int .i64 (x.tf : Int)) rfl
  have hsz : w.heap.size ≤ (w.alloc (.cells #[.string x.fs, .int .i64 (x.ff : Int), .string x.ts, .int .i64 (x.tf : Int)] 91)).heap.size := by simp
  have hg : goneN l (rch x).frm = if x.fs = noN then l else withoutN l x.fs := by unfold rch; by_cases h : x.fs = noN <;> simp [h, goneN]
  have hp : ∀ k, putN k (Ch8.to (rch x)) = if x.ts = noN then k else withN k (x.ts, x.tf) := fun k => by unfold rch; by_cases h : x.ts = noN <;> simp [h, putN]
  have HD := Lib.hid (show doneN l (rch x) = if x.ts = noN then (if x.fs = noN then l else withoutN l x.fs) else withN (if x.fs = noN then l else withoutN l x.fs) (x.ts, x.tf) by unfold doneN; rw [hg, hp])
  clear hB hg hp
  obtain ⟨fs, ff, ts, tf⟩ := x
  simp only at *
  have HL := Lib.hid (NV.len hv)
  go_enter Try.func42, Try.ntmps42
  by_cases hf : fs = noN
  · have hse : fs.toList.isEmpty = true := by rw [hf, ByteArray.toList_eq]; rfl
    have HF := Lib.hid hf
    clear hf
    by_cases ht : ts = noN
    · have hst : ts.toList.isEmpty = true := by rw [ht, ByteArray.toList_eq]; rfl
      have HT := Lib.hid ht
      clear ht
      go_wp2_with fail
      go_ret
      rw [HD.out, if_pos HT.out, if_pos HF.out]
      exact ⟨A, n, c, rfl, hnc, hv1, fun y hy => .inl hy, hbw⟩
    · have hst : ts.toList.isEmpty = false := by
        rw [List.isEmpty_eq_false_iff]; exact fun e => ht (toList_inj (e.trans (by rw [ByteArray.toList_eq])))
      go_wp2_with fail
      refine (with8_any A n c l ts tf _ hv1 (by omega)).mono ?_
      rintro e w2 ⟨v, rfl, ho, hb⟩
      go_wp2_with fail
      go_ret
      rw [HD.out, if_neg ht, if_pos HF.out]
      exact ho.nout hsz (hbw.trans (hb.mono hsz))
  · have hse : fs.toList.isEmpty = false := by
      rw [List.isEmpty_eq_false_iff]; exact fun e => hf (toList_inj (e.trans (by rw [ByteArray.toList_eq])))
    go_wp2_with fail
    refine (without8_any A n c l fs _ hv1 (by omega)).mono ?_
    rintro e w2 ⟨v, rfl, ho, hb⟩
    replace d2 := keepc d2 hb
    replace d3 := keepc d3 hb
    replace hbw := hbw.trans (hb.mono hsz)
    have hlen : (withoutN l fs).length ≤ n := by rw [← HL.out]; exact withoutN_len l fs
    by_cases ht : ts = noN
    · have hst : ts.toList.isEmpty = true := by rw [ht, ByteArray.toList_eq]; rfl
      have HT := Lib.hid ht
      clear ht
      go_wp2_with fail
      go_ret
      rw [HD.out, if_pos HT.out, if_neg hf]
      exact ho.nout hsz hbw
    · have hst : ts.toList.isEmpty = false := by
        rw [List.isEmpty_eq_false_iff]; exact fun e => ht (toList_inj (e.trans (by rw [ByteArray.toList_eq])))
      obtain ⟨A2, c2, rfl, -, -, hv2, -, -⟩ := ho.sv
      go_wp2_with fail
      refine (with8_any A2 _ c2 (withoutN l fs) ts tf _ hv2 (by omega)).mono ?_
      rintro e w3 ⟨v, rfl, ho3, hb3⟩
      go_wp2_with fail
      go_ret
      rw [HD.out, if_neg ht, if_neg hf]
      exact ho3.nout hbw.size (Below.trans hbw (hb3.mono hbw.size))
/-- a slice that is left as it is, in blocks of I -/
def RSl (I : Nat → Prop) (k : Nat) (w : World) (v : Value) (n : Nat) (cs : List Value) : Prop := ∃ A c, v = .slice A n c ∧ n ≤ c ∧ SV k w A n cs ∧ ∀ y, A = some y → I y.block
theorem RSl.kp {I I' F : Nat → Prop} {k : Nat} {w w' : World} {v : Value} {n : Nat} {cs : List Value} (h : RSl I k w v n cs) (hk : Kp F w w') (hF : ∀ b, I b → ¬ F b) (hI : ∀ b, I b → I' b) : RSl I' k w' v n cs := by
  obtain ⟨A, c, rfl, h1, h2, h3⟩ := h
  exact ⟨A, c, rfl, h1, h2.other (fun x hx hl => hk.block x.block hl (hF _ (h3 x hx))), fun y hy => hI _ (h3 y hy)⟩
theorem RSl.of_os {I : Nat → Prop} {k b : Nat} {w : World} {v : Value} {n : Nat} {cs : List Value} (h : OS k w b v n cs) (hI : ∀ x, b ≤ x → x < w.heap.size → I x) : RSl I k w v n cs := by
  obtain ⟨A, c, rfl, h1, -, h3, h4, -⟩ := h.sv
  exact ⟨A, c, rfl, h1, h3, fun y hy => hI _ (h4 y hy) (by subst hy; exact (h.lower (Nat.zero_le _)).low0 rfl)⟩
theorem RSl.nil (I : Nat → Prop) (k : Nat) (w : World) : RSl I k w (.slice none 0 0) 0 [] := ⟨none, 0, rfl, Nat.le_refl _, SV.zero w none, fun y hy => by cases hy⟩
/-- bytes that are left as they are -/
def RB (I : Nat → Prop) (w : World) (v : Value) (bs : List Int) : Prop := ∃ A n c, v = .slice A n c ∧ n ≤ c ∧ BV w A n bs ∧ ∀ y, A = some y → I y.block
theorem RB.kp {I I' F : Nat → Prop} {w w' : World} {v : Value} {bs : List Int} (h : RB I w v bs) (hk : Kp F w w') (hF : ∀ b, I b → ¬ F b) (hI : ∀ b, I b → I' b) : RB I' w' v bs := by
  obtain ⟨A, n, c, rfl, h1, h2, h3⟩ := h
  exact ⟨A, n, c, rfl, h1, h2.other (fun x hx hl => hk.block x.block hl (hF _ (h3 x hx))), fun y hy => hI _ (h3 y hy)⟩
abbrev PF8 := Value × Fl8
def pcells : List PF8 → List Value
  | [] => []
  | p :: l => p.1 :: .int .i64 (p.2.2 : Int) :: pcells l
def pf0 : PF8 := (.slice none 0 0, ([], 0))
theorem pcells_len : ∀ l, (pcells l).length = l.length * 2
  | [] => rfl
  | n :: l => by simp [pcells, pcells_len l]; omega
theorem pcells_app : ∀ a b, pcells (a ++ b) = pcells a ++ pcells b
  | [], b => rfl
  | n :: a, b => by simp [pcells, pcells_app a b]
theorem pcells_at : ∀ (l : List PF8) (j : Nat), j < l.length → (pcells l)[j * 2]? = some (l.getD j pf0).1 ∧ (pcells l)[j * 2 + 1]? = some (.int .i64 ((l.getD j pf0).2.2 : Int))
  | [], j, h => by simp at h
  | n :: l, 0, h => ⟨rfl, rfl⟩
  | n :: l, j + 1, h => by
    have := pcells_at l j (by simpa using h)
    have e : (j + 1) * 2 = j * 2 + 1 + 1 := by omega
    rw [e]
    simpa [pcells] using this
theorem pcells_set : ∀ (l : List PF8) (j : Nat) (p : PF8), j < l.length → ((pcells l).set (j * 2) p.1).set (j * 2 + 1) (.int .i64 (p.2.2 : Int)) = pcells (l.set j p)
  | [], j, p, h => by simp at h
  | n :: l, 0, p, h => rfl
  | n :: l, j + 1, p, h => by
    have := pcells_set l j p (by simpa using h)
    have e : (j + 1) * 2 = j * 2 + 1 + 1 := by omega
    rw [e]
    simpa [pcells] using this
theorem el_files8 : El 72 93 2 32 (.agg #[.slice none 0 0, .int .i64 0]) := ⟨Try.underlying72, by kernel_rfl, rfl, by omega⟩
def RFs (I : Nat → Prop) (w : World) (v : Value) (l : List Fl8) : Prop := ∃ ps : List PF8, l = ps.map Prod.snd ∧ RSl I 2 w v ps.length (pcells ps) ∧ ∀ p ∈ ps, RB I w p.1 p.2.1
def RCs (I : Nat → Prop) (w : World) (v : Value) (l : List Ch8) : Prop := ∃ rc : List RC8, l = rc.map rch ∧ RSl I 4 w v rc.length (ccells rc)
def dR (M : DK) (vF vN vK vC vX : Value) : Array Value := #[.int .i64 M.quota, .int .i64 (M.taken : Int), vF, vN, vK, vC, vX, .bool M.limit.isSome, .bool M.dead, .int .i64 ((M.limit.getD 0 : Nat) : Int)]
/-- what is of I, but y -/
abbrev Jn (I : Nat → Prop) (y : Nat) : Nat → Prop := fun b => I b ∧ b ≠ y
/-- the document's own disk at y is M, in blocks of I -/
structure RP (w : World) (I : Nat → Prop) (y : Nat) (M : DK) (vF vN vK vC vX : Value) : Prop where
  blk : Bk w y (dR M vF vN vK vC vX) 76
  foot : I y
  files : RFs (Jn I y) w vF M.files
  names : RSl (Jn I y) 2 w vN M.names.length (ncells M.names)
  kept : RSl (Jn I y) 2 w vK M.kept.length (ncells M.kept)
  chs : RCs (Jn I y) w vC M.chs
  fails : RSl (Jn I y) 1 w vX M.fails.length (icells M.fails)
  few : M.fails.length ≤ 1000
def RD (w : World) (I : Nat → Prop) (y : Nat) (M : DK) : Prop := ∃ vF vN vK vC vX, RP w I y M vF vN vK vC vX
section
variable {I I' F : Nat → Prop} {w w' : World} {y : Nat} {M : DK} {vF vN vK vC vX v : Value}
theorem RFs.kp {l : List Fl8} (h : RFs I w v l) (hk : Kp F w w') (hF : ∀ b, I b → ¬ F b) (hI : ∀ b, I b → I' b) : RFs I' w' v l := by
  obtain ⟨ps, h1, h2, h3⟩ := h
  exact ⟨ps, h1, h2.kp hk hF hI, fun p hp => (h3 p hp).kp hk hF hI⟩
theorem RCs.kp {l : List Ch8} (h : RCs I w v l) (hk : Kp F w w') (hF : ∀ b, I b → ¬ F b) (hI : ∀ b, I b → I' b) : RCs I' w' v l := by
  obtain ⟨ps, h1, h2⟩ := h
  exact ⟨ps, h1, h2.kp hk hF hI⟩
/-- others are at work -/
theorem RP.kp (h : RP w I y M vF vN vK vC vX) (hk : Kp F w w') (hF : ∀ b, I b → ¬ F b) (hI : ∀ b, I b → I' b) : RP w' I' y M vF vN vK vC vX :=
  have hj : ∀ b, Jn I y b → ¬ F b := fun b hb => hF b hb.1
  have hi : ∀ b, Jn I y b → Jn I' y b := fun b hb => ⟨hI b hb.1, hb.2⟩
  ⟨(hk.block y h.blk.lt (hF _ h.foot)).trans h.blk, hI _ h.foot, h.files.kp hk hj hi, h.names.kp hk hj hi, h.kept.kp hk hj hi, h.chs.kp hk hj hi, h.fails.kp hk hj hi, h.few⟩
theorem RD.kp (h : RD w I y M) (hk : Kp F w w') (hF : ∀ b, I b → ¬ F b) (hI : ∀ b, I b → I' b) : RD w' I' y M := by
  obtain ⟨vF, vN, vK, vC, vX, h⟩ := h
  exact ⟨vF, vN, vK, vC, vX, h.kp hk hF hI⟩
/-- only its own block turns: slices stay -/
theorem RP.own (h : RP w I y M vF vN vK vC vX) (hk : Kp (fun b => b = y) w w') (hI : ∀ b, I b → I' b) :
    RFs (Jn I' y) w' vF M.files ∧ RSl (Jn I' y) 2 w' vN M.names.length (ncells M.names) ∧ RSl (Jn I' y) 2 w' vK M.kept.length (ncells M.kept) ∧ RCs (Jn I' y) w' vC M.chs ∧ RSl (Jn I' y) 1 w' vX M.fails.length (icells M.fails) :=
  have hj : ∀ b, Jn I y b → ¬ (fun b => b = y) b := fun b hb => hb.2
  have hi : ∀ b, Jn I y b → Jn I' y b := fun b hb => ⟨hI b hb.1, hb.2⟩
  ⟨h.files.kp hk hj hi, h.names.kp hk hj hi, h.kept.kp hk hj hi, h.chs.kp hk hj hi, h.fails.kp hk hj hi⟩
theorem RP.hdr (h : RP w I y M vF vN vK vC vX) {M' : DK} (hk : Kp (fun b => b = y) w w') (hb : Bk w' y (dR M' vF vN vK vC vX) 76) (hf : M'.files = M.files) (hn : M'.names = M.names) (hkp : M'.kept = M.kept) (hc : M'.chs = M.chs) (hx : M'.fails = M.fails) : RP w' I y M' vF vN vK vC vX := by
  obtain ⟨h1, h2, h3, h4, h5⟩ := h.own hk (fun b hb => hb)
  exact ⟨hb, h.foot, by rw [hf]; exact h1, by rw [hn]; exact h2, by rw [hkp]; exact h3, by rw [hc]; exact h4, by rw [hx]; exact h5, by rw [hx]; exact h.few⟩
end
end Go.Proofs.Ytlagmjdldplblaa
/- Contracts of the document's own disk: New, Fail, Limit, step. -/
namespace Go.Proofs.Ytlagmjdldplblaa
open Go.ChangeShapes Go.WideShapes Go.ChangeAt Go.RowKit
set_option linter.unusedVariables false
set_option maxRecDepth 4000

theorem el_ints8 : El 29 3 1 8 (.int .i64 0) := ⟨Try.underlying29, by kernel_rfl, rfl, by omega⟩
section
variable {I : Nat → Prop} {w w' : World} {y : Nat} {M : DK} {vF vN vK vC vX : Value}
theorem RSl.fresh {k : Nat} {v : Value} {n : Nat} {cs : List Value} (h : OS k w' w.heap.size v n cs) (hy : y < w.heap.size) : RSl (Jn (AndNew I w w') y) k w' v n cs :=
  RSl.of_os h (fun x h1 h2 => ⟨.inr ⟨h1, h2⟩, by omega⟩)
theorem kp_set {w2 : World} (hb : Below w.heap.size w w2) (i : Nat) (u : Value) : Kp (fun b => b = y) w (w2.setCell ⟨y, i, none⟩ u) := (Kp.of_new (F := fun b => b = y) hb).setCell (.inl rfl) _
theorem RP.still (h : RP w I y M vF vN vK vC vX) (hb : Below w.heap.size w w') : RP w' I y M vF vN vK vC vX := h.kp (Kp.of_new (F := fun _ => False) hb) (fun _ _ h => h) (fun _ h => h)
theorem RD.still (h : RD w I y M) (hb : Below w.heap.size w w') : RD w' I y M := h.kp (Kp.of_new (F := fun _ => False) hb) (fun _ _ h => h) (fun _ h => h)
set_option maxHeartbeats 1000000 in
theorem rnew_any (q : Int) (w : World) (I : Nat → Prop) : Calls Try.prog 11 #[.int .i64 q] w fun e w' => ∃ y, e = .returned (.pointer (some ⟨y, 0, none⟩)) ∧ RD w' (AndNew I w w') y (newD q) ∧ w.heap.size ≤ y ∧ Below w.heap.size w w' := by
  go_enter Try.func11, Try.ntmps11
  go_wp2_with fail
  go_ret
  refine ⟨w.heap.size, rfl, ⟨.slice none 0 0, .slice none 0 0, .slice none 0 0, .slice none 0 0, .slice none 0 0, ?_⟩, Nat.le_refl _, Joins.below_alloc1 _ _⟩
  exact ⟨Bk.new w _ _, .inr ⟨Nat.le_refl _, by simp⟩, ⟨[], rfl, RSl.nil _ _ _, fun p hp => by cases hp⟩, RSl.nil _ _ _, RSl.nil _ _ _, ⟨[], rfl, RSl.nil _ _ _⟩, RSl.nil _ _ _, Nat.zero_le _⟩
set_option maxHeartbeats 1000000 in
theorem rlimit_any (h : RD w I y M) (n : Int) : Calls Try.prog 22 #[.pointer (some ⟨y, 0, none⟩), .int .i64 n] w fun e w' => e = .returned (.tuple #[]) ∧ RD w' I y (limitD M n) ∧ Kp (fun b => b = y) w w' := by
  obtain ⟨vF, vN, vK, vC, vX, h⟩ := h
  have hB := h.blk
  have f7 := h.blk.free 7
  have f9 := (h.blk.set 7 (.bool true)).free 9
  have c7 := h.blk.cell 7 (v := .bool M.limit.isSome) rfl
  have c9 := (h.blk.set 7 (.bool true)).cell 9 (v := .int .i64 ((M.limit.getD 0 : Nat) : Int)) rfl
  have HH := Lib.hid h
  clear h
  go_enter Try.func22, Try.ntmps22
  go_wp2_with fail
  (try simp only [Exit.inBlock, Exit.then])
  refine Great.bodyPost_end0 rfl rfl ?_
  have hk : Kp (fun b => b = y) w ((w.setCell ⟨y, 7, none⟩ (.bool true)).setCell ⟨y, 9, none⟩ (.int .i64 (max n 0))) := (kp_set (Below.refl _ _) 7 _).setCell (.inl rfl) _
  refine ⟨rfl, ⟨vF, vN, vK, vC, vX, HH.out.hdr hk ?_ rfl rfl rfl rfl rfl⟩, hk⟩
  have hm : ((max n 0).toNat : Int) = max n 0 := by omega
  have := (hB.set 7 (.bool true)).set 9 (.int .i64 (max n 0))
  rw [← hm] at this ⊢
  exact this
set_option maxHeartbeats 1000000 in
theorem rfail_any (h : RD w I y M) (A : Option Addr) (n c : Nat) (ts : List Int) (hv : IV w A n ts) (hn : n ≤ 1000) : Calls Try.prog 20 #[.pointer (some ⟨y, 0, none⟩), .slice A n c] w fun e w' => e = .returned (.tuple #[]) ∧ RD w' (AndNew I w w') y (failD M ts) ∧ Kp (fun b => b = y) w w' := by
  obtain ⟨vF, vN, vK, vC, vX, h⟩ := h
  have hlt := h.blk.lt
  have HL := Lib.hid (IV.len hv)
  have hb1 : Below w.heap.size w (w.alloc (.cells #[] 3)) := Joins.below_alloc1 _ _
  have o0 : OS 1 (w.alloc (.cells #[] 3)) w.heap.size (.slice (some ⟨w.heap.size, 0, none⟩) 0 0) 0 [] := OS.lit (k := 1) w w.heap.size (Nat.le_refl _) [] 0 3 rfl (by simp) (by simp) _ rfl
  have hv1 := SV.below hv hb1
  have HH := Lib.hid h
  clear h hv
  go_enter Try.func20, Try.ntmps20
  go_wp2_with (at_builtin; refine append_os el_ints8 rfl (.tmp 5) (.tmp 6) rfl w.heap.size _ 0 [] rfl o0 A n c (icells ts) rfl hv1 (by omega) (by omega) hb1.size ?_; intro v2 w2 ho2 hb2; rw [Nat.zero_add, List.nil_append] at ho2; obtain ⟨A2, C2, rfl⟩ := ho2.shape; have hb3 := hb1.trans hb2; have hB := HH.out.blk.below hb3; have f6 := hB.free 6; have c6 := hB.cell 6 (v := vX) rfl; clear o0 hv1 hb1 hb2)
  (try simp only [Exit.inBlock, Exit.then])
  refine Great.bodyPost_end0 rfl rfl ?_
  have hk : Kp (fun b => b = y) w (w2.setCell ⟨y, 6, none⟩ (.slice A2 n C2)) := kp_set hb3 6 _
  obtain ⟨h1, h2, h3, h4, h5⟩ := HH.out.own (I' := AndNew I w (w2.setCell ⟨y, 6, none⟩ (.slice A2 n C2))) hk (fun b hb => .inl hb)
  refine ⟨rfl, ⟨vF, vN, vK, vC, .slice A2 n C2, ⟨hB.set 6 _, .inl HH.out.foot, h1, h2, h3, h4, ?_, ?_⟩⟩, hk⟩
  · have h6 := RSl.fresh (I := I) (w := w) (ho2.set (i := 6) hlt (.slice A2 n C2)) hlt
    have e : (failD M ts).fails.length = n := HL.out
    rw [e]
    exact h6
  · show ts.length ≤ 1000
    rw [HL.out]; exact hn
theorem stepD_dead' {M : DK} (h : M.dead = true ∨ ∃ n, M.limit = some n ∧ n ≤ M.taken) : stepD M = ({ M with dead := true }, 34) := by unfold stepD; rw [if_pos h]
theorem stepD_go {M : DK} (h1 : M.dead = false) (h2 : ∀ n, M.limit = some n → ¬ n ≤ M.taken) : stepD M = ({ M with taken := M.taken + 1 }, if ((M.taken + 1 : Nat) : Int) ∈ M.fails then 33 else 0) := by
  unfold stepD
  rw [if_neg]
  rintro (h | ⟨n, hn, hl⟩)
  · rw [h1] at h; cases h
  · exact h2 n hn hl
theorem RP.died (h : RP w I y M vF vN vK vC vX) : RP (w.setCell ⟨y, 8, none⟩ (.bool true)) I y { M with dead := true } vF vN vK vC vX :=
  h.hdr (kp_set (Below.refl _ _) 8 _) (h.blk.set 8 (.bool true)) rfl rfl rfl rfl rfl
set_option maxHeartbeats 2000000 in
theorem rstep_any (h : RP w I y M vF vN vK vC vX) (hk : M.taken ≤ 1000000) : Calls Try.prog 78 #[.pointer (some ⟨y, 0, none⟩)] w fun e w' => e = .returned (.int .i64 (stepD M).2) ∧ RP w' I y (stepD M).1 vF vN vK vC vX ∧ Kp (fun b => b = y) w w' := by
  have c1 := h.blk.cell 1 (v := .int .i64 (M.taken : Int)) rfl
  have c8 := h.blk.cell 8 (v := .bool M.dead) rfl
  obtain ⟨A, C, rfl, -, -, -⟩ := h.fails
  obtain ⟨N, hN⟩ : ∃ N, M.fails.length = N := ⟨_, rfl⟩
  rw [hN] at h
  have hN1 : N ≤ 1000 := by rw [← hN]; exact h.few
  have HN := Lib.hid hN
  have HH := Lib.hid h
  rw [hN]
  clear h hN
  go_enter Try.func78, Try.ntmps78
  go_wp2_with fail
  by_cases hdead : M.dead = true
  · rw [hdead] at c8
    refine wp_region_noPanic ?_
    refine region_g 21 (Ext (World.drew _)) (by kernel_rfl) (Ext.refl _) (fun hS => ?_)
    refine take_w (i := 0) (v := ?_) (some 4) rfl (by kernel_rfl) rfl (fun _ _ _ h => h) (Or.inl ⟨by rfl, ?_⟩) hS ?_
    rotate_left
    · (intro wq hq; go_simp); first | done | with_reducible rfl
    try simp only [Act.put, List.setIfInBounds_toArray, List.set_cons_zero, List.set_cons_succ]
    replace hS := Till.list 0 hS
    refine take_w (i := 1) (v := ?_) (some 5) rfl (by kernel_rfl) rfl (fun _ _ _ h => h) (Or.inl ⟨by rfl, ?_⟩) hS ?_
    rotate_left
    · (intro wq hq; go_simp); first | done | with_reducible rfl
    try simp only [Act.put, List.setIfInBounds_toArray, List.set_cons_zero, List.set_cons_succ]
    replace hS := Till.list 1 hS
    refine take_w (i := 2) (v := ?_) (some 6) rfl (by kernel_rfl) rfl (fun _ _ _ h => h) (Or.inl ⟨by rfl, ?_⟩) hS ?_
    rotate_left
    · (intro wq hq; go_simp); first | done | with_reducible rfl
    try simp only [Act.put, List.setIfInBounds_toArray, List.set_cons_zero, List.set_cons_succ]
    replace hS := Till.list 2 hS
    refine take_n (i := 3) (v := ?_) (some 7) rfl (by kernel_rfl) rfl (fun _ _ _ h => h) (Or.inl ⟨by rfl, ?_⟩) hS ?_
    rotate_left
    · (intro wq hq; have q0 := hq _ _ _ c8; go_simp); first | done | with_reducible rfl
    try simp only [Act.put, List.setIfInBounds_toArray, List.set_cons_zero, List.set_cons_succ]
    replace hS := Till.list 3 hS
    refine take_w (i := 4) (v := ?_) (some 8) rfl (by kernel_rfl) rfl (fun _ _ _ h => h) (Or.inl ⟨by rfl, ?_⟩) hS ?_
    rotate_left
    · (intro wq hq; go_simp); first | done | with_reducible rfl
    try simp only [Act.put, List.setIfInBounds_toArray, List.set_cons_zero, List.set_cons_succ]
    replace hS := Till.list 4 hS
    refine take_w (i := 5) (v := undef) (some 9) rfl (by kernel_rfl) rfl (fun _ _ _ h => h) (Or.inr ⟨by rfl, rfl⟩) hS ?_
    try simp only [Act.put, List.setIfInBounds_toArray, List.set_cons_zero, List.set_cons_succ]
    replace hS := Till.list 5 hS
    refine take_w (i := 6) (v := undef) (some 10) rfl (by kernel_rfl) rfl (fun _ _ _ h => h) (Or.inr ⟨by rfl, rfl⟩) hS ?_
    try simp only [Act.put, List.setIfInBounds_toArray, List.set_cons_zero, List.set_cons_succ]
    replace hS := Till.list 6 hS
    refine take_w (i := 7) (v := undef) (some 11) rfl (by kernel_rfl) rfl (fun _ _ _ h => h) (Or.inr ⟨by rfl, rfl⟩) hS ?_
    try simp only [Act.put, List.setIfInBounds_toArray, List.set_cons_zero, List.set_cons_succ]
    replace hS := Till.list 7 hS
    refine take_w (i := 8) (v := undef) (some 12) rfl (by kernel_rfl) rfl (fun _ _ _ h => h) (Or.inr ⟨by rfl, rfl⟩) hS ?_
    try simp only [Act.put, List.setIfInBounds_toArray, List.set_cons_zero, List.set_cons_succ]
    replace hS := Till.list 8 hS
    refine take_w (i := 9) (v := undef) (some 13) rfl (by kernel_rfl) rfl (fun _ _ _ h => h) (Or.inr ⟨by rfl, rfl⟩) hS ?_
    try simp only [Act.put, List.setIfInBounds_toArray, List.set_cons_zero, List.set_cons_succ]
    replace hS := Till.list 9 hS
    refine take_w (i := 10) (v := undef) (some 14) rfl (by kernel_rfl) rfl (fun _ _ _ h => h) (Or.inr ⟨by rfl, rfl⟩) hS ?_
    try simp only [Act.put, List.setIfInBounds_toArray, List.set_cons_zero, List.set_cons_succ]
    replace hS := Till.list 10 hS
    refine take_w (i := 14) (v := undef) (some 18) rfl (by kernel_rfl) rfl (fun _ _ _ h => h) (Or.inr ⟨by rfl, rfl⟩) hS ?_
    try simp only [Act.put, List.setIfInBounds_toArray, List.set_cons_zero, List.set_cons_succ]
    replace hS := Till.list 14 hS
    refine take_w (i := 11) (v := undef) (some 15) rfl (by kernel_rfl) rfl (fun _ _ _ h => h) (Or.inr ⟨by rfl, rfl⟩) hS ?_
    try simp only [Act.put, List.setIfInBounds_toArray, List.set_cons_zero, List.set_cons_succ]
    replace hS := Till.list 11 hS
    refine take_w (i := 15) (v := undef) (some 19) rfl (by kernel_rfl) rfl (fun _ _ _ h => h) (Or.inr ⟨by rfl, rfl⟩) hS ?_
    try simp only [Act.put, List.setIfInBounds_toArray, List.set_cons_zero, List.set_cons_succ]
    replace hS := Till.list 15 hS
    refine take_w (i := 12) (v := undef) (some 16) rfl (by kernel_rfl) rfl (fun _ _ _ h => h) (Or.inr ⟨by rfl, rfl⟩) hS ?_
    try simp only [Act.put, List.setIfInBounds_toArray, List.set_cons_zero, List.set_cons_succ]
    replace hS := Till.list 12 hS
    refine take_w (i := 16) (v := undef) (some 20) rfl (by kernel_rfl) rfl (fun _ _ _ h => h) (Or.inr ⟨by rfl, rfl⟩) hS ?_
    try simp only [Act.put, List.setIfInBounds_toArray, List.set_cons_zero, List.set_cons_succ]
    replace hS := Till.list 16 hS
    refine take_w (i := 13) (v := undef) (some 17) rfl (by kernel_rfl) rfl (fun _ _ _ h => h) (Or.inr ⟨by rfl, rfl⟩) hS ?_
    try simp only [Act.put, List.setIfInBounds_toArray, List.set_cons_zero, List.set_cons_succ]
    replace hS := Till.list 13 hS
    refine take_w (i := 17) (v := undef) (some 21) rfl (by kernel_rfl) rfl (fun _ _ _ h => h) (Or.inr ⟨by rfl, rfl⟩) hS ?_
    try simp only [Act.put, List.setIfInBounds_toArray, List.set_cons_zero, List.set_cons_succ]
    replace hS := Till.list 17 hS
    refine take_w (i := 18) (v := undef) (some 22) rfl (by kernel_rfl) rfl (fun _ _ _ h => h) (Or.inr ⟨by rfl, rfl⟩) hS ?_
    try simp only [Act.put, List.setIfInBounds_toArray, List.set_cons_zero, List.set_cons_succ]
    replace hS := Till.list 18 hS
    refine take_w (i := 19) (v := undef) (some 23) rfl (by kernel_rfl) rfl (fun _ _ _ h => h) (Or.inr ⟨by rfl, rfl⟩) hS ?_
    try simp only [Act.put, List.setIfInBounds_toArray, List.set_cons_zero, List.set_cons_succ]
    replace hS := Till.list 19 hS
    refine take_w (i := 20) (v := ?_) (some 24) rfl (by kernel_rfl) rfl (fun _ _ _ h => h) (Or.inl ⟨by rfl, ?_⟩) hS ?_
    rotate_left
    · (intro wq hq; go_simp); first | done | with_reducible rfl
    try simp only [Act.put, List.setIfInBounds_toArray, List.set_cons_zero, List.set_cons_succ]
    replace hS := Till.list 20 hS
    refine done_g (by kernel_rfl) (NoPanic.normal ?_) _
    clear hS
    rw [← hdead] at c8
    have HS := Lib.hid (stepD_dead' (M := M) (.inl hdead))
    have f8 := HH.out.blk.free 8
    go_wp2_with fail
    go_ret
    exact ⟨by rw [HS.out]; rfl, by rw [HS.out]; exact HH.out.died.still ((Below.refl _ _).drew), (kp_set (Below.refl _ _) 8 _).drew⟩
  · have hdead' : M.dead = false := by simpa using hdead
    clear hdead
    rw [hdead'] at c8
    by_cases hl : M.limit.isSome = true
    · have c7 := HH.out.blk.cell 7 (v := .bool M.limit.isSome) rfl
      rw [hl] at c7
      obtain ⟨n, hn⟩ := Option.isSome_iff_exists.1 hl
      have c9 := HH.out.blk.cell 9 (v := .int .i64 ((M.limit.getD 0 : Nat) : Int)) rfl
      rw [hn] at c9
      simp only [Option.getD_some] at c9
      by_cases hle : n ≤ M.taken
      · have hD : decide ((n : Int) ≤ (M.taken : Int)) = true := by simpa using hle
        have hD2 : decide (n ≤ M.taken) = true := by simpa using hle
        refine wp_region_noPanic ?_
        refine region_g 21 (Ext (World.drew _)) (by kernel_rfl) (Ext.refl _) (fun hS => ?_)
        refine take_w (i := 0) (v := ?_) (some 4) rfl (by kernel_rfl) rfl (fun _ _ _ h => h) (Or.inl ⟨by rfl, ?_⟩) hS ?_
        rotate_left
        · (intro wq hq; go_simp); first | done | with_reducible rfl
        try simp only [Act.put, List.setIfInBounds_toArray, List.set_cons_zero, List.set_cons_succ]
        replace hS := Till.list 0 hS
        refine take_w (i := 1) (v := ?_) (some 5) rfl (by kernel_rfl) rfl (fun _ _ _ h => h) (Or.inl ⟨by rfl, ?_⟩) hS ?_
        rotate_left
        · (intro wq hq; go_simp); first | done | with_reducible rfl
        try simp only [Act.put, List.setIfInBounds_toArray, List.set_cons_zero, List.set_cons_succ]
        replace hS := Till.list 1 hS
        refine take_w (i := 2) (v := ?_) (some 6) rfl (by kernel_rfl) rfl (fun _ _ _ h => h) (Or.inl ⟨by rfl, ?_⟩) hS ?_
        rotate_left
        · (intro wq hq; go_simp); first | done | with_reducible rfl
        try simp only [Act.put, List.setIfInBounds_toArray, List.set_cons_zero, List.set_cons_succ]
        replace hS := Till.list 2 hS
        refine take_n (i := 3) (v := ?_) (some 7) rfl (by kernel_rfl) rfl (fun _ _ _ h => h) (Or.inl ⟨by rfl, ?_⟩) hS ?_
        rotate_left
        · (intro wq hq; have q0 := hq _ _ _ c8; have q1 := hq _ _ _ c7; have q2 := hq _ _ _ c1; have q3 := hq _ _ _ c9; go_simp); first | done | with_reducible rfl
        try simp only [Act.put, List.setIfInBounds_toArray, List.set_cons_zero, List.set_cons_succ]
        replace hS := Till.list 3 hS
        refine take_w (i := 4) (v := ?_) (some 8) rfl (by kernel_rfl) rfl (fun _ _ _ h => h) (Or.inl ⟨by rfl, ?_⟩) hS ?_
        rotate_left
        · (intro wq hq; go_simp); first | done | with_reducible rfl
        try simp only [Act.put, List.setIfInBounds_toArray, List.set_cons_zero, List.set_cons_succ]
        replace hS := Till.list 4 hS
        refine take_w (i := 5) (v := ?_) (some 9) rfl (by kernel_rfl) rfl (fun _ _ _ h => h) (Or.inl ⟨by rfl, ?_⟩) hS ?_
        rotate_left
        · (intro wq hq; go_simp); first | done | with_reducible rfl
        try simp only [Act.put, List.setIfInBounds_toArray, List.set_cons_zero, List.set_cons_succ]
        replace hS := Till.list 5 hS
        refine take_w (i := 6) (v := ?_) (some 10) rfl (by kernel_rfl) rfl (fun _ _ _ h => h) (Or.inl ⟨by rfl, ?_⟩) hS ?_
        rotate_left
        · (intro wq hq; go_simp); first | done | with_reducible rfl
        try simp only [Act.put, List.setIfInBounds_toArray, List.set_cons_zero, List.set_cons_succ]
        replace hS := Till.list 6 hS
        refine take_w (i := 7) (v := ?_) (some 11) rfl (by kernel_rfl) rfl (fun _ _ _ h => h) (Or.inl ⟨by rfl, ?_⟩) hS ?_
        rotate_left
        · (intro wq hq; go_simp); first | done | with_reducible rfl
        try simp only [Act.put, List.setIfInBounds_toArray, List.set_cons_zero, List.set_cons_succ]
        replace hS := Till.list 7 hS
        refine take_n (i := 8) (v := ?_) (some 12) rfl (by kernel_rfl) rfl (fun _ _ _ h => h) (Or.inl ⟨by rfl, ?_⟩) hS ?_
        rotate_left
        · (intro wq hq; have q0 := hq _ _ _ c8; have q1 := hq _ _ _ c7; have q2 := hq _ _ _ c1; have q3 := hq _ _ _ c9; go_simp); first | done | with_reducible rfl
        try simp only [Act.put, List.setIfInBounds_toArray, List.set_cons_zero, List.set_cons_succ]
        replace hS := Till.list 8 hS
        refine take_w (i := 9) (v := ?_) (some 13) rfl (by kernel_rfl) rfl (fun _ _ _ h => h) (Or.inl ⟨by rfl, ?_⟩) hS ?_
        rotate_left
        · (intro wq hq; go_simp); first | done | with_reducible rfl
        try simp only [Act.put, List.setIfInBounds_toArray, List.set_cons_zero, List.set_cons_succ]
        replace hS := Till.list 9 hS
        refine take_w (i := 10) (v := ?_) (some 14) rfl (by kernel_rfl) rfl (fun _ _ _ h => h) (Or.inl ⟨by rfl, ?_⟩) hS ?_
        rotate_left
        · (intro wq hq; go_simp); first | done | with_reducible rfl
        try simp only [Act.put, List.setIfInBounds_toArray, List.set_cons_zero, List.set_cons_succ]
        replace hS := Till.list 10 hS
        refine take_w (i := 14) (v := ?_) (some 18) rfl (by kernel_rfl) rfl (fun _ _ _ h => h) (Or.inl ⟨by rfl, ?_⟩) hS ?_
        rotate_left
        · (intro wq hq; go_simp); first | done | with_reducible rfl
        try simp only [Act.put, List.setIfInBounds_toArray, List.set_cons_zero, List.set_cons_succ]
        replace hS := Till.list 14 hS
        refine take_w (i := 11) (v := ?_) (some 15) rfl (by kernel_rfl) rfl (fun _ _ _ h => h) (Or.inl ⟨by rfl, ?_⟩) hS ?_
        rotate_left
        · (intro wq hq; go_simp); first | done | with_reducible rfl
        try simp only [Act.put, List.setIfInBounds_toArray, List.set_cons_zero, List.set_cons_succ]
        replace hS := Till.list 11 hS
        refine take_w (i := 15) (v := ?_) (some 19) rfl (by kernel_rfl) rfl (fun _ _ _ h => h) (Or.inl ⟨by rfl, ?_⟩) hS ?_
        rotate_left
        · (intro wq hq; go_simp); first | done | with_reducible rfl
        try simp only [Act.put, List.setIfInBounds_toArray, List.set_cons_zero, List.set_cons_succ]
        replace hS := Till.list 15 hS
        refine take_w (i := 12) (v := ?_) (some 16) rfl (by kernel_rfl) rfl (fun _ _ _ h => h) (Or.inl ⟨by rfl, ?_⟩) hS ?_
        rotate_left
        · (intro wq hq; go_simp); first | done | with_reducible rfl
        try simp only [Act.put, List.setIfInBounds_toArray, List.set_cons_zero, List.set_cons_succ]
        replace hS := Till.list 12 hS
        refine take_w (i := 16) (v := ?_) (some 20) rfl (by kernel_rfl) rfl (fun _ _ _ h => h) (Or.inl ⟨by rfl, ?_⟩) hS ?_
        rotate_left
        · (intro wq hq; go_simp); first | done | with_reducible rfl
        try simp only [Act.put, List.setIfInBounds_toArray, List.set_cons_zero, List.set_cons_succ]
        replace hS := Till.list 16 hS
        refine take_n (i := 13) (v := ?_) (some 17) rfl (by kernel_rfl) rfl (fun _ _ _ h => h) (Or.inl ⟨by rfl, ?_⟩) hS ?_
        rotate_left
        · (intro wq hq; have q0 := hq _ _ _ c8; have q1 := hq _ _ _ c7; have q2 := hq _ _ _ c1; have q3 := hq _ _ _ c9; go_simp); first | done | with_reducible rfl
        try simp only [Act.put, List.setIfInBounds_toArray, List.set_cons_zero, List.set_cons_succ]
        replace hS := Till.list 13 hS
        refine take_n (i := 17) (v := ?_) (some 21) rfl (by kernel_rfl) rfl (fun _ _ _ h => h) (Or.inl ⟨by rfl, ?_⟩) hS ?_
        rotate_left
        · (intro wq hq; have q0 := hq _ _ _ c8; have q1 := hq _ _ _ c7; have q2 := hq _ _ _ c1; have q3 := hq _ _ _ c9; go_simp); first | done | with_reducible rfl
        try simp only [Act.put, List.setIfInBounds_toArray, List.set_cons_zero, List.set_cons_succ]
        replace hS := Till.list 17 hS
        refine take_w (i := 18) (v := ?_) (some 22) rfl (by kernel_rfl) rfl (fun _ _ _ h => h) (Or.inl ⟨by rfl, ?_⟩) hS ?_
        rotate_left
        · (intro wq hq; go_simp); first | done | with_reducible rfl
        try simp only [Act.put, List.setIfInBounds_toArray, List.set_cons_zero, List.set_cons_succ]
        replace hS := Till.list 18 hS
        refine take_w (i := 19) (v := ?_) (some 23) rfl (by kernel_rfl) rfl (fun _ _ _ h => h) (Or.inl ⟨by rfl, ?_⟩) hS ?_
        rotate_left
        · (intro wq hq; go_simp); first | done | with_reducible rfl
        try simp only [Act.put, List.setIfInBounds_toArray, List.set_cons_zero, List.set_cons_succ]
        replace hS := Till.list 19 hS
        refine take_w (i := 20) (v := ?_) (some 24) rfl (by kernel_rfl) rfl (fun _ _ _ h => h) (Or.inl ⟨by rfl, ?_⟩) hS ?_
        rotate_left
        · (intro wq hq; go_simp); first | done | with_reducible rfl
        try simp only [Act.put, List.setIfInBounds_toArray, List.set_cons_zero, List.set_cons_succ]
        replace hS := Till.list 20 hS
        refine done_g (by kernel_rfl) (NoPanic.normal ?_) _
        clear hS
        have HLm := Lib.hid hn
        clear hn hl
        have HS := Lib.hid (stepD_dead' (M := M) (.inr ⟨n, HLm.out, hle⟩))
        have f8 := HH.out.blk.free 8
        go_wp2_with fail
        go_ret
        exact ⟨by rw [HS.out]; rfl, by rw [HS.out]; exact HH.out.died.still ((Below.refl _ _).drew), (kp_set (Below.refl _ _) 8 _).drew⟩
      · have hD : decide ((n : Int) ≤ (M.taken : Int)) = false := by simpa using hle
        have hD2 : decide (n ≤ M.taken) = false := by simpa using hle
        refine wp_region_noPanic ?_
        refine region_g 21 (Ext (World.drew _)) (by kernel_rfl) (Ext.refl _) (fun hS => ?_)
        refine take_w (i := 0) (v := ?_) (some 4) rfl (by kernel_rfl) rfl (fun _ _ _ h => h) (Or.inl ⟨by rfl, ?_⟩) hS ?_
        rotate_left
        · (intro wq hq; go_simp); first | done | with_reducible rfl
        try simp only [Act.put, List.setIfInBounds_toArray, List.set_cons_zero, List.set_cons_succ]
        replace hS := Till.list 0 hS
        refine take_w (i := 1) (v := ?_) (some 5) rfl (by kernel_rfl) rfl (fun _ _ _ h => h) (Or.inl ⟨by rfl, ?_⟩) hS ?_
        rotate_left
        · (intro wq hq; go_simp); first | done | with_reducible rfl
        try simp only [Act.put, List.setIfInBounds_toArray, List.set_cons_zero, List.set_cons_succ]
        replace hS := Till.list 1 hS
        refine take_w (i := 2) (v := ?_) (some 6) rfl (by kernel_rfl) rfl (fun _ _ _ h => h) (Or.inl ⟨by rfl, ?_⟩) hS ?_
        rotate_left
        · (intro wq hq; go_simp); first | done | with_reducible rfl
        try simp only [Act.put, List.setIfInBounds_toArray, List.set_cons_zero, List.set_cons_succ]
        replace hS := Till.list 2 hS
        refine take_n (i := 3) (v := ?_) (some 7) rfl (by kernel_rfl) rfl (fun _ _ _ h => h) (Or.inl ⟨by rfl, ?_⟩) hS ?_
        rotate_left
        · (intro wq hq; have q0 := hq _ _ _ c8; have q1 := hq _ _ _ c7; have q2 := hq _ _ _ c1; have q3 := hq _ _ _ c9; go_simp); first | done | with_reducible rfl
        try simp only [Act.put, List.setIfInBounds_toArray, List.set_cons_zero, List.set_cons_succ]
        replace hS := Till.list 3 hS
        refine take_w (i := 4) (v := ?_) (some 8) rfl (by kernel_rfl) rfl (fun _ _ _ h => h) (Or.inl ⟨by rfl, ?_⟩) hS ?_
        rotate_left
        · (intro wq hq; go_simp); first | done | with_reducible rfl
        try simp only [Act.put, List.setIfInBounds_toArray, List.set_cons_zero, List.set_cons_succ]
        replace hS := Till.list 4 hS
        refine take_w (i := 5) (v := ?_) (some 9) rfl (by kernel_rfl) rfl (fun _ _ _ h => h) (Or.inl ⟨by rfl, ?_⟩) hS ?_
        rotate_left
        · (intro wq hq; go_simp); first | done | with_reducible rfl
        try simp only [Act.put, List.setIfInBounds_toArray, List.set_cons_zero, List.set_cons_succ]
        replace hS := Till.list 5 hS
        refine take_w (i := 6) (v := ?_) (some 10) rfl (by kernel_rfl) rfl (fun _ _ _ h => h) (Or.inl ⟨by rfl, ?_⟩) hS ?_
        rotate_left
        · (intro wq hq; go_simp); first | done | with_reducible rfl
        try simp only [Act.put, List.setIfInBounds_toArray, List.set_cons_zero, List.set_cons_succ]
        replace hS := Till.list 6 hS
        refine take_w (i := 7) (v := ?_) (some 11) rfl (by kernel_rfl) rfl (fun _ _ _ h => h) (Or.inl ⟨by rfl, ?_⟩) hS ?_
        rotate_left
        · (intro wq hq; go_simp); first | done | with_reducible rfl
        try simp only [Act.put, List.setIfInBounds_toArray, List.set_cons_zero, List.set_cons_succ]
        replace hS := Till.list 7 hS
        refine take_n (i := 8) (v := ?_) (some 12) rfl (by kernel_rfl) rfl (fun _ _ _ h => h) (Or.inl ⟨by rfl, ?_⟩) hS ?_
        rotate_left
        · (intro wq hq; have q0 := hq _ _ _ c8; have q1 := hq _ _ _ c7; have q2 := hq _ _ _ c1; have q3 := hq _ _ _ c9; go_simp); first | done | with_reducible rfl
        try simp only [Act.put, List.setIfInBounds_toArray, List.set_cons_zero, List.set_cons_succ]
        replace hS := Till.list 8 hS
        refine take_w (i := 9) (v := ?_) (some 13) rfl (by kernel_rfl) rfl (fun _ _ _ h => h) (Or.inl ⟨by rfl, ?_⟩) hS ?_
        rotate_left
        · (intro wq hq; go_simp); first | done | with_reducible rfl
        try simp only [Act.put, List.setIfInBounds_toArray, List.set_cons_zero, List.set_cons_succ]
        replace hS := Till.list 9 hS
        refine take_w (i := 10) (v := ?_) (some 14) rfl (by kernel_rfl) rfl (fun _ _ _ h => h) (Or.inl ⟨by rfl, ?_⟩) hS ?_
        rotate_left
        · (intro wq hq; go_simp); first | done | with_reducible rfl
        try simp only [Act.put, List.setIfInBounds_toArray, List.set_cons_zero, List.set_cons_succ]
        replace hS := Till.list 10 hS
        refine take_w (i := 14) (v := ?_) (some 18) rfl (by kernel_rfl) rfl (fun _ _ _ h => h) (Or.inl ⟨by rfl, ?_⟩) hS ?_
        rotate_left
        · (intro wq hq; go_simp); first | done | with_reducible rfl
        try simp only [Act.put, List.setIfInBounds_toArray, List.set_cons_zero, List.set_cons_succ]
        replace hS := Till.list 14 hS
        refine take_w (i := 11) (v := ?_) (some 15) rfl (by kernel_rfl) rfl (fun _ _ _ h => h) (Or.inl ⟨by rfl, ?_⟩) hS ?_
        rotate_left
        · (intro wq hq; go_simp); first | done | with_reducible rfl
        try simp only [Act.put, List.setIfInBounds_toArray, List.set_cons_zero, List.set_cons_succ]
        replace hS := Till.list 11 hS
        refine take_w (i := 15) (v := ?_) (some 19) rfl (by kernel_rfl) rfl (fun _ _ _ h => h) (Or.inl ⟨by rfl, ?_⟩) hS ?_
        rotate_left
        · (intro wq hq; go_simp); first | done | with_reducible rfl
        try simp only [Act.put, List.setIfInBounds_toArray, List.set_cons_zero, List.set_cons_succ]
        replace hS := Till.list 15 hS
        refine take_w (i := 12) (v := ?_) (some 16) rfl (by kernel_rfl) rfl (fun _ _ _ h => h) (Or.inl ⟨by rfl, ?_⟩) hS ?_
        rotate_left
        · (intro wq hq; go_simp); first | done | with_reducible rfl
        try simp only [Act.put, List.setIfInBounds_toArray, List.set_cons_zero, List.set_cons_succ]
        replace hS := Till.list 12 hS
        refine take_w (i := 16) (v := ?_) (some 20) rfl (by kernel_rfl) rfl (fun _ _ _ h => h) (Or.inl ⟨by rfl, ?_⟩) hS ?_
        rotate_left
        · (intro wq hq; go_simp); first | done | with_reducible rfl
        try simp only [Act.put, List.setIfInBounds_toArray, List.set_cons_zero, List.set_cons_succ]
        replace hS := Till.list 16 hS
        refine take_n (i := 13) (v := ?_) (some 17) rfl (by kernel_rfl) rfl (fun _ _ _ h => h) (Or.inl ⟨by rfl, ?_⟩) hS ?_
        rotate_left
        · (intro wq hq; have q0 := hq _ _ _ c8; have q1 := hq _ _ _ c7; have q2 := hq _ _ _ c1; have q3 := hq _ _ _ c9; go_simp); first | done | with_reducible rfl
        try simp only [Act.put, List.setIfInBounds_toArray, List.set_cons_zero, List.set_cons_succ]
        replace hS := Till.list 13 hS
        refine take_n (i := 17) (v := ?_) (some 21) rfl (by kernel_rfl) rfl (fun _ _ _ h => h) (Or.inl ⟨by rfl, ?_⟩) hS ?_
        rotate_left
        · (intro wq hq; have q0 := hq _ _ _ c8; have q1 := hq _ _ _ c7; have q2 := hq _ _ _ c1; have q3 := hq _ _ _ c9; go_simp); first | done | with_reducible rfl
        try simp only [Act.put, List.setIfInBounds_toArray, List.set_cons_zero, List.set_cons_succ]
        replace hS := Till.list 17 hS
        refine take_w (i := 18) (v := ?_) (some 22) rfl (by kernel_rfl) rfl (fun _ _ _ h => h) (Or.inl ⟨by rfl, ?_⟩) hS ?_
        rotate_left
        · (intro wq hq; go_simp); first | done | with_reducible rfl
        try simp only [Act.put, List.setIfInBounds_toArray, List.set_cons_zero, List.set_cons_succ]
        replace hS := Till.list 18 hS
        refine take_w (i := 19) (v := ?_) (some 23) rfl (by kernel_rfl) rfl (fun _ _ _ h => h) (Or.inl ⟨by rfl, ?_⟩) hS ?_
        rotate_left
        · (intro wq hq; go_simp); first | done | with_reducible rfl
        try simp only [Act.put, List.setIfInBounds_toArray, List.set_cons_zero, List.set_cons_succ]
        replace hS := Till.list 19 hS
        refine take_w (i := 20) (v := ?_) (some 24) rfl (by kernel_rfl) rfl (fun _ _ _ h => h) (Or.inl ⟨by rfl, ?_⟩) hS ?_
        rotate_left
        · (intro wq hq; go_simp); first | done | with_reducible rfl
        try simp only [Act.put, List.setIfInBounds_toArray, List.set_cons_zero, List.set_cons_succ]
        replace hS := Till.list 20 hS
        refine done_g (by kernel_rfl) (NoPanic.normal ?_) _
        clear hS
        have HLm := Lib.hid hn
        clear hn hl
        have HS := Lib.hid (stepD_go (M := M) hdead' (fun m hm => by rw [HLm.out] at hm; cases hm; exact hle))
        have f1 := HH.out.blk.free 1
        have hk1 : Kp (fun b => b = y) w (w.setCell ⟨y, 1, none⟩ (.int .i64 ((M.taken : Int) + 1))) := kp_set (Below.refl _ _) 1 _
        have h1 := HH.out.hdr (M' := { M with taken := M.taken + 1 }) hk1 (HH.out.blk.set 1 (.int .i64 ((M.taken : Int) + 1))) rfl rfl rfl rfl rfl
        go_wp2_with fail
        obtain ⟨w1, hw1⟩ : ∃ w1, w.setCell ⟨y, 1, none⟩ (.int .i64 ((M.taken : Int) + 1)) = w1 := ⟨_, rfl⟩
        have e1 := h1.blk.cell 1 (v := .int .i64 ((M.taken + 1 : Nat) : Int)) rfl
        have e6 := h1.blk.cell 6 (v := .slice A N C) rfl
        have hsx := h1.fails
        obtain ⟨A', C', hAC, -, hvx, -⟩ := hsx
        have hA1 := (Value.slice.inj hAC).1
        subst hA1
        replace hvx := (show SV 1 _ A M.fails.length (icells M.fails) from hvx)
        rw [HN.out] at hvx
        clear hAC
        rw [hw1] at h1 hk1 e1 e6 hvx ⊢
        have H1 := Lib.hid (And.intro h1 hk1)
        have HV := Lib.hid hvx
        clear h1 hk1 hw1 c1 c7 c8 hvx f1
        obtain ⟨t1, ht1⟩ : ∃ t1, M.taken + 1 = t1 := ⟨_, rfl⟩
        rw [ht1] at e1
        have HT := Lib.hid ht1
        clear ht1
        go_loopw [3] (fun i wr => ∃ j : Nat, j ≤ N ∧ i = .int .i64 (j : Int) ∧ Hid (∀ q, q < j → M.fails.getD q 0 ≠ (t1 : Int)) ∧ Below w1.heap.size w1 wr) (fun i _ => N - (intOf i).toNat)
        case atStart => exact ⟨0, by omega, rfl, Lib.hid (fun q hq => by omega), (Below.refl _ _).drew⟩
        case round =>
          obtain ⟨j, hj, rfl, HF, hbel⟩ := hrel
          replace e1 := keepc e1 hbel
          replace e6 := keepc e6 hbel
          by_cases hlt : j < N
          · obtain ⟨b, off, rfl, d1⟩ := IV.at HV.out j hlt
            replace d1 := keepc d1 hbel
            have hji : (j : Int) < (N : Int) := by omega
            obtain ⟨z, hz⟩ : ∃ z, M.fails.getD j 0 = z := ⟨_, rfl⟩
            rw [hz] at d1
            by_cases hzt : z = (t1 : Int)
            · have hd : decide (z = (t1 : Int)) = true := decide_eq_true hzt
              have HM := Lib.hid (show ((M.taken + 1 : Nat) : Int) ∈ M.fails by
                rw [HT.out, ← hzt, ← hz, List.getD_eq_getElem?_getD, List.getElem?_eq_getElem (by rw [HN.out]; exact hlt), Option.getD_some]; exact List.getElem_mem _)
              clear hz hd
              subst hzt
              go_wp2_with fail
              refine wp_region_noPanic ?_
              refine region_g 12 (Ext (World.drew _)) (by kernel_rfl) (Ext.refl _) (fun hS => ?_)
              refine take_w (i := 0) (v := ?_) (some 44) rfl (by kernel_rfl) rfl (fun _ _ _ h => h) (Or.inl ⟨by rfl, ?_⟩) hS ?_
              rotate_left
              · (intro wq hq; go_simp); first | done | with_reducible rfl
              try simp only [Act.put, List.setIfInBounds_toArray, List.set_cons_zero, List.set_cons_succ]
              replace hS := Till.list 0 hS
              refine take_w (i := 4) (v := ?_) (some 48) rfl (by kernel_rfl) rfl (fun _ _ _ h => h) (Or.inl ⟨by rfl, ?_⟩) hS ?_
              rotate_left
              · (intro wq hq; go_simp); first | done | with_reducible rfl
              try simp only [Act.put, List.setIfInBounds_toArray, List.set_cons_zero, List.set_cons_succ]
              replace hS := Till.list 4 hS
              refine take_w (i := 7) (v := ?_) (some 51) rfl (by kernel_rfl) rfl (fun _ _ _ h => h) (Or.inl ⟨by rfl, ?_⟩) hS ?_
              rotate_left
              · (intro wq hq; go_simp); first | done | with_reducible rfl
              try simp only [Act.put, List.setIfInBounds_toArray, List.set_cons_zero, List.set_cons_succ]
              replace hS := Till.list 7 hS
              refine take_w (i := 1) (v := ?_) (some 45) rfl (by kernel_rfl) rfl (fun _ _ _ h => h) (Or.inl ⟨by rfl, ?_⟩) hS ?_
              rotate_left
              · (intro wq hq; go_simp); first | done | with_reducible rfl
              try simp only [Act.put, List.setIfInBounds_toArray, List.set_cons_zero, List.set_cons_succ]
              replace hS := Till.list 1 hS
              refine take_w (i := 8) (v := ?_) (some 52) rfl (by kernel_rfl) rfl (fun _ _ _ h => h) (Or.inl ⟨by rfl, ?_⟩) hS ?_
              rotate_left
              · (intro wq hq; go_simp); first | done | with_reducible rfl
              try simp only [Act.put, List.setIfInBounds_toArray, List.set_cons_zero, List.set_cons_succ]
              replace hS := Till.list 8 hS
              refine take_w (i := 2) (v := ?_) (some 46) rfl (by kernel_rfl) rfl (fun _ _ _ h => h) (Or.inl ⟨by rfl, ?_⟩) hS ?_
              rotate_left
              · (intro wq hq; go_simp); first | done | with_reducible rfl
              try simp only [Act.put, List.setIfInBounds_toArray, List.set_cons_zero, List.set_cons_succ]
              replace hS := Till.list 2 hS
              refine take_w (i := 9) (v := ?_) (some 53) rfl (by kernel_rfl) rfl (fun _ _ _ h => h) (Or.inl ⟨by rfl, ?_⟩) hS ?_
              rotate_left
              · (intro wq hq; go_simp); first | done | with_reducible rfl
              try simp only [Act.put, List.setIfInBounds_toArray, List.set_cons_zero, List.set_cons_succ]
              replace hS := Till.list 9 hS
              refine take_n (i := 3) (v := ?_) (some 47) rfl (by kernel_rfl) rfl (fun _ _ _ h => h) (Or.inl ⟨by rfl, ?_⟩) hS ?_
              rotate_left
              · (intro wq hq; have q0 := hq _ _ _ e1; have q1 := hq _ _ _ e6; have q2 := hq _ _ _ d1; go_simp); first | done | with_reducible rfl
              try simp only [Act.put, List.setIfInBounds_toArray, List.set_cons_zero, List.set_cons_succ]
              replace hS := Till.list 3 hS
              refine take_n (i := 10) (v := ?_) (some 54) rfl (by kernel_rfl) rfl (fun _ _ _ h => h) (Or.inl ⟨by rfl, ?_⟩) hS ?_
              rotate_left
              · (intro wq hq; have q0 := hq _ _ _ e1; have q1 := hq _ _ _ e6; have q2 := hq _ _ _ d1; go_simp); first | done | with_reducible rfl
              try simp only [Act.put, List.setIfInBounds_toArray, List.set_cons_zero, List.set_cons_succ]
              replace hS := Till.list 10 hS
              refine take_w (i := 5) (v := ?_) (some 49) rfl (by kernel_rfl) rfl (fun _ _ _ h => h) (Or.inl ⟨by rfl, ?_⟩) hS ?_
              rotate_left
              · (intro wq hq; go_simp); first | done | with_reducible rfl
              try simp only [Act.put, List.setIfInBounds_toArray, List.set_cons_zero, List.set_cons_succ]
              replace hS := Till.list 5 hS
              refine take_n (i := 6) (v := ?_) (some 50) rfl (by kernel_rfl) rfl (fun _ _ _ h => h) (Or.inl ⟨by rfl, ?_⟩) hS ?_
              rotate_left
              · (intro wq hq; have q0 := hq _ _ _ e1; have q1 := hq _ _ _ e6; have q2 := hq _ _ _ d1; go_simp); first | done | with_reducible rfl
              try simp only [Act.put, List.setIfInBounds_toArray, List.set_cons_zero, List.set_cons_succ]
              replace hS := Till.list 6 hS
              refine take_w (i := 11) (v := ?_) (some 55) rfl (by kernel_rfl) rfl (fun _ _ _ h => h) (Or.inl ⟨by rfl, ?_⟩) hS ?_
              rotate_left
              · (intro wq hq; go_simp); first | done | with_reducible rfl
              try simp only [Act.put, List.setIfInBounds_toArray, List.set_cons_zero, List.set_cons_succ]
              replace hS := Till.list 11 hS
              refine done_g (by kernel_rfl) (NoPanic.normal ?_) _
              clear hS
              go_wp2_with fail
              go_ret
              exact ⟨by rw [HS.out, if_pos HM.out]; rfl, by rw [HS.out]; exact H1.out.1.still hbel.drew, H1.out.2.trans (Kp.of_new hbel.drew)⟩
            · have hd : (z == (t1 : Int)) = false := by rw [beq_eq_false_iff_ne]; exact hzt
              have HF2 := Lib.hid (show ∀ q, q < j + 1 → M.fails.getD q 0 ≠ (t1 : Int) from fun q hq => by
                by_cases hqj : q < j
                · exact HF.out q hqj
                · obtain rfl : q = j := by omega
                  rw [hz]; exact hzt)
              clear hz
              go_wp2_with fail
              refine wp_region_noPanic ?_
              refine region_g 12 (Ext (World.drew _)) (by kernel_rfl) (Ext.refl _) (fun hS => ?_)
              refine take_w (i := 0) (v := ?_) (some 44) rfl (by kernel_rfl) rfl (fun _ _ _ h => h) (Or.inl ⟨by rfl, ?_⟩) hS ?_
              rotate_left
              · (intro wq hq; go_simp); first | done | with_reducible rfl
              try simp only [Act.put, List.setIfInBounds_toArray, List.set_cons_zero, List.set_cons_succ]
              replace hS := Till.list 0 hS
              refine take_w (i := 4) (v := ?_) (some 48) rfl (by kernel_rfl) rfl (fun _ _ _ h => h) (Or.inl ⟨by rfl, ?_⟩) hS ?_
              rotate_left
              · (intro wq hq; go_simp); first | done | with_reducible rfl
              try simp only [Act.put, List.setIfInBounds_toArray, List.set_cons_zero, List.set_cons_succ]
              replace hS := Till.list 4 hS
              refine take_w (i := 7) (v := ?_) (some 51) rfl (by kernel_rfl) rfl (fun _ _ _ h => h) (Or.inl ⟨by rfl, ?_⟩) hS ?_
              rotate_left
              · (intro wq hq; go_simp); first | done | with_reducible rfl
              try simp only [Act.put, List.setIfInBounds_toArray, List.set_cons_zero, List.set_cons_succ]
              replace hS := Till.list 7 hS
              refine take_w (i := 1) (v := ?_) (some 45) rfl (by kernel_rfl) rfl (fun _ _ _ h => h) (Or.inl ⟨by rfl, ?_⟩) hS ?_
              rotate_left
              · (intro wq hq; go_simp); first | done | with_reducible rfl
              try simp only [Act.put, List.setIfInBounds_toArray, List.set_cons_zero, List.set_cons_succ]
              replace hS := Till.list 1 hS
              refine take_w (i := 8) (v := ?_) (some 52) rfl (by kernel_rfl) rfl (fun _ _ _ h => h) (Or.inl ⟨by rfl, ?_⟩) hS ?_
              rotate_left
              · (intro wq hq; go_simp); first | done | with_reducible rfl
              try simp only [Act.put, List.setIfInBounds_toArray, List.set_cons_zero, List.set_cons_succ]
              replace hS := Till.list 8 hS
              refine take_w (i := 2) (v := ?_) (some 46) rfl (by kernel_rfl) rfl (fun _ _ _ h => h) (Or.inl ⟨by rfl, ?_⟩) hS ?_
              rotate_left
              · (intro wq hq; go_simp); first | done | with_reducible rfl
              try simp only [Act.put, List.setIfInBounds_toArray, List.set_cons_zero, List.set_cons_succ]
              replace hS := Till.list 2 hS
              refine take_w (i := 9) (v := ?_) (some 53) rfl (by kernel_rfl) rfl (fun _ _ _ h => h) (Or.inl ⟨by rfl, ?_⟩) hS ?_
              rotate_left
              · (intro wq hq; go_simp); first | done | with_reducible rfl
              try simp only [Act.put, List.setIfInBounds_toArray, List.set_cons_zero, List.set_cons_succ]
              replace hS := Till.list 9 hS
              refine take_n (i := 3) (v := ?_) (some 47) rfl (by kernel_rfl) rfl (fun _ _ _ h => h) (Or.inl ⟨by rfl, ?_⟩) hS ?_
              rotate_left
              · (intro wq hq; have q0 := hq _ _ _ e1; have q1 := hq _ _ _ e6; have q2 := hq _ _ _ d1; go_simp); first | done | with_reducible rfl
              try simp only [Act.put, List.setIfInBounds_toArray, List.set_cons_zero, List.set_cons_succ]
              replace hS := Till.list 3 hS
              refine take_n (i := 10) (v := ?_) (some 54) rfl (by kernel_rfl) rfl (fun _ _ _ h => h) (Or.inl ⟨by rfl, ?_⟩) hS ?_
              rotate_left
              · (intro wq hq; have q0 := hq _ _ _ e1; have q1 := hq _ _ _ e6; have q2 := hq _ _ _ d1; go_simp); first | done | with_reducible rfl
              try simp only [Act.put, List.setIfInBounds_toArray, List.set_cons_zero, List.set_cons_succ]
              replace hS := Till.list 10 hS
              refine take_w (i := 5) (v := ?_) (some 49) rfl (by kernel_rfl) rfl (fun _ _ _ h => h) (Or.inl ⟨by rfl, ?_⟩) hS ?_
              rotate_left
              · (intro wq hq; go_simp); first | done | with_reducible rfl
              try simp only [Act.put, List.setIfInBounds_toArray, List.set_cons_zero, List.set_cons_succ]
              replace hS := Till.list 5 hS
              refine take_n (i := 6) (v := ?_) (some 50) rfl (by kernel_rfl) rfl (fun _ _ _ h => h) (Or.inl ⟨by rfl, ?_⟩) hS ?_
              rotate_left
              · (intro wq hq; have q0 := hq _ _ _ e1; have q1 := hq _ _ _ e6; have q2 := hq _ _ _ d1; go_simp); first | done | with_reducible rfl
              try simp only [Act.put, List.setIfInBounds_toArray, List.set_cons_zero, List.set_cons_succ]
              replace hS := Till.list 6 hS
              refine take_w (i := 11) (v := ?_) (some 55) rfl (by kernel_rfl) rfl (fun _ _ _ h => h) (Or.inl ⟨by rfl, ?_⟩) hS ?_
              rotate_left
              · (intro wq hq; go_simp); first | done | with_reducible rfl
              try simp only [Act.put, List.setIfInBounds_toArray, List.set_cons_zero, List.set_cons_succ]
              replace hS := Till.list 11 hS
              refine done_g (by kernel_rfl) (NoPanic.normal ?_) _
              clear hS
              go_wp2_with fail
              go_roundw
              case rel => exact ⟨j + 1, by omega, by go_num, HF2, hbel.drew⟩
              case measure => simp [intOf]; omega
          · obtain rfl : j = N := by omega
            have HM := Lib.hid (show ¬ ((M.taken + 1 : Nat) : Int) ∈ M.fails from fun h => by
              obtain ⟨q, hq, he⟩ := List.getElem_of_mem h
              refine HF.out q (by rw [← HN.out]; exact hq) ?_
              rw [List.getD_eq_getElem?_getD, List.getElem?_eq_getElem hq, Option.getD_some, he, HT.out])
            go_wp2_with fail
            go_ret
            exact ⟨by rw [HS.out, if_neg HM.out]; rfl, by rw [HS.out]; exact H1.out.1.still hbel, H1.out.2.trans (Kp.of_new hbel)⟩
    · have hl' : M.limit.isSome = false := by simpa using hl
      have c7 := HH.out.blk.cell 7 (v := .bool M.limit.isSome) rfl
      rw [hl'] at c7
      refine wp_region_noPanic ?_
      refine region_g 21 (Ext (World.drew _)) (by kernel_rfl) (Ext.refl _) (fun hS => ?_)
      refine take_w (i := 0) (v := ?_) (some 4) rfl (by kernel_rfl) rfl (fun _ _ _ h => h) (Or.inl ⟨by rfl, ?_⟩) hS ?_
      rotate_left
      · (intro wq hq; go_simp); first | done | with_reducible rfl
      try simp only [Act.put, List.setIfInBounds_toArray, List.set_cons_zero, List.set_cons_succ]
      replace hS := Till.list 0 hS
      refine take_w (i := 1) (v := ?_) (some 5) rfl (by kernel_rfl) rfl (fun _ _ _ h => h) (Or.inl ⟨by rfl, ?_⟩) hS ?_
      rotate_left
      · (intro wq hq; go_simp); first | done | with_reducible rfl
      try simp only [Act.put, List.setIfInBounds_toArray, List.set_cons_zero, List.set_cons_succ]
      replace hS := Till.list 1 hS
      refine take_w (i := 2) (v := ?_) (some 6) rfl (by kernel_rfl) rfl (fun _ _ _ h => h) (Or.inl ⟨by rfl, ?_⟩) hS ?_
      rotate_left
      · (intro wq hq; go_simp); first | done | with_reducible rfl
      try simp only [Act.put, List.setIfInBounds_toArray, List.set_cons_zero, List.set_cons_succ]
      replace hS := Till.list 2 hS
      refine take_n (i := 3) (v := ?_) (some 7) rfl (by kernel_rfl) rfl (fun _ _ _ h => h) (Or.inl ⟨by rfl, ?_⟩) hS ?_
      rotate_left
      · (intro wq hq; have q0 := hq _ _ _ c8; have q1 := hq _ _ _ c7; go_simp); first | done | with_reducible rfl
      try simp only [Act.put, List.setIfInBounds_toArray, List.set_cons_zero, List.set_cons_succ]
      replace hS := Till.list 3 hS
      refine take_w (i := 4) (v := ?_) (some 8) rfl (by kernel_rfl) rfl (fun _ _ _ h => h) (Or.inl ⟨by rfl, ?_⟩) hS ?_
      rotate_left
      · (intro wq hq; go_simp); first | done | with_reducible rfl
      try simp only [Act.put, List.setIfInBounds_toArray, List.set_cons_zero, List.set_cons_succ]
      replace hS := Till.list 4 hS
      refine take_w (i := 5) (v := ?_) (some 9) rfl (by kernel_rfl) rfl (fun _ _ _ h => h) (Or.inl ⟨by rfl, ?_⟩) hS ?_
      rotate_left
      · (intro wq hq; go_simp); first | done | with_reducible rfl
      try simp only [Act.put, List.setIfInBounds_toArray, List.set_cons_zero, List.set_cons_succ]
      replace hS := Till.list 5 hS
      refine take_w (i := 6) (v := ?_) (some 10) rfl (by kernel_rfl) rfl (fun _ _ _ h => h) (Or.inl ⟨by rfl, ?_⟩) hS ?_
      rotate_left
      · (intro wq hq; go_simp); first | done | with_reducible rfl
      try simp only [Act.put, List.setIfInBounds_toArray, List.set_cons_zero, List.set_cons_succ]
      replace hS := Till.list 6 hS
      refine take_w (i := 7) (v := ?_) (some 11) rfl (by kernel_rfl) rfl (fun _ _ _ h => h) (Or.inl ⟨by rfl, ?_⟩) hS ?_
      rotate_left
      · (intro wq hq; go_simp); first | done | with_reducible rfl
      try simp only [Act.put, List.setIfInBounds_toArray, List.set_cons_zero, List.set_cons_succ]
      replace hS := Till.list 7 hS
      refine take_n (i := 8) (v := ?_) (some 12) rfl (by kernel_rfl) rfl (fun _ _ _ h => h) (Or.inl ⟨by rfl, ?_⟩) hS ?_
      rotate_left
      · (intro wq hq; have q0 := hq _ _ _ c8; have q1 := hq _ _ _ c7; go_simp); first | done | with_reducible rfl
      try simp only [Act.put, List.setIfInBounds_toArray, List.set_cons_zero, List.set_cons_succ]
      replace hS := Till.list 8 hS
      refine take_w (i := 9) (v := ?_) (some 13) rfl (by kernel_rfl) rfl (fun _ _ _ h => h) (Or.inl ⟨by rfl, ?_⟩) hS ?_
      rotate_left
      · (intro wq hq; go_simp); first | done | with_reducible rfl
      try simp only [Act.put, List.setIfInBounds_toArray, List.set_cons_zero, List.set_cons_succ]
      replace hS := Till.list 9 hS
      refine take_w (i := 10) (v := undef) (some 14) rfl (by kernel_rfl) rfl (fun _ _ _ h => h) (Or.inr ⟨by rfl, rfl⟩) hS ?_
      try simp only [Act.put, List.setIfInBounds_toArray, List.set_cons_zero, List.set_cons_succ]
      replace hS := Till.list 10 hS
      refine take_w (i := 14) (v := undef) (some 18) rfl (by kernel_rfl) rfl (fun _ _ _ h => h) (Or.inr ⟨by rfl, rfl⟩) hS ?_
      try simp only [Act.put, List.setIfInBounds_toArray, List.set_cons_zero, List.set_cons_succ]
      replace hS := Till.list 14 hS
      refine take_w (i := 11) (v := undef) (some 15) rfl (by kernel_rfl) rfl (fun _ _ _ h => h) (Or.inr ⟨by rfl, rfl⟩) hS ?_
      try simp only [Act.put, List.setIfInBounds_toArray, List.set_cons_zero, List.set_cons_succ]
      replace hS := Till.list 11 hS
      refine take_w (i := 15) (v := undef) (some 19) rfl (by kernel_rfl) rfl (fun _ _ _ h => h) (Or.inr ⟨by rfl, rfl⟩) hS ?_
      try simp only [Act.put, List.setIfInBounds_toArray, List.set_cons_zero, List.set_cons_succ]
      replace hS := Till.list 15 hS
      refine take_w (i := 12) (v := undef) (some 16) rfl (by kernel_rfl) rfl (fun _ _ _ h => h) (Or.inr ⟨by rfl, rfl⟩) hS ?_
      try simp only [Act.put, List.setIfInBounds_toArray, List.set_cons_zero, List.set_cons_succ]
      replace hS := Till.list 12 hS
      refine take_w (i := 16) (v := undef) (some 20) rfl (by kernel_rfl) rfl (fun _ _ _ h => h) (Or.inr ⟨by rfl, rfl⟩) hS ?_
      try simp only [Act.put, List.setIfInBounds_toArray, List.set_cons_zero, List.set_cons_succ]
      replace hS := Till.list 16 hS
      refine take_w (i := 13) (v := undef) (some 17) rfl (by kernel_rfl) rfl (fun _ _ _ h => h) (Or.inr ⟨by rfl, rfl⟩) hS ?_
      try simp only [Act.put, List.setIfInBounds_toArray, List.set_cons_zero, List.set_cons_succ]
      replace hS := Till.list 13 hS
      refine take_w (i := 17) (v := undef) (some 21) rfl (by kernel_rfl) rfl (fun _ _ _ h => h) (Or.inr ⟨by rfl, rfl⟩) hS ?_
      try simp only [Act.put, List.setIfInBounds_toArray, List.set_cons_zero, List.set_cons_succ]
      replace hS := Till.list 17 hS
      refine take_w (i := 18) (v := undef) (some 22) rfl (by kernel_rfl) rfl (fun _ _ _ h => h) (Or.inr ⟨by rfl, rfl⟩) hS ?_
      try simp only [Act.put, List.setIfInBounds_toArray, List.set_cons_zero, List.set_cons_succ]
      replace hS := Till.list 18 hS
      refine take_w (i := 19) (v := ?_) (some 23) rfl (by kernel_rfl) rfl (fun _ _ _ h => h) (Or.inl ⟨by rfl, ?_⟩) hS ?_
      rotate_left
      · (intro wq hq; go_simp); first | done | with_reducible rfl
      try simp only [Act.put, List.setIfInBounds_toArray, List.set_cons_zero, List.set_cons_succ]
      replace hS := Till.list 19 hS
      refine take_w (i := 20) (v := ?_) (some 24) rfl (by kernel_rfl) rfl (fun _ _ _ h => h) (Or.inl ⟨by rfl, ?_⟩) hS ?_
      rotate_left
      · (intro wq hq; go_simp); first | done | with_reducible rfl
      try simp only [Act.put, List.setIfInBounds_toArray, List.set_cons_zero, List.set_cons_succ]
      replace hS := Till.list 20 hS
      refine done_g (by kernel_rfl) (NoPanic.normal ?_) _
      clear hS
      have HLf := Lib.hid hl'
      clear hl hl'
      have HS := Lib.hid (stepD_go (M := M) hdead' (fun m hm => by have := HLf.out; rw [hm] at this; cases this))
      have f1 := HH.out.blk.free 1
      have hk1 : Kp (fun b => b = y) w (w.setCell ⟨y, 1, none⟩ (.int .i64 ((M.taken : Int) + 1))) := kp_set (Below.refl _ _) 1 _
      have h1 := HH.out.hdr (M' := { M with taken := M.taken + 1 }) hk1 (HH.out.blk.set 1 (.int .i64 ((M.taken : Int) + 1))) rfl rfl rfl rfl rfl
      go_wp2_with fail
      obtain ⟨w1, hw1⟩ : ∃ w1, w.setCell ⟨y, 1, none⟩ (.int .i64 ((M.taken : Int) + 1)) = w1 := ⟨_, rfl⟩
      have e1 := h1.blk.cell 1 (v := .int .i64 ((M.taken + 1 : Nat) : Int)) rfl
      have e6 := h1.blk.cell 6 (v := .slice A N C) rfl
      have hsx := h1.fails
      obtain ⟨A', C', hAC, -, hvx, -⟩ := hsx
      have hA1 := (Value.slice.inj hAC).1
      subst hA1
      replace hvx := (show SV 1 _ A M.fails.length (icells M.fails) from hvx)
      rw [HN.out] at hvx
      clear hAC
      rw [hw1] at h1 hk1 e1 e6 hvx ⊢
      have H1 := Lib.hid (And.intro h1 hk1)
      have HV := Lib.hid hvx
      clear h1 hk1 hw1 c1 c7 c8 hvx f1
      obtain ⟨t1, ht1⟩ : ∃ t1, M.taken + 1 = t1 := ⟨_, rfl⟩
      rw [ht1] at e1
      have HT := Lib.hid ht1
      clear ht1
      go_loopw [3] (fun i wr => ∃ j : Nat, j ≤ N ∧ i = .int .i64 (j : Int) ∧ Hid (∀ q, q < j → M.fails.getD q 0 ≠ (t1 : Int)) ∧ Below w1.heap.size w1 wr) (fun i _ => N - (intOf i).toNat)
      case atStart => exact ⟨0, by omega, rfl, Lib.hid (fun q hq => by omega), (Below.refl _ _).drew⟩
      case round =>
        obtain ⟨j, hj, rfl, HF, hbel⟩ := hrel
        replace e1 := keepc e1 hbel
        replace e6 := keepc e6 hbel
        by_cases hlt : j < N
        · obtain ⟨b, off, rfl, d1⟩ := IV.at HV.out j hlt
          replace d1 := keepc d1 hbel
          have hji : (j : Int) < (N : Int) := by omega
          obtain ⟨z, hz⟩ : ∃ z, M.fails.getD j 0 = z := ⟨_, rfl⟩
          rw [hz] at d1
          by_cases hzt : z = (t1 : Int)
          · have hd : decide (z = (t1 : Int)) = true := decide_eq_true hzt
            have HM := Lib.hid (show ((M.taken + 1 : Nat) : Int) ∈ M.fails by
              rw [HT.out, ← hzt, ← hz, List.getD_eq_getElem?_getD, List.getElem?_eq_getElem (by rw [HN.out]; exact hlt), Option.getD_some]; exact List.getElem_mem _)
            clear hz hd
            subst hzt
            go_wp2_with fail
            refine wp_region_noPanic ?_
            refine region_g 12 (Ext (World.drew _)) (by kernel_rfl) (Ext.refl _) (fun hS => ?_)
            refine take_w (i := 0) (v := ?_) (some 44) rfl (by kernel_rfl) rfl (fun _ _ _ h => h) (Or.inl ⟨by rfl, ?_⟩) hS ?_
            rotate_left
            · (intro wq hq; go_simp); first | done | with_reducible rfl
            try simp only [Act.put, List.setIfInBounds_toArray, List.set_cons_zero, List.set_cons_succ]
            replace hS := Till.list 0 hS
            refine take_w (i := 4) (v := ?_) (some 48) rfl (by kernel_rfl) rfl (fun _ _ _ h => h) (Or.inl ⟨by rfl, ?_⟩) hS ?_
            rotate_left
            · (intro wq hq; go_simp); first | done | with_reducible rfl
            try simp only [Act.put, List.setIfInBounds_toArray, List.set_cons_zero, List.set_cons_succ]
            replace hS := Till.list 4 hS
            refine take_w (i := 7) (v := ?_) (some 51) rfl (by kernel_rfl) rfl (fun _ _ _ h => h) (Or.inl ⟨by rfl, ?_⟩) hS ?_
            rotate_left
            · (intro wq hq; go_simp); first | done | with_reducible rfl
            try simp only [Act.put, List.setIfInBounds_toArray, List.set_cons_zero, List.set_cons_succ]
            replace hS := Till.list 7 hS
            refine take_w (i := 1) (v := ?_) (some 45) rfl (by kernel_rfl) rfl (fun _ _ _ h => h) (Or.inl ⟨by rfl, ?_⟩) hS ?_
            rotate_left
            · (intro wq hq; go_simp); first | done | with_reducible rfl
            try simp only [Act.put, List.setIfInBounds_toArray, List.set_cons_zero, List.set_cons_succ]
            replace hS := Till.list 1 hS
            refine take_w (i := 8) (v := ?_) (some 52) rfl (by kernel_rfl) rfl (fun _ _ _ h => h) (Or.inl ⟨by rfl, ?_⟩) hS ?_
            rotate_left
            · (intro wq hq; go_simp); first | done | with_reducible rfl
            try simp only [Act.put, List.setIfInBounds_toArray, List.set_cons_zero, List.set_cons_succ]
            replace hS := Till.list 8 hS
            refine take_w (i := 2) (v := ?_) (some 46) rfl (by kernel_rfl) rfl (fun _ _ _ h => h) (Or.inl ⟨by rfl, ?_⟩) hS ?_
            rotate_left
            · (intro wq hq; go_simp); first | done | with_reducible rfl
            try simp only [Act.put, List.setIfInBounds_toArray, List.set_cons_zero, List.set_cons_succ]
            replace hS := Till.list 2 hS
            refine take_w (i := 9) (v := ?_) (some 53) rfl (by kernel_rfl) rfl (fun _ _ _ h => h) (Or.inl ⟨by rfl, ?_⟩) hS ?_
            rotate_left
            · (intro wq hq; go_simp); first | done | with_reducible rfl
            try simp only [Act.put, List.setIfInBounds_toArray, List.set_cons_zero, List.set_cons_succ]
            replace hS := Till.list 9 hS
            refine take_n (i := 3) (v := ?_) (some 47) rfl (by kernel_rfl) rfl (fun _ _ _ h => h) (Or.inl ⟨by rfl, ?_⟩) hS ?_
            rotate_left
            · (intro wq hq; have q0 := hq _ _ _ e1; have q1 := hq _ _ _ e6; have q2 := hq _ _ _ d1; go_simp); first | done | with_reducible rfl
            try simp only [Act.put, List.setIfInBounds_toArray, List.set_cons_zero, List.set_cons_succ]
            replace hS := Till.list 3 hS
            refine take_n (i := 10) (v := ?_) (some 54) rfl (by kernel_rfl) rfl (fun _ _ _ h => h) (Or.inl ⟨by rfl, ?_⟩) hS ?_
            rotate_left
            · (intro wq hq; have q0 := hq _ _ _ e1; have q1 := hq _ _ _ e6; have q2 := hq _ _ _ d1; go_simp); first | done | with_reducible rfl
            try simp only [Act.put, List.setIfInBounds_toArray, List.set_cons_zero, List.set_cons_succ]
            replace hS := Till.list 10 hS
            refine take_w (i := 5) (v := ?_) (some 49) rfl (by kernel_rfl) rfl (fun _ _ _ h => h) (Or.inl ⟨by rfl, ?_⟩) hS ?_
            rotate_left
            · (intro wq hq; go_simp); first | done | with_reducible rfl
            try simp only [Act.put, List.setIfInBounds_toArray, List.set_cons_zero, List.set_cons_succ]
            replace hS := Till.list 5 hS
            refine take_n (i := 6) (v := ?_) (some 50) rfl (by kernel_rfl) rfl (fun _ _ _ h => h) (Or.inl ⟨by rfl, ?_⟩) hS ?_
            rotate_left
            · (intro wq hq; have q0 := hq _ _ _ e1; have q1 := hq _ _ _ e6; have q2 := hq _ _ _ d1; go_simp); first | done | with_reducible rfl
            try simp only [Act.put, List.setIfInBounds_toArray, List.set_cons_zero, List.set_cons_succ]
            replace hS := Till.list 6 hS
            refine take_w (i := 11) (v := ?_) (some 55) rfl (by kernel_rfl) rfl (fun _ _ _ h => h) (Or.inl ⟨by rfl, ?_⟩) hS ?_
            rotate_left
            · (intro wq hq; go_simp); first | done | with_reducible rfl
            try simp only [Act.put, List.setIfInBounds_toArray, List.set_cons_zero, List.set_cons_succ]
            replace hS := Till.list 11 hS
            refine done_g (by kernel_rfl) (NoPanic.normal ?_) _
            clear hS
            go_wp2_with fail
            go_ret
            exact ⟨by rw [HS.out, if_pos HM.out]; rfl, by rw [HS.out]; exact H1.out.1.still hbel.drew, H1.out.2.trans (Kp.of_new hbel.drew)⟩
          · have hd : (z == (t1 : Int)) = false := by rw [beq_eq_false_iff_ne]; exact hzt
            have HF2 := Lib.hid (show ∀ q, q < j + 1 → M.fails.getD q 0 ≠ (t1 : Int) from fun q hq => by
              by_cases hqj : q < j
              · exact HF.out q hqj
              · obtain rfl : q = j := by omega
                rw [hz]; exact hzt)
            clear hz
            go_wp2_with fail
            refine wp_region_noPanic ?_
            refine region_g 12 (Ext (World.drew _)) (by kernel_rfl) (Ext.refl _) (fun hS => ?_)
            refine take_w (i := 0) (v := ?_) (some 44) rfl (by kernel_rfl) rfl (fun _ _ _ h => h) (Or.inl ⟨by rfl, ?_⟩) hS ?_
            rotate_left
            · (intro wq hq; go_simp); first | done | with_reducible rfl
            try simp only [Act.put, List.setIfInBounds_toArray, List.set_cons_zero, List.set_cons_succ]
            replace hS := Till.list 0 hS
            refine take_w (i := 4) (v := ?_) (some 48) rfl (by kernel_rfl) rfl (fun _ _ _ h => h) (Or.inl ⟨by rfl, ?_⟩) hS ?_
            rotate_left
            · (intro wq hq; go_simp); first | done | with_reducible rfl
            try simp only [Act.put, List.setIfInBounds_toArray, List.set_cons_zero, List.set_cons_succ]
            replace hS := Till.list 4 hS
            refine take_w (i := 7) (v := ?_) (some 51) rfl (by kernel_rfl) rfl (fun _ _ _ h => h) (Or.inl ⟨by rfl, ?_⟩) hS ?_
            rotate_left
            · (intro wq hq; go_simp); first | done | with_reducible rfl
            try simp only [Act.put, List.setIfInBounds_toArray, List.set_cons_zero, List.set_cons_succ]
            replace hS := Till.list 7 hS
            refine take_w (i := 1) (v := ?_) (some 45) rfl (by kernel_rfl) rfl (fun _ _ _ h => h) (Or.inl ⟨by rfl, ?_⟩) hS ?_
            rotate_left
            · (intro wq hq; go_simp); first | done | with_reducible rfl
            try simp only [Act.put, List.setIfInBounds_toArray, List.set_cons_zero, List.set_cons_succ]
            replace hS := Till.list 1 hS
            refine take_w (i := 8) (v := ?_) (some 52) rfl (by kernel_rfl) rfl (fun _ _ _ h => h) (Or.inl ⟨by rfl, ?_⟩) hS ?_
            rotate_left
            · (intro wq hq; go_simp); first | done | with_reducible rfl
            try simp only [Act.put, List.setIfInBounds_toArray, List.set_cons_zero, List.set_cons_succ]
            replace hS := Till.list 8 hS
            refine take_w (i := 2) (v := ?_) (some 46) rfl (by kernel_rfl) rfl (fun _ _ _ h => h) (Or.inl ⟨by rfl, ?_⟩) hS ?_
            rotate_left
            · (intro wq hq; go_simp); first | done | with_reducible rfl
            try simp only [Act.put, List.setIfInBounds_toArray, List.set_cons_zero, List.set_cons_succ]
            replace hS := Till.list 2 hS
            refine take_w (i := 9) (v := ?_) (some 53) rfl (by kernel_rfl) rfl (fun _ _ _ h => h) (Or.inl ⟨by rfl, ?_⟩) hS ?_
            rotate_left
            · (intro wq hq; go_simp); first | done | with_reducible rfl
            try simp only [Act.put, List.setIfInBounds_toArray, List.set_cons_zero, List.set_cons_succ]
            replace hS := Till.list 9 hS
            refine take_n (i := 3) (v := ?_) (some 47) rfl (by kernel_rfl) rfl (fun _ _ _ h => h) (Or.inl ⟨by rfl, ?_⟩) hS ?_
            rotate_left
            · (intro wq hq; have q0 := hq _ _ _ e1; have q1 := hq _ _ _ e6; have q2 := hq _ _ _ d1; go_simp); first | done | with_reducible rfl
            try simp only [Act.put, List.setIfInBounds_toArray, List.set_cons_zero, List.set_cons_succ]
            replace hS := Till.list 3 hS
            refine take_n (i := 10) (v := ?_) (some 54) rfl (by kernel_rfl) rfl (fun _ _ _ h => h) (Or.inl ⟨by rfl, ?_⟩) hS ?_
            rotate_left
            · (intro wq hq; have q0 := hq _ _ _ e1; have q1 := hq _ _ _ e6; have q2 := hq _ _ _ d1; go_simp); first | done | with_reducible rfl
            try simp only [Act.put, List.setIfInBounds_toArray, List.set_cons_zero, List.set_cons_succ]
            replace hS := Till.list 10 hS
            refine take_w (i := 5) (v := ?_) (some 49) rfl (by kernel_rfl) rfl (fun _ _ _ h => h) (Or.inl ⟨by rfl, ?_⟩) hS ?_
            rotate_left
            · (intro wq hq; go_simp); first | done | with_reducible rfl
            try simp only [Act.put, List.setIfInBounds_toArray, List.set_cons_zero, List.set_cons_succ]
            replace hS := Till.list 5 hS
            refine take_n (i := 6) (v := ?_) (some 50) rfl (by kernel_rfl) rfl (fun _ _ _ h => h) (Or.inl ⟨by rfl, ?_⟩) hS ?_
            rotate_left
            · (intro wq hq; have q0 := hq _ _ _ e1; have q1 := hq _ _ _ e6; have q2 := hq _ _ _ d1; go_simp); first | done | with_reducible rfl
            try simp only [Act.put, List.setIfInBounds_toArray, List.set_cons_zero, List.set_cons_succ]
            replace hS := Till.list 6 hS
            refine take_w (i := 11) (v := ?_) (some 55) rfl (by kernel_rfl) rfl (fun _ _ _ h => h) (Or.inl ⟨by rfl, ?_⟩) hS ?_
            rotate_left
            · (intro wq hq; go_simp); first | done | with_reducible rfl
            try simp only [Act.put, List.setIfInBounds_toArray, List.set_cons_zero, List.set_cons_succ]
            replace hS := Till.list 11 hS
            refine done_g (by kernel_rfl) (NoPanic.normal ?_) _
            clear hS
            go_wp2_with fail
            go_roundw
            case rel => exact ⟨j + 1, by omega, by go_num, HF2, hbel.drew⟩
            case measure => simp [intOf]; omega
        · obtain rfl : j = N := by omega
          have HM := Lib.hid (show ¬ ((M.taken + 1 : Nat) : Int) ∈ M.fails from fun h => by
            obtain ⟨q, hq, he⟩ := List.getElem_of_mem h
            refine HF.out q (by rw [← HN.out]; exact hq) ?_
            rw [List.getD_eq_getElem?_getD, List.getElem?_eq_getElem hq, Option.getD_some, he, HT.out])
          go_wp2_with fail
          go_ret
          exact ⟨by rw [HS.out, if_neg HM.out]; rfl, by rw [HS.out]; exact H1.out.1.still hbel, H1.out.2.trans (Kp.of_new hbel)⟩
end
end Go.Proofs.Ytlagmjdldplblaa
/- Contracts of the document's own disk: put, change. -/
namespace Go.Proofs.Ytlagmjdldplblaa
open Go.ChangeShapes Go.WideShapes Go.ChangeAt Go.RowKit
set_option linter.unusedVariables false
set_option maxRecDepth 4000

section
variable {I I' : Nat → Prop} {w w2 : World} {y : Nat} {M : DK} {vF vN vK vC vX v : Value}
theorem RSl.set {k n : Nat} {cs : List Value} (hv : RSl (Jn I y) k w2 v n cs) (i : Nat) (u : Value) : RSl (Jn I y) k (w2.setCell ⟨y, i, none⟩ u) v n cs := hv.kp ((Kp.refl (fun b => b = y) w2).setCell (.inl rfl) u) (fun b hb => hb.2) (fun b hb => hb)
theorem RFs.set {l : List Fl8} (hv : RFs (Jn I y) w2 v l) (i : Nat) (u : Value) : RFs (Jn I y) (w2.setCell ⟨y, i, none⟩ u) v l := hv.kp ((Kp.refl (fun b => b = y) w2).setCell (.inl rfl) u) (fun b hb => hb.2) (fun b hb => hb)
theorem RCs.set {l : List Ch8} (hv : RCs (Jn I y) w2 v l) (i : Nat) (u : Value) : RCs (Jn I y) (w2.setCell ⟨y, i, none⟩ u) v l := hv.kp ((Kp.refl (fun b => b = y) w2).setCell (.inl rfl) u) (fun b hb => hb.2) (fun b hb => hb)
theorem RP.mono (h : RP w I y M vF vN vK vC vX) (hI : ∀ b, I b → I' b) : RP w I' y M vF vN vK vC vX := h.kp (Kp.refl (fun _ => False) w) (fun _ _ h => h) hI
theorem RD.mono (h : RD w I y M) (hI : ∀ b, I b → I' b) : RD w I' y M := h.kp (Kp.refl (fun _ => False) w) (fun _ _ h => h) hI
theorem RP.setF (h : RP w I y M vF vN vK vC vX) (hb : Below w.heap.size w w2) {l : List Fl8} (hv : RFs (Jn (AndNew I w w2) y) w2 v l) : RP (w2.setCell ⟨y, 2, none⟩ v) (AndNew I w w2) y { M with files := l } v vN vK vC vX := by
  obtain ⟨h1, h2, h3, h4, h5⟩ := h.own (I' := AndNew I w w2) (kp_set hb 2 v) (fun b hb => .inl hb)
  exact ⟨(h.blk.below hb).set 2 v, .inl h.foot, hv.set 2 v, h2, h3, h4, h5, h.few⟩
theorem RP.setN (h : RP w I y M vF vN vK vC vX) (hb : Below w.heap.size w w2) {l : List Nm8} (hv : RSl (Jn (AndNew I w w2) y) 2 w2 v l.length (ncells l)) : RP (w2.setCell ⟨y, 3, none⟩ v) (AndNew I w w2) y { M with names := l } vF v vK vC vX := by
  obtain ⟨h1, h2, h3, h4, h5⟩ := h.own (I' := AndNew I w w2) (kp_set hb 3 v) (fun b hb => .inl hb)
  exact ⟨(h.blk.below hb).set 3 v, .inl h.foot, h1, hv.set 3 v, h3, h4, h5, h.few⟩
theorem RP.setK (h : RP w I y M vF vN vK vC vX) (hb : Below w.heap.size w w2) {l : List Nm8} (hv : RSl (Jn (AndNew I w w2) y) 2 w2 v l.length (ncells l)) : RP (w2.setCell ⟨y, 4, none⟩ v) (AndNew I w w2) y { M with kept := l } vF vN v vC vX := by
  obtain ⟨h1, h2, h3, h4, h5⟩ := h.own (I' := AndNew I w w2) (kp_set hb 4 v) (fun b hb => .inl hb)
  exact ⟨(h.blk.below hb).set 4 v, .inl h.foot, h1, h2, hv.set 4 v, h4, h5, h.few⟩
theorem RP.setC (h : RP w I y M vF vN vK vC vX) (hb : Below w.heap.size w w2) {l : List Ch8} (hv : RCs (Jn (AndNew I w w2) y) w2 v l) : RP (w2.setCell ⟨y, 5, none⟩ v) (AndNew I w w2) y { M with chs := l } vF vN vK v vX := by
  obtain ⟨h1, h2, h3, h4, h5⟩ := h.own (I' := AndNew I w w2) (kp_set hb 5 v) (fun b hb => .inl hb)
  exact ⟨(h.blk.below hb).set 5 v, .inl h.foot, h1, h2, h3, hv.set 5 v, h5, h.few⟩
theorem RSl.names {A A' : Option Addr} {n' c' : Nat} {l : List Nm8} (hA : ∀ x, A = some x → Jn I y x.block) (hy : y < w.heap.size) (hc : n' ≤ c') (hv : NV w2 A' n' l) (hb : ∀ x, A' = some x → A = some x ∨ (w.heap.size ≤ x.block ∧ x.block < w2.heap.size)) : RSl (Jn (AndNew I w w2) y) 2 w2 (.slice A' n' c') l.length (ncells l) := by
  rw [NV.len hv]
  refine ⟨A', c', rfl, hc, hv, fun x hx => ?_⟩
  rcases hb x hx with h | ⟨h1, h2⟩
  · exact ⟨.inl (hA x h).1, (hA x h).2⟩
  · exact ⟨.inr ⟨h1, h2⟩, by omega⟩
theorem OS.put8 {w : World} {base : Nat} {v : Value} {ps : List PF8} (h : OS 2 w base v ps.length (pcells ps)) {f : Nat} (hf : f < ps.length) : ∃ g cap, v = .slice (some ⟨g, 0, none⟩) ps.length cap ∧ base ≤ g ∧ ps.length ≤ cap ∧
    w.cell? ⟨g, f * 2, none⟩ = some (ps.getD f pf0).1 ∧ w.cell? ⟨g, f * 2 + 1, none⟩ = some (.int .i64 ((ps.getD f pf0).2.2 : Int)) ∧ w.frozen? ⟨g, f * 2, none⟩ = false ∧ w.frozen? ⟨g, f * 2 + 1, none⟩ = false ∧ (w.cell? ⟨g, f * 2 + 1, none⟩ = some (.int .i64 ((ps.getD f pf0).2.2 : Int))) ∧
    Hid (∀ p : PF8, p.1.oneCell' = true → OS 2 ((w.setCell ⟨g, f * 2, none⟩ p.1).setCell ⟨g, f * 2 + 1, none⟩ (.int .i64 (p.2.2 : Int))) base v ps.length (pcells (ps.set f p))) := by
  obtain ⟨g, cap, rfl, hg, hcap, -, hcell, hfz, hset⟩ := h.own (by omega)
  obtain ⟨e0, e1⟩ := pcells_at ps f hf
  refine ⟨g, cap, rfl, hg, hcap, hcell _ _ e0, hcell _ _ e1, hfz _, hfz _, hcell _ _ e1, Lib.hid (fun p hp => ?_)⟩
  have h1 := hset (f * 2) p.1 (by omega) hp
  obtain ⟨g', cap', hgc, -, -, -, -, -, hset'⟩ := h1.own (by omega)
  have hg' : g = g' := by
    have := (Value.slice.inj hgc).1
    have := congrArg (fun o => (o.getD ⟨0, 0, none⟩).block) this
    exact this
  subst hg'
  have h2 := hset' (f * 2 + 1) (.int .i64 (p.2.2 : Int)) (by omega) rfl
  rw [pcells_set ps f p hf] at h2
  exact h2
set_option maxHeartbeats 2000000 in
theorem rput_any (h : RP w I y M vF vN vK vC vX) (hm : M.files.length ≤ 100000) (f : Nat) (hf : f < M.files.length) (x : Fl8) (hv : RB (Jn I y) w v x.1) :
    Calls Try.prog 81 #[.pointer (some ⟨y, 0, none⟩), .int .i64 (f : Int), .agg #[v, .int .i64 (x.2 : Int)]] w fun e w' => e = .returned (.tuple #[]) ∧ RD w' (AndNew I w w') y (putD M f x) ∧ Kp (fun b => b = y) w w' := by
  obtain ⟨ps, hps, ⟨A, C, rfl, hC, hsv, hA⟩, hpb⟩ := h.files
  have hlt := h.blk.lt
  have hn : ps.length = M.files.length := by rw [hps, List.length_map]
  obtain ⟨Av, nv, cv, hvs, hnc, hbv, hAv⟩ := hv
  subst hvs
  have hw1 : Below w.heap.size w (w.alloc (.cells #[.slice Av nv cv, .int .i64 (x.2 : Int)] 93)) := Joins.below_alloc1 _ _
  have hB := (Bk.new w #[.slice Av nv cv, .int .i64 (x.2 : Int)] 93).alloc (.cells #[] 93)
  have hw2 : Below w.heap.size w ((w.alloc (.cells #[.slice Av nv cv, .int .i64 (x.2 : Int)] 93)).alloc (.cells #[] 93)) := hw1.alloc (by simp) _
  have o0 : OS 2 ((w.alloc (.cells #[.slice Av nv cv, .int .i64 (x.2 : Int)] 93)).alloc (.cells #[] 93)) (w.heap.size + 1) (.slice (some ⟨(w.alloc (.cells #[.slice Av nv cv, .int .i64 (x.2 : Int)] 93)).heap.size, 0, none⟩) 0 0) 0 [] := OS.lit (k := 2) _ (w.heap.size + 1) (by simp) [] 0 93 rfl (by simp) (by simp) _ rfl
  have hp1 : (Value.slice (some ⟨(w.alloc (.cells #[.slice Av nv cv, .int .i64 (x.2 : Int)] 93)).heap.size, 0, none⟩) 0 0) = .slice (some ⟨w.heap.size + 1, 0, none⟩) 0 0 := by simp
  rw [hp1] at o0
  have hs2 : w.heap.size + 1 ≤ ((w.alloc (.cells #[.slice Av nv cv, .int .i64 (x.2 : Int)] 93)).alloc (.cells #[] 93)).heap.size := by rw [heap_alloc, heap_alloc]; omega
  have hsv2 := hsv.below hw2
  have c2 := (h.blk.below hw2).cell 2 (v := .slice A ps.length C) rfl
  have HH := Lib.hid h
  have HP := Lib.hid (And.intro hps (And.intro hpb hn))
  have HV := Lib.hid (And.intro hbv (And.intro hAv hB))
  clear h hps hpb hn hbv hAv hp1 hw1 hB hsv
  have hm' : ps.length ≤ 100000 := by rw [HP.out.2.2]; exact hm
  have hf' : f < ps.length := by rw [HP.out.2.2]; exact hf
  go_enter Try.func81, Try.ntmps81
  go_upto_region 2 with (at_builtin; refine append_os el_files8 rfl (.tmp 7) (.tmp 11) rfl (w.heap.size + 1) _ 0 [] rfl o0 A ps.length C (pcells ps) rfl hsv2 (by omega) (by omega) hs2 ?_; intro v3 w3 ho3 hb3)
  rw [Nat.zero_add, List.nil_append] at ho3
  have hb4 := hw2.trans (hb3.mono (Nat.le_succ _))
  have hd := HV.out.2.2.low hb3 (Nat.lt_succ_self _)
  have d0 := hd.cell 0 (v := .slice Av nv cv) rfl
  have d1 := hd.cell 1 (v := .int .i64 (x.2 : Int)) rfl
  obtain ⟨g, cap, rfl, hg, hcap, e0, e1, fz0, fz1, -, hset⟩ := ho3.put8 hf'
  have hfi : (f : Int) < (ps.length : Int) := by omega
  clear o0 hsv2 hw2 hb3 ho3 hs2 c2
  go_upto_region 3 with fail
  have ho4 := hset.out (.slice Av nv cv, x) rfl
  have hgy : g ≠ y := by omega
  have hB4 := ((HH.out.blk.below hb4).other (c := g) (i := f * 2) (Ne.symm hgy) (.slice Av nv cv)).other (c := g) (i := f * 2 + 1) (Ne.symm hgy) (.int .i64 (x.2 : Int))
  have hb5 : Below w.heap.size w ((w3.setCell ⟨g, f * 2, none⟩ (.slice Av nv cv)).setCell ⟨g, f * 2 + 1, none⟩ (.int .i64 (x.2 : Int))) := (hb4.setCell (show w.heap.size ≤ g by omega) _).setCell (show w.heap.size ≤ g by omega) _
  simp only at ho4
  generalize ((w3.setCell ⟨g, f * 2, none⟩ (.slice Av nv cv)).setCell ⟨g, f * 2 + 1, none⟩ (.int .i64 (x.2 : Int))) = w4 at *
  have c2 := hB4.cell 2 (v := .slice A ps.length C) rfl
  have f2 := hB4.free 2
  clear hset hd d0 d1 e0 e1 fz0 fz1 hb4
  go_wp2_with fail
  (try simp only [Exit.inBlock, Exit.then])
  refine Great.bodyPost_end0 rfl rfl ?_
  have hRF : RFs (Jn (AndNew I w w4) y) w4 (.slice (some ⟨g, 0, none⟩) ps.length cap) (putD M f x).files := by
    refine ⟨ps.set f (.slice Av nv cv, x), ?_, ?_, ?_⟩
    · show M.files.set f x = _
      rw [HP.out.1, List.map_set]
    · rw [List.length_set]
      exact RSl.of_os ho4 (fun b h1 h2 => ⟨.inr ⟨by omega, h2⟩, by omega⟩)
    · have hkp : Kp (fun _ => False) w w4 := Kp.of_new hb5
      intro q hq
      rcases List.mem_or_eq_of_mem_set hq with hq | rfl
      · exact (HP.out.2.1 q hq).kp hkp (fun _ _ h => h) (fun b hb => ⟨.inl hb.1, hb.2⟩)
      · exact RB.kp ⟨Av, nv, cv, rfl, hnc, HV.out.1, HV.out.2.1⟩ hkp (fun _ _ h => h) (fun b hb => ⟨.inl hb.1, hb.2⟩)
  exact ⟨rfl, ⟨_, vN, vK, vC, vX, (HH.out.setF hb5 hRF).mono (fun b hb => hb.imp id (fun h => ⟨h.1, by rw [size_set]; exact h.2⟩))⟩, kp_set hb5 2 _⟩
/-- a change more -/
theorem RCs.snoc {I : Nat → Prop} {w w' : World} {y N : Nat} {v : Value} {rc : List RC8} {l : List Ch8} (c : RC8) (hl : l = rc.map rch) (hN : rc.length = N) (h : OS 4 w' w.heap.size v (N + 1) (ccells (rc ++ [c]))) (hy : y < w.heap.size) : RCs (Jn (AndNew I w w') y) w' v (l ++ [rch c]) := by
  refine ⟨rc ++ [c], by rw [hl, List.map_append]; rfl, ?_⟩
  rw [List.length_append, List.length_singleton, hN]
  exact RSl.of_os h (fun b h1 h2 => ⟨.inr ⟨h1, h2⟩, by omega⟩)
set_option maxHeartbeats 4000000 in
theorem rchange_any (h : RP w I y M vF vN vK vC vX) (hn : M.names.length ≤ 5000) (hc : M.chs.length ≤ 5000) (c : RC8) :
    Calls Try.prog 80 #[.pointer (some ⟨y, 0, none⟩), .agg #[.string c.fs, .int .i64 (c.ff : Int), .string c.ts, .int .i64 (c.tf : Int)]] w fun e w' => e = .returned (.int .i64 0) ∧ RD w' (AndNew I w w') y (changeD M (rch c)) ∧ Kp (fun b => b = y) w w' := by
  have hlt := h.blk.lt
  obtain ⟨An, Cn, rfl, hCn, hnv, hnA⟩ := h.names
  obtain ⟨rc, hrc, Ac, Cc, rfl, hCc, hcv, hcA⟩ := h.chs
  have hrl : rc.length = M.chs.length := by rw [hrc, List.length_map]
  have hw1 : Below w.heap.size w (w.alloc (.cells #[.string c.fs, .int .i64 (c.ff : Int), .string c.ts, .int .i64 (c.tf : Int)] 91)) := Joins.below_alloc1 _ _
  have hD := Bk.new w #[.string c.fs, .int .i64 (c.ff : Int), .string c.ts, .int .i64 (c.tf : Int)] 91
  have hB1 := h.blk.below hw1
  have hnv1 := SV.below hnv hw1
  have HH := Lib.hid h
  have HC := Lib.hid (And.intro hrc (And.intro hcv hcA))
  have HA := Lib.hid hnA
  have hnN := NV.len hnv
  have hrl5 : rc.length ≤ 5000 := by omega
  clear h hrc hcv hcA hnA hnv
  go_enter Try.func80, Try.ntmps80
  go_upto_region 1 with fail
  have hsz : (w.alloc (.cells #[.string c.fs, .int .i64 (c.ff : Int), .string c.ts, .int .i64 (c.tf : Int)] 91)).heap.size = w.heap.size + 1 := by simp
  generalize (w.alloc (.cells #[.string c.fs, .int .i64 (c.ff : Int), .string c.ts, .int .i64 (c.tf : Int)] 91)) = w1 at *
  have c3 := hB1.cell 3 (v := .slice An M.names.length Cn) rfl
  have d0 := hD.cell 0 (v := .string c.fs) rfl
  have d1 := hD.cell 1 (v := .int .i64 (c.ff : Int)) rfl
  have d2 := hD.cell 2 (v := .string c.ts) rfl
  have d3 := hD.cell 3 (v := .int .i64 (c.tf : Int)) rfl
  refine wp_region_noPanic ?_
  refine region_g 6 (Ext (World.drew _)) (by kernel_rfl) (Ext.refl _) (fun hS => ?_)
  refine take_w (i := 0) (v := ?_) (some 5) rfl (by kernel_rfl) rfl (fun _ _ _ h => h) (Or.inl ⟨by rfl, ?_⟩) hS ?_
  rotate_left
  · (intro wq hq; go_simp); first | done | with_reducible rfl
  try simp only [Act.put, List.setIfInBounds_toArray, List.set_cons_zero, List.set_cons_succ]
  replace hS := Till.list 0 hS
  refine take_w (i := 1) (v := ?_) (some 6) rfl (by kernel_rfl) rfl (fun _ _ _ h => h) (Or.inl ⟨by rfl, ?_⟩) hS ?_
  rotate_left
  · (intro wq hq; go_simp); first | done | with_reducible rfl
  try simp only [Act.put, List.setIfInBounds_toArray, List.set_cons_zero, List.set_cons_succ]
  replace hS := Till.list 1 hS
  refine take_g (i := 5) (v := ?_) [5] (some 10) rfl (by kernel_rfl) rfl (fun _ _ _ h => h) (Or.inl ⟨by rfl, ?_⟩) hS ?_
  rotate_left
  · (intro wq hq; have q0 := hq _ _ _ c3; have q1 := hq _ _ _ d0; have q2 := hq _ _ _ d1; have q3 := hq _ _ _ d2; have q4 := hq _ _ _ d3; go_simp); first | done | with_reducible rfl
  try simp only [Act.put, List.setIfInBounds_toArray, List.set_cons_zero, List.set_cons_succ]
  replace hS := Till.list 5 hS
  refine take_w (i := 2) (v := ?_) (some 7) rfl (by kernel_rfl) rfl (fun _ _ _ h => h) (Or.inl ⟨by rfl, ?_⟩) hS ?_
  rotate_left
  · (intro wq hq; go_simp); first | done | with_reducible rfl
  try simp only [Act.put, List.setIfInBounds_toArray, List.set_cons_zero, List.set_cons_succ]
  replace hS := Till.list 2 hS
  refine take_w (i := 3) (v := ?_) (some 8) rfl (by kernel_rfl) rfl (fun _ _ _ h => h) (Or.inl ⟨by rfl, ?_⟩) hS ?_
  rotate_left
  · (intro wq hq; go_simp); first | done | with_reducible rfl
  try simp only [Act.put, List.setIfInBounds_toArray, List.set_cons_zero, List.set_cons_succ]
  replace hS := Till.list 3 hS
  refine take_g (i := 4) (v := ?_) [4] (some 9) rfl (by kernel_rfl) rfl (fun _ _ _ h => h) (Or.inl ⟨by rfl, ?_⟩) hS ?_
  rotate_left
  · (intro wq hq; have q0 := hq _ _ _ c3; have q1 := hq _ _ _ d0; have q2 := hq _ _ _ d1; have q3 := hq _ _ _ d2; have q4 := hq _ _ _ d3; go_simp); first | done | with_reducible rfl
  try simp only [Act.put, List.setIfInBounds_toArray, List.set_cons_zero, List.set_cons_succ]
  replace hS := Till.list 4 hS
  refine ready_g (rs := [6]) (by kernel_rfl) (by simp) ?_
  refine AllReadyG.cons rfl (fun Kont hK => ?_) AllReadyG.nil
  go_simp
  refine (done8_any An M.names.length Cn M.names c _ hnv1.drew (by omega) hCn).mono ?_
  rintro e w2 ⟨A', n', c', rfl, hnc', hv', hbl', hb2⟩
  refine hK.out _ _ (Or.inl (by kernel_rfl)) (fun hS0 => ?_)
  clear hK Kont
  try simp only [Act.put, List.setIfInBounds_toArray, List.set_cons_zero, List.set_cons_succ]
  clear hS
  have hS := hS0
  clear hS0
  have hb2' : Below w1.heap.size w1 w2 := ⟨hb2.os, hb2.tape, hb2.output, hb2.size, hb2.block⟩
  have hb3 : Below w.heap.size w w2 := Below.then hw1 hb2'
  have hB2 := hB1.below hb2'
  have c3' := hB2.cell 3 (v := .slice An M.names.length Cn) rfl
  have f3' := hB2.free 3
  have hD2 := hD.below hb2'
  have hRN : RSl (Jn (AndNew I w w2) y) 2 w2 (.slice A' n' c') (doneN M.names (rch c)).length (ncells (doneN M.names (rch c))) :=
    RSl.names HA.out hlt hnc' hv' (fun x hx => (hbl' x hx).imp id (fun h => ⟨Nat.le_trans hw1.size h.1, h.2⟩))
  have hR := HH.out.setN hb3 hRN
  have hK := kp_set (y := y) hb3 3 (.slice A' n' c')
  have hD3 := hD2.other (c := y) (i := 3) (by omega) (.slice A' n' c')
  have hwl : w.heap.size < w2.heap.size := hD2.lt
  clear hnc' hv' hbl' hb2 c3 d0 d1 d2 d3 hB1 hnv1 hD hD2 hRN
  refine take_w (i := 7) (v := ?_) (some 12) rfl (by kernel_rfl) rfl (fun _ _ _ h => h) (Or.inl ⟨by rfl, ?_⟩) hS ?_
  rotate_left
  · (intro wq hq; go_simp); first | done | with_reducible rfl
  try simp only [Act.put, List.setIfInBounds_toArray, List.set_cons_zero, List.set_cons_succ]
  replace hS := Till.list 7 hS
  refine take_w (i := 8) (v := ?_) (some 13) rfl (by kernel_rfl) rfl (fun _ _ _ h => h) (Or.inl ⟨by rfl, ?_⟩) hS ?_
  rotate_left
  · (intro wq hq; go_simp); first | done | with_reducible rfl
  try simp only [Act.put, List.setIfInBounds_toArray, List.set_cons_zero, List.set_cons_succ]
  replace hS := Till.list 8 hS
  refine ready_g (rs := [9]) (by kernel_rfl) (by simp) ?_
  refine AllReadyG.cons rfl (fun Kont hK => ?_) AllReadyG.nil
  go_simp
  refine hK.out _ _ (Or.inl (by kernel_rfl)) (fun hS0 => ?_)
  clear hK Kont
  try simp only [Act.put, List.setIfInBounds_toArray, List.set_cons_zero, List.set_cons_succ]
  clear hS
  have hS := hS0
  clear hS0
  refine done_g (by kernel_rfl) (NoPanic.normal ?_) _
  clear hS
  clear c3' f3' hB2 hb2' hw1
  have hsw : (w2.setCell ⟨y, 3, none⟩ (.slice A' n' c')).heap.size = w2.heap.size := size_set _ _ _
  obtain ⟨N, hN⟩ : ∃ N, rc.length = N := ⟨_, rfl⟩
  rw [hN] at hR hCc hrl5
  have vk : SV 4 (w2.setCell ⟨y, 3, none⟩ (.slice A' n' c')) Ac N (ccells rc) := by
    have := HC.out.2.1
    rw [hN] at this
    exact (SV.below this hb3).set (fun x hx => (HC.out.2.2 x hx).2) _
  generalize (w2.setCell ⟨y, 3, none⟩ (.slice A' n' c')) = wb at *
  have hBw := hR.blk
  have c5 := hBw.cell 5 (v := .slice Ac N Cc) rfl
  have d0 := hD3.cell 0 (v := .string c.fs) rfl
  have d1 := hD3.cell 1 (v := .int .i64 (c.ff : Int)) rfl
  have d2 := hD3.cell 2 (v := .string c.ts) rfl
  have d3 := hD3.cell 3 (v := .int .i64 (c.tf : Int)) rfl
  have HN := Lib.hid hN
  have HR := Lib.hid hR
  have HK := Lib.hid hK
  have hlt' : y < wb.heap.size := by have := hb3.size; omega
  have HSW := Lib.hid hsw
  have hwl' : w.heap.size < wb.heap.size := by omega
  clear hN hR hK hD3 hnN hrl hsw
  go_wp2_with fail
  refine wp_region_noPanic ?_
  refine region_g 9 (Ext (World.drew _)) (by kernel_rfl) (Ext.refl _) (fun hS => ?_)
  refine take_w (i := 0) (v := ?_) (some 14) rfl (by kernel_rfl) rfl (fun _ _ _ h => h) (Or.inl ⟨by rfl, ?_⟩) hS ?_
  rotate_left
  · (intro wq hq; go_simp); first | done | with_reducible rfl
  try simp only [Act.put, List.setIfInBounds_toArray, List.set_cons_zero, List.set_cons_succ]
  replace hS := Till.list 0 hS
  refine take_w (i := 2) (v := ?_) (some 16) rfl (by kernel_rfl) rfl (fun _ _ _ h => h) (Or.inl ⟨by rfl, ?_⟩) hS ?_
  rotate_left
  · (intro wq hq; go_simp); first | done | with_reducible rfl
  try simp only [Act.put, List.setIfInBounds_toArray, List.set_cons_zero, List.set_cons_succ]
  replace hS := Till.list 2 hS
  refine take_g (i := 7) (v := ?_) [8, 7] (some 21) rfl (by kernel_rfl) rfl (fun _ _ _ h => h) (Or.inl ⟨by rfl, ?_⟩) hS ?_
  rotate_left
  · (intro wq hq; have q0 := hq _ _ _ c5; have q1 := hq _ _ _ d0; have q2 := hq _ _ _ d1; have q3 := hq _ _ _ d2; have q4 := hq _ _ _ d3; go_simp); first | done | with_reducible rfl
  try simp only [Act.put, List.setIfInBounds_toArray, List.set_cons_zero, List.set_cons_succ]
  replace hS := Till.list 7 hS
  refine take_w (i := 3) (v := ?_) (some 17) rfl (by kernel_rfl) rfl (fun _ _ _ h => h) (Or.inl ⟨by rfl, ?_⟩) hS ?_
  rotate_left
  · (intro wq hq; go_simp); first | done | with_reducible rfl
  try simp only [Act.put, List.setIfInBounds_toArray, List.set_cons_zero, List.set_cons_succ]
  replace hS := Till.list 3 hS
  refine take_w (i := 4) (v := ?_) (some 18) rfl (by kernel_rfl) rfl (fun _ _ _ h => h) (Or.inl ⟨by rfl, ?_⟩) hS ?_
  rotate_left
  · (intro wq hq; go_simp); first | done | with_reducible rfl
  try simp only [Act.put, List.setIfInBounds_toArray, List.set_cons_zero, List.set_cons_succ]
  replace hS := Till.list 4 hS
  refine take_g (i := 5) (v := ?_) [6, 5] (some 19) rfl (by kernel_rfl) rfl (fun _ _ _ h => h) (Or.inl ⟨by rfl, ?_⟩) hS ?_
  rotate_left
  · (intro wq hq; have q0 := hq _ _ _ c5; have q1 := hq _ _ _ d0; have q2 := hq _ _ _ d1; have q3 := hq _ _ _ d2; have q4 := hq _ _ _ d3; go_simp); first | done | with_reducible rfl
  try simp only [Act.put, List.setIfInBounds_toArray, List.set_cons_zero, List.set_cons_succ]
  replace hS := Till.list 5 hS
  refine ready_g (rs := [1, 8]) (by kernel_rfl) (by simp) ?_
  refine (AllReadyG.cons rfl (fun Kont hK => ?_) (AllReadyG.cons rfl (fun Kont hK => ?_) AllReadyG.nil))
  · skip
    go_simp
    refine hK.out _ _ (Or.inr ((hS.get (by kernel_rfl)).alloc _)) (fun hS0 => ?_)
    clear hK Kont
    try simp only [Act.put, List.setIfInBounds_toArray, List.set_cons_zero, List.set_cons_succ]
    clear hS
    have hS := hS0
    clear hS0
    refine ready_g (rs := [6, 8]) (by kernel_rfl) (by simp) ?_
    refine (AllReadyG.cons rfl (fun Kont hK => ?_) (AllReadyG.cons rfl (fun Kont hK => ?_) AllReadyG.nil))
    · skip
      refine want (by kernel_rfl) ?_
      refine wp_append_os el_chs8 (some 20) rfl (.tmp 15) (.tmp 19) rfl wb.heap.size _ 0 [] rfl (OS.lit (k := 4) wb.drew wb.heap.size (Nat.le_refl _) [] 0 91 rfl (by simp) (by simp) _ rfl) _ N _ (ccells rc) rfl (vk.drew.alloc _) (by omega) (by omega) (by simp) ?_
      intro v4 w4 ho4 hb4
      have hbW : Below wb.heap.size wb w4 := ((Below.refl _ _).alloc (Nat.le_refl _) _).drew.trans hb4
      refine hK.out _ _ (Or.inr (((hS.get (by kernel_rfl)).low hb4 (Nat.le_refl _)))) (fun hS0 => ?_)
      clear hK Kont
      try simp only [Act.put, List.setIfInBounds_toArray, List.set_cons_zero, List.set_cons_succ]
      clear hS
      have hS := hS0
      clear hS0
      refine ready_g (rs := [8]) (by kernel_rfl) (by simp) ?_
      refine AllReadyG.cons rfl (fun Kont hK => ?_) AllReadyG.nil
      go_simp
      have s6 := SV.lit' (k := 4) w4 [.string c.fs, .int .i64 (c.ff : Int), .string c.ts, .int .i64 (c.tf : Int)] 1 91 rfl (four_c _ _ _ _) w4.heap.size rfl
      replace hbW := hbW.alloc hbW.size (.cells #[.string c.fs, .int .i64 (c.ff : Int), .string c.ts, .int .i64 (c.tf : Int)] 91)
      replace ho4 := ho4.alloc (.cells #[.string c.fs, .int .i64 (c.ff : Int), .string c.ts, .int .i64 (c.tf : Int)] 91)
      rw [Nat.zero_add, List.nil_append] at ho4
      refine hK.out _ _ (Or.inr ((hS.get (by kernel_rfl)).alloc _)) (fun hS0 => ?_)
      clear hK Kont
      try simp only [Act.put, List.setIfInBounds_toArray, List.set_cons_zero, List.set_cons_succ]
      clear hS
      have hS := hS0
      clear hS0
      refine ready_g (rs := [9]) (by kernel_rfl) (by simp) ?_
      refine AllReadyG.cons rfl (fun Kont hK => ?_) AllReadyG.nil
      refine want (by kernel_rfl) ?_
      refine wp_append_os el_chs8 (some 23) rfl (.tmp 20) (.tmp 22) rfl wb.heap.size _ N (ccells rc) rfl ho4 _ 1 1 _ rfl s6 (by omega) (by omega) hbW.size ?_
      intro v5 w5 ho5 hb5
      replace hbW := hbW.trans hb5
      replace ho5 := (show OS 4 w5 wb.heap.size v5 (N + 1) (ccells rc ++ ccells [c]) from ho5)
      rw [← ccells_app] at ho5
      have c5' := (hBw.below hbW).cell 5 (v := .slice Ac N Cc) rfl
      have f5' := (hBw.below hbW).free 5
      have hRC := RCs.snoc (I := AndNew I w w2) (w := wb) (y := y) c HC.out.1 HN.out ho5 hlt'
      have hFin := Lib.hid (And.intro (HR.out.setC hbW hRC) (HK.out.trans (kp_set (y := y) hbW 5 v5)))
      obtain ⟨A5, C5, rfl⟩ := ho5.shape
      clear ho4 hb5 s6 ho5 hRC
      refine hK.out _ _ (Or.inl (by kernel_rfl)) (fun hS0 => ?_)
      clear hK Kont
      try simp only [Act.put, List.setIfInBounds_toArray, List.set_cons_zero, List.set_cons_succ]
      clear hS
      have hS := hS0
      clear hS0
      refine take_w (i := 10) (v := ?_) (some 24) rfl (by kernel_rfl) rfl (fun _ _ _ h => h) (Or.inl ⟨by rfl, ?_⟩) hS ?_
      rotate_left
      · (intro wq hq; go_simp); first | done | with_reducible rfl
      try simp only [Act.put, List.setIfInBounds_toArray, List.set_cons_zero, List.set_cons_succ]
      replace hS := Till.list 10 hS
      refine take_w (i := 11) (v := ?_) (some 25) rfl (by kernel_rfl) rfl (fun _ _ _ h => h) (Or.inl ⟨by rfl, ?_⟩) hS ?_
      rotate_left
      · (intro wq hq; go_simp); first | done | with_reducible rfl
      try simp only [Act.put, List.setIfInBounds_toArray, List.set_cons_zero, List.set_cons_succ]
      replace hS := Till.list 11 hS
      refine ready_g (rs := [12]) (by kernel_rfl) (by simp) ?_
      refine AllReadyG.cons rfl (fun Kont hK => ?_) AllReadyG.nil
      go_simp
      refine hK.out _ _ (Or.inl (by kernel_rfl)) (fun hS0 => ?_)
      clear hK Kont
      try simp only [Act.put, List.setIfInBounds_toArray, List.set_cons_zero, List.set_cons_succ]
      clear hS
      have hS := hS0
      clear hS0
      refine done_g (by kernel_rfl) (NoPanic.normal ?_) _
      clear hS
      go_wp2_with fail
      go_ret
      refine ⟨rfl, ⟨_, _, _, _, _, hFin.out.1.mono (fun b hb => ?_)⟩, hFin.out.2⟩
      have h1 := hbW.size
      have h2 := HK.out.size
      have h3 := HSW.out
      rcases hb with (hb | ⟨e1, e2⟩) | ⟨e1, e2⟩
      · exact .inl hb
      · exact .inr ⟨e1, by rw [size_set]; omega⟩
      · exact .inr ⟨by omega, by rw [size_set]; exact e2⟩
    · skip
      go_simp
      refine hK.out _ _ (Or.inr ((hS.get (by kernel_rfl)).alloc _)) (fun hS0 => ?_)
      clear hK Kont
      try simp only [Act.put, List.setIfInBounds_toArray, List.set_cons_zero, List.set_cons_succ]
      clear hS
      have hS := hS0
      clear hS0
      refine ready_g (rs := [6]) (by kernel_rfl) (by simp) ?_
      refine AllReadyG.cons rfl (fun Kont hK => ?_) AllReadyG.nil
      refine want (by kernel_rfl) ?_
      refine wp_append_os2 el_chs8 (some 20) rfl (.tmp 15) (.tmp 19) rfl wb.heap.size _ 0 [] rfl ((OS.lit (k := 4) wb.drew wb.heap.size (Nat.le_refl _) [] 0 91 rfl (by simp) (by simp) _ rfl).alloc _) _ N _ (ccells rc) rfl ((vk.drew.alloc _).alloc _) (by omega) (by omega) (by simp; omega) ?_
      intro v4 w4 ho4 hb4 _ hk4
      have hbW : Below wb.heap.size wb w4 := (((Below.refl _ _).alloc (Nat.le_refl _) _).alloc (by simp) _).drew.trans hb4
      have s6 := SV.lit' (k := 4) (wb.alloc (.cells #[] 91)) [.string c.fs, .int .i64 (c.ff : Int), .string c.ts, .int .i64 (c.tf : Int)] 1 91 rfl (four_c _ _ _ _) (wb.heap.size + 1) (by simp)
      rw [Nat.zero_add, List.nil_append] at ho4
      replace s6 := s6.drew.other (fun x hx hlt => hk4 x.block hlt (fun e => by cases hx; have e' : some wb.heap.size = some (wb.heap.size + 1) := e; simp at e'))
      clear hk4
      refine hK.out _ _ (Or.inr (((hS.get (by kernel_rfl)).low hb4 (Nat.le_refl _)))) (fun hS0 => ?_)
      clear hK Kont
      try simp only [Act.put, List.setIfInBounds_toArray, List.set_cons_zero, List.set_cons_succ]
      clear hS
      have hS := hS0
      clear hS0
      refine ready_g (rs := [9]) (by kernel_rfl) (by simp) ?_
      refine AllReadyG.cons rfl (fun Kont hK => ?_) AllReadyG.nil
      refine want (by kernel_rfl) ?_
      refine wp_append_os el_chs8 (some 23) rfl (.tmp 20) (.tmp 22) rfl wb.heap.size _ N (ccells rc) rfl ho4 _ 1 1 _ rfl s6 (by omega) (by omega) hbW.size ?_
      intro v5 w5 ho5 hb5
      replace hbW := hbW.trans hb5
      replace ho5 := (show OS 4 w5 wb.heap.size v5 (N + 1) (ccells rc ++ ccells [c]) from ho5)
      rw [← ccells_app] at ho5
      have c5' := (hBw.below hbW).cell 5 (v := .slice Ac N Cc) rfl
      have f5' := (hBw.below hbW).free 5
      have hRC := RCs.snoc (I := AndNew I w w2) (w := wb) (y := y) c HC.out.1 HN.out ho5 hlt'
      have hFin := Lib.hid (And.intro (HR.out.setC hbW hRC) (HK.out.trans (kp_set (y := y) hbW 5 v5)))
      obtain ⟨A5, C5, rfl⟩ := ho5.shape
      clear ho4 hb5 s6 ho5 hRC
      refine hK.out _ _ (Or.inl (by kernel_rfl)) (fun hS0 => ?_)
      clear hK Kont
      try simp only [Act.put, List.setIfInBounds_toArray, List.set_cons_zero, List.set_cons_succ]
      clear hS
      have hS := hS0
      clear hS0
      refine take_w (i := 10) (v := ?_) (some 24) rfl (by kernel_rfl) rfl (fun _ _ _ h => h) (Or.inl ⟨by rfl, ?_⟩) hS ?_
      rotate_left
      · (intro wq hq; go_simp); first | done | with_reducible rfl
      try simp only [Act.put, List.setIfInBounds_toArray, List.set_cons_zero, List.set_cons_succ]
      replace hS := Till.list 10 hS
      refine take_w (i := 11) (v := ?_) (some 25) rfl (by kernel_rfl) rfl (fun _ _ _ h => h) (Or.inl ⟨by rfl, ?_⟩) hS ?_
      rotate_left
      · (intro wq hq; go_simp); first | done | with_reducible rfl
      try simp only [Act.put, List.setIfInBounds_toArray, List.set_cons_zero, List.set_cons_succ]
      replace hS := Till.list 11 hS
      refine ready_g (rs := [12]) (by kernel_rfl) (by simp) ?_
      refine AllReadyG.cons rfl (fun Kont hK => ?_) AllReadyG.nil
      go_simp
      refine hK.out _ _ (Or.inl (by kernel_rfl)) (fun hS0 => ?_)
      clear hK Kont
      try simp only [Act.put, List.setIfInBounds_toArray, List.set_cons_zero, List.set_cons_succ]
      clear hS
      have hS := hS0
      clear hS0
      refine done_g (by kernel_rfl) (NoPanic.normal ?_) _
      clear hS
      go_wp2_with fail
      go_ret
      refine ⟨rfl, ⟨_, _, _, _, _, hFin.out.1.mono (fun b hb => ?_)⟩, hFin.out.2⟩
      have h1 := hbW.size
      have h2 := HK.out.size
      have h3 := HSW.out
      rcases hb with (hb | ⟨e1, e2⟩) | ⟨e1, e2⟩
      · exact .inl hb
      · exact .inr ⟨e1, by rw [size_set]; omega⟩
      · exact .inr ⟨by omega, by rw [size_set]; exact e2⟩
  · skip
    go_simp
    refine hK.out _ _ (Or.inr ((hS.get (by kernel_rfl)).alloc _)) (fun hS0 => ?_)
    clear hK Kont
    try simp only [Act.put, List.setIfInBounds_toArray, List.set_cons_zero, List.set_cons_succ]
    clear hS
    have hS := hS0
    clear hS0
    refine ready_g (rs := [1]) (by kernel_rfl) (by simp) ?_
    refine AllReadyG.cons rfl (fun Kont hK => ?_) AllReadyG.nil
    go_simp
    refine hK.out _ _ (Or.inr ((hS.get (by kernel_rfl)).alloc _)) (fun hS0 => ?_)
    clear hK Kont
    try simp only [Act.put, List.setIfInBounds_toArray, List.set_cons_zero, List.set_cons_succ]
    clear hS
    have hS := hS0
    clear hS0
    refine ready_g (rs := [6]) (by kernel_rfl) (by simp) ?_
    refine AllReadyG.cons rfl (fun Kont hK => ?_) AllReadyG.nil
    refine want (by kernel_rfl) ?_
    refine wp_append_os2 el_chs8 (some 20) rfl (.tmp 15) (.tmp 19) rfl wb.heap.size _ 0 [] rfl (OS.lit (k := 4) (wb.alloc (.cells #[.string c.fs, .int .i64 (c.ff : Int), .string c.ts, .int .i64 (c.tf : Int)] 91)) wb.heap.size (by simp) [] 0 91 rfl (by simp) (by simp) _ (by simp)) _ N _ (ccells rc) rfl ((vk.drew.alloc _).alloc _) (by omega) (by omega) (by simp; omega) ?_
    intro v4 w4 ho4 hb4 _ hk4
    have hbW : Below wb.heap.size wb w4 := (((Below.refl _ _).alloc (Nat.le_refl _) _).alloc (by simp) _).drew.trans hb4
    rw [Nat.zero_add, List.nil_append] at ho4
    have s6 := ((SV.lit' (k := 4) wb [.string c.fs, .int .i64 (c.ff : Int), .string c.ts, .int .i64 (c.tf : Int)] 1 91 rfl (four_c _ _ _ _) wb.heap.size rfl).alloc (.cells #[] 91)).drew.other (fun x hx hlt => hk4 x.block hlt (fun e => by cases hx; have e' : some (wb.heap.size + 1) = some wb.heap.size := e; simp at e'))
    clear hk4
    refine hK.out _ _ (Or.inr (((hS.get (by kernel_rfl)).low hb4 (Nat.le_refl _)))) (fun hS0 => ?_)
    clear hK Kont
    try simp only [Act.put, List.setIfInBounds_toArray, List.set_cons_zero, List.set_cons_succ]
    clear hS
    have hS := hS0
    clear hS0
    refine ready_g (rs := [9]) (by kernel_rfl) (by simp) ?_
    refine AllReadyG.cons rfl (fun Kont hK => ?_) AllReadyG.nil
    refine want (by kernel_rfl) ?_
    refine wp_append_os el_chs8 (some 23) rfl (.tmp 20) (.tmp 22) rfl wb.heap.size _ N (ccells rc) rfl ho4 _ 1 1 _ rfl s6 (by omega) (by omega) hbW.size ?_
    intro v5 w5 ho5 hb5
    replace hbW := hbW.trans hb5
    replace ho5 := (show OS 4 w5 wb.heap.size v5 (N + 1) (ccells rc ++ ccells [c]) from ho5)
    rw [← ccells_app] at ho5
    have c5' := (hBw.below hbW).cell 5 (v := .slice Ac N Cc) rfl
    have f5' := (hBw.below hbW).free 5
    have hRC := RCs.snoc (I := AndNew I w w2) (w := wb) (y := y) c HC.out.1 HN.out ho5 hlt'
    have hFin := Lib.hid (And.intro (HR.out.setC hbW hRC) (HK.out.trans (kp_set (y := y) hbW 5 v5)))
    obtain ⟨A5, C5, rfl⟩ := ho5.shape
    clear ho4 hb5 s6 ho5 hRC
    refine hK.out _ _ (Or.inl (by kernel_rfl)) (fun hS0 => ?_)
    clear hK Kont
    try simp only [Act.put, List.setIfInBounds_toArray, List.set_cons_zero, List.set_cons_succ]
    clear hS
    have hS := hS0
    clear hS0
    refine take_w (i := 10) (v := ?_) (some 24) rfl (by kernel_rfl) rfl (fun _ _ _ h => h) (Or.inl ⟨by rfl, ?_⟩) hS ?_
    rotate_left
    · (intro wq hq; go_simp); first | done | with_reducible rfl
    try simp only [Act.put, List.setIfInBounds_toArray, List.set_cons_zero, List.set_cons_succ]
    replace hS := Till.list 10 hS
    refine take_w (i := 11) (v := ?_) (some 25) rfl (by kernel_rfl) rfl (fun _ _ _ h => h) (Or.inl ⟨by rfl, ?_⟩) hS ?_
    rotate_left
    · (intro wq hq; go_simp); first | done | with_reducible rfl
    try simp only [Act.put, List.setIfInBounds_toArray, List.set_cons_zero, List.set_cons_succ]
    replace hS := Till.list 11 hS
    refine ready_g (rs := [12]) (by kernel_rfl) (by simp) ?_
    refine AllReadyG.cons rfl (fun Kont hK => ?_) AllReadyG.nil
    go_simp
    refine hK.out _ _ (Or.inl (by kernel_rfl)) (fun hS0 => ?_)
    clear hK Kont
    try simp only [Act.put, List.setIfInBounds_toArray, List.set_cons_zero, List.set_cons_succ]
    clear hS
    have hS := hS0
    clear hS0
    refine done_g (by kernel_rfl) (NoPanic.normal ?_) _
    clear hS
    go_wp2_with fail
    go_ret
    refine ⟨rfl, ⟨_, _, _, _, _, hFin.out.1.mono (fun b hb => ?_)⟩, hFin.out.2⟩
    have h1 := hbW.size
    have h2 := HK.out.size
    have h3 := HSW.out
    rcases hb with (hb | ⟨e1, e2⟩) | ⟨e1, e2⟩
    · exact .inl hb
    · exact .inr ⟨e1, by rw [size_set]; omega⟩
    · exact .inr ⟨by omega, by rw [size_set]; exact e2⟩
end
end Go.Proofs.Ytlagmjdldplblaa
