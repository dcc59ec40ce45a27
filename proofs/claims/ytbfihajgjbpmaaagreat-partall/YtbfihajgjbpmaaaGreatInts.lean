/- Texts that belong together, one behind the other: I5p, I5a, I5q, I5t, I5u. -/
import Derived.Test.YtbfihajgjbpmaaaGreatBase
/- Plain facts on columns of numbers: how they are put, in both ways, and that they are put in one way. -/
namespace Go.Proofs.YtbfihajgjbpmaaaGreat
set_option linter.unusedVariables false
set_option maxRecDepth 4000

def zigF (a : Int) : Int := if a < 0 then -2 * a - 1 else 2 * a
def zagF (x : Int) : Int := if x % 2 = 1 then - (x / 2) - 1 else x / 2
/-- numbers of 64 bits with a sign -/
abbrev I64s (l : List Int) : Prop := ∀ x ∈ l, -9223372036854775808 ≤ x ∧ x ≤ 9223372036854775807
/-- what goes round -/
def rd (x : Int) : Int := (x + 9223372036854775808) % 18446744073709551616 - 9223372036854775808
/-- without a sign -/
def un (x : Int) : Int := x % 18446744073709551616
theorem rd_bd (x : Int) : -9223372036854775808 ≤ rd x ∧ rd x ≤ 9223372036854775807 := by unfold rd; omega
theorem un_bd (x : Int) : 0 ≤ un x ∧ un x ≤ 18446744073709551615 := by unfold un; omega
theorem zig_bd {a : Int} (h : -9223372036854775808 ≤ a ∧ a ≤ 9223372036854775807) : 0 ≤ zigF a ∧ zigF a ≤ 18446744073709551615 := by unfold zigF; split <;> omega
theorem zag_zig (a : Int) : zagF (zigF a) = a := by
  unfold zagF zigF
  by_cases h : a < 0
  · rw [if_pos h, if_pos (by omega)]; omega
  · rw [if_neg h, if_neg (by omega)]; omega
theorem zig_zag {x : Int} (h : 0 ≤ x) : zigF (zagF x) = x := by
  unfold zagF zigF
  by_cases h2 : x % 2 = 1
  · rw [if_pos h2, if_pos (by omega)]; omega
  · rw [if_neg h2, if_neg (by omega)]; omega
theorem zag_bd {x : Int} (h : 0 ≤ x ∧ x ≤ 18446744073709551615) : -9223372036854775808 ≤ zagF x ∧ zagF x ≤ 9223372036854775807 := by unfold zagF; split <;> omega
/-- each less the one ahead of it -/
def dels : Int → List Int → List Int
  | _, [] => []
  | was, x :: l => rd (x - was) :: dels x l
theorem dels_len : ∀ (was : Int) (l : List Int), (dels was l).length = l.length
  | _, [] => rfl
  | was, x :: l => by rw [dels, List.length_cons, List.length_cons, dels_len x l]
theorem dels_i64 : ∀ (was : Int) (l : List Int), I64s (dels was l)
  | _, [], x, hx => by cases hx
  | was, y :: l, x, hx => by
    rw [dels] at hx
    rcases List.mem_cons.1 hx with rfl | hx
    · exact rd_bd _
    · exact dels_i64 y l x hx
theorem dels_app : ∀ (was : Int) (a b : List Int), dels was (a ++ b) = dels was a ++ dels (a.getLastD was) b
  | was, [], b => rfl
  | was, x :: a, b => by
    rw [List.cons_append, dels, dels, dels_app x a b, List.cons_append]
    cases a <;> rfl
theorem dels_inj : ∀ (was : Int) (l r : List Int), I64s l → I64s r → dels was l = dels was r → l = r
  | _, [], [], _, _, _ => rfl
  | _, [], y :: r, _, _, h => by simp [dels] at h
  | _, x :: l, [], _, _, h => by simp [dels] at h
  | was, x :: l, y :: r, hl, hr, h => by
    rw [dels, dels, List.cons.injEq] at h
    have h1 := hl x (List.mem_cons_self ..)
    have h2 := hr y (List.mem_cons_self ..)
    have e : x = y := by have := h.1; unfold rd at this; omega
    subst e
    rw [dels_inj x l r (fun z hz => hl z (List.mem_cons_of_mem _ hz)) (fun z hz => hr z (List.mem_cons_of_mem _ hz)) h.2]
def zigs (was : Int) (l : List Int) : List Int := (dels was l).map zigF
theorem zigs_len (was : Int) (l : List Int) : (zigs was l).length = l.length := by rw [zigs, List.length_map, dels_len]
theorem zigs_u64 (was : Int) (l : List Int) : U64s (zigs was l) := by
  intro x hx
  obtain ⟨a, ha, rfl⟩ := List.mem_map.1 hx
  exact zig_bd (dels_i64 was l a ha)
theorem zigs_inj {was : Int} {l r : List Int} (hl : I64s l) (hr : I64s r) (h : zigs was l = zigs was r) : l = r := by
  refine dels_inj was l r hl hr ?_
  have := congrArg (List.map zagF) h
  rw [zigs, zigs, List.map_map, List.map_map] at this
  have e : zagF ∘ zigF = id := funext zag_zig
  rwa [e, List.map_id, List.map_id] at this
/-- the numbers by their steps -/
def deltaL (was : Int) (l : List Int) : List Int := joinN (zigs was l)
theorem deltaL_app (was : Int) (a b : List Int) : deltaL was (a ++ b) = deltaL was a ++ deltaL (a.getLastD was) b := by
  rw [deltaL, zigs, dels_app, List.map_append, joinN_app]; rfl
theorem deltaL_cons (was x : Int) (l : List Int) : deltaL was (x :: l) = pv (zigF (rd (x - was))) ++ deltaL x l := rfl
/-- the numbers whole -/
def fixedL : List Int → List Int
  | [] => []
  | x :: l => w8 (un x) ++ fixedL l
theorem fixedL_len : ∀ l, (fixedL l).length = 8 * l.length
  | [] => rfl
  | x :: l => by rw [fixedL, List.length_append, fixedL_len l, w8_len, List.length_cons]; omega
theorem fixedL_app : ∀ a b, fixedL (a ++ b) = fixedL a ++ fixedL b
  | [], b => rfl
  | x :: a, b => by rw [List.cons_append, fixedL, fixedL, fixedL_app a b, List.append_assoc]
theorem w8_inj {x y : Int} (hx : 0 ≤ x ∧ x ≤ 18446744073709551615) (hy : 0 ≤ y ∧ y ≤ 18446744073709551615) (h : w8 x = w8 y) : x = y := by
  have h1 := acc8_w8 x hx.1 8 (by omega)
  have h2 := acc8_w8 y hy.1 8 (by omega)
  rw [h, h2] at h1
  have e : (2 : Int) ^ (8 * 8) = 18446744073709551616 := by decide
  rw [e] at h1
  omega
theorem fixedL_inj : ∀ (l r : List Int), I64s l → I64s r → fixedL l = fixedL r → l = r
  | [], [], _, _, _ => rfl
  | [], y :: r, _, _, h => by have := congrArg List.length h; rw [fixedL_len, fixedL_len] at this; simp at this
  | x :: l, [], _, _, h => by have := congrArg List.length h; rw [fixedL_len, fixedL_len] at this; simp at this
  | x :: l, y :: r, hl, hr, h => by
    rw [fixedL, fixedL] at h
    obtain ⟨h1, h2⟩ := List.append_inj h (by rw [w8_len, w8_len])
    have e := w8_inj (un_bd x) (un_bd y) h1
    have b1 := hl x (List.mem_cons_self ..)
    have b2 := hr y (List.mem_cons_self ..)
    have e' : x = y := by unfold un at e; omega
    rw [e', fixedL_inj l r (fun z hz => hl z (List.mem_cons_of_mem _ hz)) (fun z hz => hr z (List.mem_cons_of_mem _ hz)) h2]
/-- numbers that begin as others do -/
theorem joinN_begin : ∀ (a b : List Int), U64s a → U64s b → ∀ r, joinN a ++ r = joinN b → ∃ c, b = a ++ c ∧ r = joinN c
  | [], b, _, _, r, h => ⟨b, rfl, h⟩
  | x :: a, [], _, _, r, h => by
    have := pv_pos x
    have hl := congrArg List.length h
    rw [joinN, joinN, List.length_append, List.length_append] at hl
    simp only [List.length_nil] at hl; omega
  | x :: a, y :: b, ha, hb, r, h => by
    rw [joinN, joinN, List.append_assoc] at h
    obtain ⟨e1, e2⟩ := pv_cut (ha x (List.mem_cons_self ..)) (hb y (List.mem_cons_self ..)) h
    obtain ⟨c, e3, e4⟩ := joinN_begin a b (fun z hz => ha z (List.mem_cons_of_mem _ hz)) (fun z hz => hb z (List.mem_cons_of_mem _ hz)) r e2
    exact ⟨c, by rw [e1, e3]; rfl, e4⟩
theorem deltaL_cut {was : Int} {l l' : List Int} (hl : I64s l) (hl' : I64s l') (hn : l.length = l'.length) {r : List Int} (h : deltaL was l ++ r = deltaL was l') : l = l' ∧ r = [] := by
  obtain ⟨c, e1, e2⟩ := joinN_begin _ _ (zigs_u64 was l) (zigs_u64 was l') r h
  have hc : c = [] := by
    have := congrArg List.length e1
    rw [List.length_append, zigs_len, zigs_len] at this
    exact List.eq_nil_of_length_eq_zero (by omega)
  rw [hc, List.append_nil] at e1
  exact ⟨(zigs_inj hl' hl e1).symm, by rw [e2, hc]; rfl⟩
/-- which way is the shorter one -/
def shortB (l : List Int) : Bool := decide ((deltaL 0 l).length < 8 * l.length)
def bodyI (l : List Int) : List Int := if shortB l = true then 1 :: deltaL 0 l else 0 :: fixedL l
/-- how numbers are put -/
def putI (l : List Int) : List Int := pv (l.length : Int) ++ bodyI l
theorem bodyI_len (l : List Int) : 1 ≤ (bodyI l).length ∧ (bodyI l).length ≤ 8 * l.length + 1 := by
  unfold bodyI
  split
  · rename_i h
    have := of_decide_eq_true h
    simp; omega
  · rw [List.length_cons, fixedL_len]; omega
/-- what was put begins nothing else that was put -/
theorem putI_begin {l l' : List Int} (hl : I64s l) (hl' : I64s l') (hn : l.length ≤ 9223372036854775807) (hn' : l'.length ≤ 9223372036854775807) {r : List Int} (h : putI l ++ r = putI l') : l = l' ∧ r = [] := by
  rw [putI, putI, List.append_assoc] at h
  obtain ⟨e1, e2⟩ := pv_cut (by omega) (by omega) h
  have hnn : l.length = l'.length := by omega
  unfold bodyI at e2
  by_cases h1 : shortB l = true
  · by_cases h2 : shortB l' = true
    · rw [if_pos h1, if_pos h2, List.cons_append, List.cons.injEq] at e2
      exact deltaL_cut hl hl' hnn e2.2
    · rw [if_pos h1, if_neg h2, List.cons_append, List.cons.injEq] at e2
      exact absurd e2.1 (by decide)
  · by_cases h2 : shortB l' = true
    · rw [if_neg h1, if_pos h2, List.cons_append, List.cons.injEq] at e2
      exact absurd e2.1 (by decide)
    · rw [if_neg h1, if_neg h2, List.cons_append, List.cons.injEq] at e2
      have hl0 := congrArg List.length e2.2
      rw [List.length_append, fixedL_len, fixedL_len] at hl0
      have hr : r = [] := List.eq_nil_of_length_eq_zero (by omega)
      rw [hr, List.append_nil] at e2
      exact ⟨fixedL_inj l l' hl hl' e2.2, hr⟩
/-- the bytes are put of no numbers -/
def NoI (zs : List Int) : Prop := ∀ l, I64s l → l.length ≤ 2000 → putI l ≠ zs
theorem putI_inj {l l' : List Int} (hl : I64s l) (hl' : I64s l') (hn : l.length ≤ 2000) (hn' : l'.length ≤ 2000) (h : putI l = putI l') : l = l' :=
  (putI_begin hl hl' (by omega) (by omega) (r := []) (by rw [List.append_nil]; exact h)).1
/-- numbers that go on by one small step -/
def steps (x k : Int) : Nat → List Int
  | 0 => []
  | n + 1 => x :: steps (rd (x + k)) k n
end Go.Proofs.YtbfihajgjbpmaaaGreat
/- Contracts of package ints: Fixed, Delta, Put. -/
namespace Go.Proofs.YtbfihajgjbpmaaaGreat
open Go.ChangeShapes Go.WideShapes Go.ChangeAt Go.RowKit
set_option linter.unusedVariables false
set_option maxRecDepth 4000

theorem zig_any (a : Int) (w : World) (h : -9223372036854775808 ≤ a ∧ a ≤ 9223372036854775807) :
    Calls Tryz.prog 147 #[.int .i64 a] w fun e w' => e = .returned (.int .u64 (zigF a)) ∧ w' = w := by
  unfold zigF
  by_cases h0 : a < 0
  · rw [if_pos h0]; exact zig_neg a w h.1 h0
  · rw [if_neg h0]; exact zig_pos a w (by omega) h.2
theorem wrap_un (x : Int) : IntKind.u64.wrap x = un x := by rw [IntKind.wrap_u64]; rfl
theorem wrap_rd (x : Int) : IntKind.i64.wrap x = rd x := by rw [IntKind.wrap_i64]; unfold rd; omega
theorem i64_at {l : List Int} (h : I64s l) {j : Nat} (hj : j < l.length) : -9223372036854775808 ≤ l.getD j 0 ∧ l.getD j 0 ≤ 9223372036854775807 := by
  have := h (l[j]) (List.getElem_mem hj)
  simpa [List.getD, hj] using this
set_option maxHeartbeats 1000000 in
theorem fixed_any (A : Option Addr) (N C : Nat) (l : List Int) (w : World) (hv : IV w A N l) (hr : I64s l) (hN : N ≤ 100000) :
    Calls Tryz.prog 135 #[.slice A N C] w fun e w' => ∃ v, e = .returned v ∧ OW w' w.heap.size v (fixedL l) ∧ Below w.heap.size w w' := by
  have hl := Lib.hid (IV.len hv)
  go_enter Tryz.func135, Tryz.ntmps135
  go_wp2_with fail
  go_loopw [3, 8] (fun v i wr => ∃ (j : Nat) (bs : List Int), j ≤ N ∧ i = .int .i64 (j : Int) ∧ Hid (bs = fixedL (l.take j)) ∧ bs.length ≤ 8 * j ∧ OW wr w.heap.size v bs ∧ Below w.heap.size w wr) (fun _ i _ => N - (intOf i).toNat)
  case atStart => exact ⟨0, [], by omega, rfl, Lib.hid rfl, by simp, .inl ⟨rfl, rfl⟩, Below.refl _ _⟩
  case round =>
    obtain ⟨j, bs, hj, rfl, HB, hbl, ho, hbel⟩ := hrel
    by_cases hlt : j < N
    · obtain ⟨b, off, rfl, hcl⟩ := IV.at hv j hlt
      have hcl' := keepc hcl hbel
      have hx := i64_at hr (j := j) (by rw [hl.out]; exact hlt)
      have HS := Lib.hid (take_snocI l j (by rw [hl.out]; exact hlt))
      generalize l.getD j 0 = x at hcl' hx HS
      clear hcl
      have hun := un_bd x
      have hwu := wrap_un x
      have hsz := hbel.size
      have ho1 := ho.alloc (p64Obj (un x))
      have hb1 := hbel.alloc hbel.size (p64Obj (un x))
      have hs1 : w.heap.size ≤ (World.alloc _ (p64Obj (un x))).heap.size := hb1.size
      have bw := BV.w8 (un x)
      have HU := Lib.hid (rfl : un x = un x)
      generalize hu : un x = u at hun hwu bw ho1 hb1 hs1
      have HV := Lib.hid hu
      clear hu HU
      go_wp2_with fail
      refine (put64_any u _ hun.1 hun.2).mono ?_
      rintro e w1 ⟨rfl, rfl⟩
      go_wp2_with (at_builtin; refine append_ow rfl (.tmp 12) (.tmp 15) rfl w.heap.size _ bs rfl ho1 _ 8 8 _ rfl (bw _) (by omega) hs1 ?_; intro v2 w2 ho2 hb2)
      go_roundw
      case rel => exact ⟨j + 1, _, by omega, by go_num, Lib.hid (by rw [HS.out, fixedL_app, ← HB.out, fixedL, HV.out, fixedL, List.append_nil]), by rw [List.length_append, w8_len]; omega, ho2, hb1.trans hb2⟩
      case measure => simp [intOf]; omega
    · obtain rfl : j = N := by omega
      have HB' : Hid (bs = fixedL l) := Lib.hid (by rw [HB.out, ← hl.out, List.take_length])
      go_wp2_with fail
      go_ret
      exact ⟨_, rfl, by rw [← HB'.out]; exact ho, hbel⟩
theorem getLast_snoc (l : List Int) (x d : Int) : (l ++ [x]).getLastD d = x := by simp
theorem deltaL_snoc (l : List Int) (x : Int) : deltaL 0 (l ++ [x]) = deltaL 0 l ++ pv (zigF (rd (x - l.getLastD 0))) := by
  rw [deltaL_app, deltaL_cons]
  show _ ++ (_ ++ []) = _
  rw [List.append_nil]
theorem deltaL_len10 : ∀ (was : Int) (l : List Int), (deltaL was l).length ≤ 10 * l.length
  | _, [] => Nat.le_refl _
  | was, x :: l => by
    have := deltaL_len10 x l
    have := pv_len10 (x := zigF (rd (x - was))) (by have := zig_bd (rd_bd (x - was)); omega)
    rw [deltaL_cons, List.length_append, List.length_cons]; omega
set_option maxHeartbeats 1000000 in
theorem delta_any (A : Option Addr) (N C : Nat) (l : List Int) (w : World) (hv : IV w A N l) (hr : I64s l) (hN : N ≤ 100000) :
    Calls Tryz.prog 136 #[.slice A N C] w fun e w' => ∃ v, e = .returned v ∧ OW w' w.heap.size v (deltaL 0 l) ∧ Below w.heap.size w w' := by
  have hl := Lib.hid (IV.len hv)
  go_enter Tryz.func136, Tryz.ntmps136
  go_wp2_with fail
  go_loopw [3, 4, 9] (fun v p i wr => ∃ (j : Nat) (bs : List Int) (was : Int), j ≤ N ∧ i = .int .i64 (j : Int) ∧ p = .int .i64 was ∧ Hid (was = (l.take j).getLastD 0) ∧ Hid (bs = deltaL 0 (l.take j)) ∧ bs.length ≤ 10 * j ∧ OW wr w.heap.size v bs ∧ Below w.heap.size w wr) (fun _ _ i _ => N - (intOf i).toNat)
  case atStart => exact ⟨0, [], 0, by omega, rfl, rfl, Lib.hid rfl, Lib.hid rfl, by simp, .inl ⟨rfl, rfl⟩, Below.refl _ _⟩
  case round =>
    obtain ⟨j, bs, was, hj, rfl, rfl, HW, HB, hbl, ho, hbel⟩ := hrel
    by_cases hlt : j < N
    · obtain ⟨b, off, rfl, hcl⟩ := IV.at hv j hlt
      have hcl' := keepc hcl hbel
      have hx := i64_at hr (j := j) (by rw [hl.out]; exact hlt)
      have HS := Lib.hid (take_snocI l j (by rw [hl.out]; exact hlt))
      generalize l.getD j 0 = x at hcl' hx HS
      clear hcl
      have hwr := wrap_rd (x - was)
      have hd := rd_bd (x - was)
      obtain ⟨d, hd1⟩ : ∃ d, rd (x - was) = d := ⟨_, rfl⟩
      rw [hd1] at hwr hd
      have HD := Lib.hid hd1
      clear hd1
      have hz := zig_bd hd
      have HZ := Lib.hid (rfl : zigF d = zigF d)
      obtain ⟨u, hu⟩ : ∃ u, zigF d = u := ⟨_, rfl⟩
      have HV := Lib.hid hu
      clear HZ
      rw [hu] at hz
      have hlp := pv_len10 (x := u) (by omega)
      have ho1 := ho.alloc (pvObj u)
      have hb1 := hbel.alloc hbel.size (pvObj u)
      have hs1 : w.heap.size ≤ (World.alloc _ (pvObj u)).heap.size := hb1.size
      clear hu
      go_wp2_with fail
      refine (zig_any d _ hd).mono ?_
      rw [HV.out]
      rintro e w1 ⟨rfl, rfl⟩
      go_wp2_with fail
      refine (putvar_any u _ hz.1 hz.2).mono ?_
      rintro e w1 ⟨rfl, rfl⟩
      go_wp2_with (at_builtin; refine append_ow rfl (.tmp 13) (.tmp 18) rfl w.heap.size _ bs rfl ho1 _ _ 10 _ rfl (BV.pv _ hz.1) (by omega) hs1 ?_; intro v2 w2 ho2 hb2)
      go_roundw
      case rel => exact ⟨j + 1, _, x, by omega, by go_num, rfl, Lib.hid (by rw [HS.out, getLast_snoc]), Lib.hid (by rw [HS.out, deltaL_snoc, ← HB.out, ← HW.out, HD.out, HV.out]), by rw [List.length_append]; omega, ho2, hb1.trans hb2⟩
      case measure => simp [intOf]; omega
    · obtain rfl : j = N := by omega
      have HB' : Hid (bs = deltaL 0 l) := Lib.hid (by rw [HB.out, ← hl.out, List.take_length])
      go_wp2_with fail
      go_ret
      exact ⟨_, rfl, by rw [← HB'.out]; exact ho, hbel⟩
theorem deltaL_bytes (was : Int) (l : List Int) : ∀ z ∈ deltaL was l, 0 ≤ z ∧ z ≤ 255 := by
  induction l generalizing was with
  | nil => intro z hz; cases hz
  | cons x l ih =>
    intro z hz
    rw [deltaL_cons] at hz
    rcases List.mem_append.1 hz with hz | hz
    · exact pv_bytes (zig_bd (rd_bd _)).1 z hz
    · exact ih x z hz
theorem fixedL_bytes : ∀ (l : List Int), ∀ z ∈ fixedL l, 0 ≤ z ∧ z ≤ 255
  | [], z, hz => by cases hz
  | x :: l, z, hz => by
    rw [fixedL] at hz
    rcases List.mem_append.1 hz with hz | hz
    · exact w8_bytes _ z hz
    · exact fixedL_bytes l z hz
theorem bodyI_bytes (l : List Int) : ∀ z ∈ bodyI l, 0 ≤ z ∧ z ≤ 255 := by
  intro z hz
  unfold bodyI at hz
  split at hz
  · rcases List.mem_cons.1 hz with rfl | hz
    · omega
    · exact deltaL_bytes 0 l z hz
  · rcases List.mem_cons.1 hz with rfl | hz
    · omega
    · exact fixedL_bytes l z hz
theorem putI_bytes (l : List Int) : ∀ z ∈ putI l, 0 ≤ z ∧ z ≤ 255 := by
  intro z hz
  rcases List.mem_append.1 hz with hz | hz
  · exact pv_bytes (by omega) z hz
  · exact bodyI_bytes l z hz
set_option maxHeartbeats 1000000 in
theorem putI_any (A : Option Addr) (N C : Nat) (l : List Int) (w : World) (hv : IV w A N l) (hr : I64s l) (hN : N ≤ 100000) :
    Calls Tryz.prog 120 #[.slice A N C] w fun e w' => ∃ v, e = .returned v ∧ OW w' w.heap.size v (putI l) ∧ Below w.heap.size w w' := by
  have hl := IV.len hv
  have HL := Lib.hid hl
  have hwu : IntKind.u64.wrap (N : Int) = (N : Int) := u64_same (by omega) (by omega)
  have hlp := pv_len10 (x := (N : Int)) (by omega)
  have ho0 := OW.pv (N : Int) w w.heap.size (Nat.le_refl _) (by omega) w.heap.size rfl
  have hb0 := (Below.refl w.heap.size w).alloc (Nat.le_refl _) (pvObj (N : Int))
  have hv0 := hv.alloc (pvObj (N : Int))
  have hlf := fixedL_len l
  have hld := deltaL_len10 0 l
  rw [hl] at hlf hld
  obtain ⟨D, hD⟩ : ∃ D, (deltaL 0 l).length = D := ⟨_, rfl⟩
  obtain ⟨F, hF⟩ : ∃ F, 8 * N = F := ⟨_, rfl⟩
  have HD := Lib.hid hD
  have HF := Lib.hid (hlf.trans hF)
  have HB : Hid (shortB l = decide (D < F)) := Lib.hid (by rw [shortB, hD, HL.out, hF])
  have hFb : F ≤ 800000 := by omega
  rw [hD] at hld
  clear hl hlf hD hF
  go_enter Tryz.func120, Tryz.ntmps120
  go_wp2_with fail
  refine (putvar_any (N : Int) _ (by omega) (by omega)).mono ?_
  rintro e w1 ⟨rfl, rfl⟩
  have hs0 : w.heap.size < (w.alloc (pvObj (N : Int))).heap.size := by simp
  generalize w.alloc (pvObj (N : Int)) = w0 at *
  go_wp2_with fail
  refine (fixed_any A N C l _ hv0 hr hN).mono ?_
  rintro e w1 ⟨vf, rfl, of1, hb1⟩
  obtain ⟨af, cf, rfl, hcf, -, bf, lf⟩ := of1.bvn (fixedL_bytes l) F HF.out
  have hs1 := hb1.size
  replace ho0 := ho0.below hb1
  replace hv0 := hv0.below hb1
  replace hb0 := Below.then hb0 hb1
  clear of1 hb1
  go_wp2_with fail
  refine (delta_any A N C l _ hv0 hr hN).mono ?_
  rintro e w2 ⟨vd, rfl, od1, hb2⟩
  obtain ⟨ad, cd, rfl, hcd, -, bd, ld⟩ := od1.bvn (deltaL_bytes 0 l) D HD.out
  have hs2 := hb2.size
  replace ho0 := ho0.below hb2
  replace bf := bf.below hb2
  replace hb0 := Below.then hb0 hb2
  clear od1 hb2 hv0
  by_cases hlt : D < F
  · have hlti : (D : Int) < (F : Int) := by omega
    have b1 := BV.one1 w2 1 (by omega) (by omega)
    replace ho0 := ho0.alloc (.cells #[.int .u8 1] 5)
    replace bd := bd.alloc (.cells #[.int .u8 1] 5)
    replace hb0 := hb0.alloc hb0.size (.cells #[.int .u8 1] 5)
    have hs3 := hb0.size
    go_wp2_with (at_builtin; first | (refine append_ow2 rfl (.tmp 19) (.tmp 20) rfl w.heap.size _ _ rfl ho0 _ 1 1 _ rfl b1 (by omega) hs3 ?_; intro v3 w3 ho3 hb3 _ hk3; have bd3 := bd.other (fun x hx hlt => hk3 x.block hlt (fun h => by have h1 : some w.heap.size = some x.block := h; have h2 := Option.some.inj h1; have := ld x hx; omega)); clear hk3) | (refine append_ow rfl (.tmp 22) (.tmp 23) rfl w.heap.size _ _ rfl ho3 _ _ _ _ rfl bd3 (by rw [List.length_append, List.length_singleton]; omega) (Nat.le_trans hs3 (hb3.size)) ?_; intro v4 w4 ho4 hb4))
    go_ret
    refine ⟨_, rfl, ?_, (hb0.trans hb3).trans hb4⟩
    rw [putI, bodyI, HB.out, if_pos (decide_eq_true hlt), HL.out]
    rw [List.append_assoc] at ho4
    exact ho4
  · have hlti : ¬ (D : Int) < (F : Int) := by omega
    have b1 := BV.one1 w2 0 (by omega) (by omega)
    replace ho0 := ho0.alloc (.cells #[.int .u8 0] 5)
    replace bf := bf.alloc (.cells #[.int .u8 0] 5)
    replace hb0 := hb0.alloc hb0.size (.cells #[.int .u8 0] 5)
    have hs3 := hb0.size
    go_wp2_with (at_builtin; first | (refine append_ow2 rfl (.tmp 25) (.tmp 26) rfl w.heap.size _ _ rfl ho0 _ 1 1 _ rfl b1 (by omega) hs3 ?_; intro v3 w3 ho3 hb3 _ hk3; have bf3 := bf.other (fun x hx hlt => hk3 x.block hlt (fun h => by have h1 : some w.heap.size = some x.block := h; have h2 := Option.some.inj h1; have := lf x hx; omega)); clear hk3) | (refine append_ow rfl (.tmp 28) (.tmp 29) rfl w.heap.size _ _ rfl ho3 _ _ _ _ rfl bf3 (by rw [List.length_append, List.length_singleton]; omega) (Nat.le_trans hs3 (hb3.size)) ?_; intro v4 w4 ho4 hb4))
    go_ret
    refine ⟨_, rfl, ?_, (hb0.trans hb3).trans hb4⟩
    rw [putI, bodyI, HB.out, if_neg (by simpa using hlt), HL.out]
    rw [List.append_assoc] at ho4
    exact ho4
end Go.Proofs.YtbfihajgjbpmaaaGreat
/- Plain facts on how numbers are read. -/
namespace Go.Proofs.YtbfihajgjbpmaaaGreat
open Go.ChangeShapes Go.WideShapes Go.ChangeAt Go.RowKit
set_option linter.unusedVariables false
set_option maxRecDepth 4000

/-- eight bytes are those of the number that they say -/
theorem w8_acc8 {r : List Int} (h : Byts r) (hl : 8 ≤ r.length) : w8 (acc8 r 8) = r.take 8 := by
  have b0 := byts_at h (j := 0) (by omega)
  have b1 := byts_at h (j := 1) (by omega)
  have b2 := byts_at h (j := 2) (by omega)
  have b3 := byts_at h (j := 3) (by omega)
  have b4 := byts_at h (j := 4) (by omega)
  have b5 := byts_at h (j := 5) (by omega)
  have b6 := byts_at h (j := 6) (by omega)
  have b7 := byts_at h (j := 7) (by omega)
  have e : r.take 8 = [r.getD 0 0, r.getD 1 0, r.getD 2 0, r.getD 3 0, r.getD 4 0, r.getD 5 0, r.getD 6 0, r.getD 7 0] := by
    refine List.ext_getElem (by simp; omega) (fun i h1 h2 => ?_)
    simp only [List.length_cons, List.length_nil] at h2
    rw [List.getElem_take]
    have hi : i < r.length := by omega
    have g : r[i] = r.getD i 0 := by simp [List.getD, hi]
    rw [g]
    match i, h2 with
    | 0, _ => rfl
    | 1, _ => rfl
    | 2, _ => rfl
    | 3, _ => rfl
    | 4, _ => rfl
    | 5, _ => rfl
    | 6, _ => rfl
    | 7, _ => rfl
  have p0 : (2 : Int) ^ (8 * 0) = 1 := by decide
  have p1 : (2 : Int) ^ (8 * 1) = 256 := by decide
  have p2 : (2 : Int) ^ (8 * 2) = 65536 := by decide
  have p3 : (2 : Int) ^ (8 * 3) = 16777216 := by decide
  have p4 : (2 : Int) ^ (8 * 4) = 4294967296 := by decide
  have p5 : (2 : Int) ^ (8 * 5) = 1099511627776 := by decide
  have p6 : (2 : Int) ^ (8 * 6) = 281474976710656 := by decide
  have p7 : (2 : Int) ^ (8 * 7) = 72057594037927936 := by decide
  have ea : acc8 r 8 = 0 + r.getD 0 0 * 1 + r.getD 1 0 * 256 + r.getD 2 0 * 65536 + r.getD 3 0 * 16777216 + r.getD 4 0 * 4294967296 + r.getD 5 0 * 1099511627776 + r.getD 6 0 * 281474976710656 + r.getD 7 0 * 72057594037927936 := by
    rw [← p0, ← p1, ← p2, ← p3, ← p4, ← p5, ← p6, ← p7]; rfl
  rw [e, ea]
  generalize r.getD 0 0 = z0 at *
  generalize r.getD 1 0 = z1 at *
  generalize r.getD 2 0 = z2 at *
  generalize r.getD 3 0 = z3 at *
  generalize r.getD 4 0 = z4 at *
  generalize r.getD 5 0 = z5 at *
  generalize r.getD 6 0 = z6 at *
  generalize r.getD 7 0 = z7 at *
  generalize hx : 0 + z0 * 1 + z1 * 256 + z2 * 65536 + z3 * 16777216 + z4 * 4294967296 + z5 * 1099511627776 + z6 * 281474976710656 + z7 * 72057594037927936 = x
  show [d8 x 0, d8 x 1, d8 x 2, d8 x 3, d8 x 4, d8 x 5, d8 x 6, d8 x 7] = _
  unfold d8
  rw [p0, p1, p2, p3, p4, p5, p6, p7]
  clear ea e p0 p1 p2 p3 p4 p5 p6 p7 h hl
  simp only [List.cons.injEq, and_true]
  refine ⟨by omega, by omega, by omega, by omega, by omega, by omega, by omega, by omega⟩
theorem un_rd {x : Int} (h : 0 ≤ x ∧ x ≤ 18446744073709551615) : un (rd x) = x := by unfold un rd; omega
theorem fixedL_one (x : Int) : fixedL [x] = w8 (un x) := by rw [fixedL, fixedL, List.append_nil]
/-- one more number is read whole -/
theorem fixed_step {p r : List Int} {x : Int} (hr : Byts r) (hl : 8 ≤ r.length) (hx : acc8 r 8 = x) : fixedL p ++ r = fixedL (p ++ [rd x]) ++ r.drop 8 := by
  have hb := acc8_bd r hr 8 hl
  have e : (2 : Int) ^ (8 * 8) = 18446744073709551616 := by decide
  rw [e, hx] at hb
  rw [fixedL_app, fixedL_one, un_rd (by omega), ← hx, w8_acc8 hr hl, List.append_assoc, List.take_append_drop]
theorem fixed_few {p r zs : List Int} {N : Nat} (hz : zs = fixedL p ++ r) (hp : p.length < N) (hl : r.length < 8) : ∀ k, I64s k → k.length = N → fixedL k ≠ zs := by
  intro k _ hk h
  have := congrArg List.length h
  rw [hz, List.length_append, fixedL_len, fixedL_len, hk] at this
  omega
theorem fixed_one {l r zs : List Int} {N : Nat} (hz : zs = fixedL l ++ r) (hl : l.length = N) (hi : I64s l) : ∀ k, I64s k → k.length = N → fixedL k = zs → k = l := by
  intro k hk hkl h
  rw [hz] at h
  have hr : r = [] := by
    have := congrArg List.length h
    rw [List.length_append, fixedL_len, fixedL_len, hkl, hl] at this
    exact List.eq_nil_of_length_eq_zero (by omega)
  rw [hr, List.append_nil] at h
  exact fixedL_inj k l hk hi h
/-- one more number is read by its step -/
theorem delta_step {p r r' : List Int} {y was : Int} (hy : 0 ≤ y ∧ y ≤ 18446744073709551615) (hw : was = p.getLastD 0) (hr : r = pv y ++ r') : deltaL 0 p ++ r = deltaL 0 (p ++ [rd (was + zagF y)]) ++ r' := by
  have hz := zag_bd hy
  have e : rd (rd (was + zagF y) - was) = zagF y := by unfold rd; omega
  rw [deltaL_snoc, ← hw, e, zig_zag hy.1, hr, List.append_assoc]
theorem delta_few {p r zs : List Int} {N : Nat} (hz : zs = deltaL 0 p ++ r) (hp : p.length < N) (hv : (varR r).2 = 0) : ∀ k, I64s k → k.length = N → deltaL 0 k ≠ zs := by
  intro k hk hkl h
  rw [hz] at h
  obtain ⟨c, e1, e2⟩ := joinN_begin _ _ (zigs_u64 0 p) (zigs_u64 0 k) r h.symm
  cases c with
  | nil =>
    have := congrArg List.length e1
    rw [List.append_nil, zigs_len, zigs_len] at this
    omega
  | cons y c =>
    have hy : 0 ≤ y ∧ y ≤ 18446744073709551615 := zigs_u64 0 k y (by rw [e1]; simp)
    have := varR_put y (joinN c) hy.1 hy.2
    rw [e2, joinN, this] at hv
    have hp := pv_pos y
    simp at hv
    rw [hv] at hp
    simp at hp
theorem delta_one {l r zs : List Int} {N : Nat} (hz : zs = deltaL 0 l ++ r) (hl : l.length = N) (hi : I64s l) : ∀ k, I64s k → k.length = N → deltaL 0 k = zs → k = l := by
  intro k hk hkl h
  rw [hz] at h
  exact (deltaL_cut hi hk (by omega) h.symm).1.symm
/-- what zs says, when it says how many -/
theorem putI_of {zs body : List Int} {c : Int} (hc : 0 ≤ c ∧ c ≤ 18446744073709551615) (hz : zs = pv c ++ body) {k : List Int} (hk : k.length ≤ 2000) (h : putI k = zs) : (k.length : Int) = c ∧ bodyI k = body := by
  rw [hz, putI] at h
  exact pv_cut (by omega) hc h
theorem noI_none {zs : List Int} (h : (varR zs).2 = 0) : NoI zs := by
  intro k hk hn hp
  have := varR_put (k.length : Int) (bodyI k) (by omega) (by omega)
  rw [← putI, hp] at this
  rw [this] at h
  have := pv_pos (k.length : Int)
  simp at h
  rw [h] at this
  simp at this
theorem noI_many {zs body : List Int} {c : Int} (hc : 0 ≤ c ∧ c ≤ 18446744073709551615) (hz : zs = pv c ++ body) (h : 2000 < c) : NoI zs := by
  intro k hk hn hp
  have := (putI_of hc hz hn hp).1
  omega
theorem noI_empty {zs : List Int} {c : Int} (hc : 0 ≤ c ∧ c ≤ 18446744073709551615) (hz : zs = pv c) : NoI zs := by
  intro k hk hn hp
  have h1 := (putI_of (body := []) hc (by rw [List.append_nil]; exact hz) hn hp).2
  have h2 := (bodyI_len k).1
  rw [h1] at h2
  simp at h2
theorem noI_way {zs r : List Int} {c y : Int} (hc : 0 ≤ c ∧ c ≤ 18446744073709551615) (hz : zs = pv c ++ (y :: r)) (h0 : y ≠ 0) (h1 : y ≠ 1) : NoI zs := by
  intro k hk hn hp
  have h2 := (putI_of hc hz hn hp).2
  unfold bodyI at h2
  split at h2
  · rw [List.cons.injEq] at h2; exact h1 h2.1.symm
  · rw [List.cons.injEq] at h2; exact h0 h2.1.symm
theorem way0 {zs r : List Int} {c : Int} {N : Nat} (hc : 0 ≤ c ∧ c ≤ 18446744073709551615) (hz : zs = pv c ++ (0 :: r)) (hN : c = (N : Int)) {k : List Int} (hn : k.length ≤ 2000) (hp : putI k = zs) : k.length = N ∧ fixedL k = r := by
  obtain ⟨h1, h2⟩ := putI_of hc hz hn hp
  unfold bodyI at h2
  split at h2
  · rw [List.cons.injEq] at h2; exact absurd h2.1 (by decide)
  · rw [List.cons.injEq] at h2; exact ⟨by omega, h2.2⟩
theorem way1 {zs r : List Int} {c : Int} {N : Nat} (hc : 0 ≤ c ∧ c ≤ 18446744073709551615) (hz : zs = pv c ++ (1 :: r)) (hN : c = (N : Int)) {k : List Int} (hn : k.length ≤ 2000) (hp : putI k = zs) : k.length = N ∧ deltaL 0 k = r := by
  obtain ⟨h1, h2⟩ := putI_of hc hz hn hp
  unfold bodyI at h2
  split at h2
  · rw [List.cons.injEq] at h2; exact ⟨by omega, h2.2⟩
  · rw [List.cons.injEq] at h2; exact absurd h2.1 (by decide)
end Go.Proofs.YtbfihajgjbpmaaaGreat
/- Contracts of package ints: readFixed, readDelta, read, Take. -/
namespace Go.Proofs.YtbfihajgjbpmaaaGreat
open Go.ChangeShapes Go.WideShapes Go.ChangeAt Go.RowKit
set_option linter.unusedVariables false
set_option maxRecDepth 4000

theorem zag_any (a : Int) (w : World) (h : 0 ≤ a ∧ a ≤ 18446744073709551615) :
    Calls Tryz.prog 156 #[.int .u64 a] w fun e w' => e = .returned (.int .i64 (zagF a)) ∧ w' = w := by
  unfold zagF
  by_cases h0 : a % 2 = 1
  · rw [if_pos h0]; exact zag_odd a w h.1 h.2 h0
  · rw [if_neg h0]; exact zag_even a w h.1 h.2 (by omega)
theorem make_i64s (N : Nat) (h : N ≤ 2000) (w : World) : (Instr.makeSlice 100 (.int .i64 (N : Int)) (.int .i64 (N : Int))).run Tryz.prog w = .ok (.slice (some ⟨w.heap.size, 0, none⟩) N N) (w.alloc (.cells (icells (List.replicate N 0)).toArray 2)) := by
  have := run_make_row' (P := Tryz.prog) 100 2 (.int .i64 0) 8 Tryz.underlying100 (by kernel_rfl) rfl .i64 .i64 N (by omega) (by omega) w
  rw [madeCells_int] at this
  exact this
/-- what readFixed and readDelta tell -/
def ReadE (w w' : World) (N : Nat) (G : List Int → Prop) (e : Ending) : Prop :=
  (∃ (A : Option Addr) (C : Nat) (l : List Int), e = .returned (.tuple #[.slice A N C, .bool true]) ∧ N ≤ C ∧ I64s l ∧ IV w' A N l ∧ (∀ k, I64s k → k.length = N → G k → k = l) ∧ Below w.heap.size w w') ∨
  (e = .returned (.tuple #[.slice none 0 0, .bool false]) ∧ (∀ k, I64s k → k.length = N → ¬ G k) ∧ Below w.heap.size w w')
theorem i64_snoc {p : List Int} (h : I64s p) (x : Int) : I64s (p ++ [rd x]) := by
  intro y hy
  rcases List.mem_append.1 hy with hy | hy
  · exact h y hy
  · rw [List.mem_singleton.1 hy]; exact rd_bd x
theorem OS.begin {w : World} {N : Nat} (h : N ≤ maxLen) : OS 1 (w.alloc (.cells (icells (List.replicate N 0)).toArray 2)) w.heap.size (.slice (some ⟨w.heap.size, 0, none⟩) N N) N (icells ([] ++ List.replicate (N - 0) 0)) := by
  rw [List.nil_append, Nat.sub_zero]
  exact OS.lit (k := 1) w w.heap.size (Nat.le_refl _) _ N 2 (by simp [icells]) (icells_one _) h _ rfl
theorem fill_at {p : List Int} {j N : Nat} (hp : p.length = j) (h : j < N) : (icells (p ++ List.replicate (N - j) 0))[j]? = some (.int .i64 0) := by
  subst hp
  obtain ⟨m, hm⟩ : ∃ m, N - p.length = m + 1 := ⟨N - p.length - 1, by omega⟩
  rw [hm, List.replicate_succ, icells, List.map_append, List.getElem?_append_right (by simp)]
  simp
theorem fill_set {p : List Int} {j N : Nat} {x : Int} (hp : p.length = j) (h : j < N) : (icells (p ++ List.replicate (N - j) 0)).set j (.int .i64 x) = icells ((p ++ [x]) ++ List.replicate (N - (j + 1)) 0) := by
  subst hp; exact set_fill p N x h
set_option maxHeartbeats 2000000 in
theorem readf_any (N : Nat) (hN : N ≤ 2000) (a0 : Option Addr) (n0 c0 : Nat) (zs : List Int) (w : World) (hv0 : BV w a0 n0 zs) (hc0 : n0 ≤ c0) :
    Calls Tryz.prog 151 #[.int .i64 (N : Int), .slice a0 n0 c0] w fun e w' => ReadE w w' N (fun k => fixedL k = zs) e := by
  have hmk := make_i64s N hN
  go_enter Tryz.func151, Tryz.ntmps151
  go_wp2_with fail
  clear hmk
  have o0 := OS.begin (w := w) (few_max' (n := N) (by omega))
  have hw0 : Below w.heap.size w (w.alloc (.cells (icells (List.replicate N 0)).toArray 2)) := Joins.below_alloc1 _ _
  go_loopw [1, 13] (fun v i wr => ∃ (j : Nat) (a : Option Addr) (n c : Nat) (p r : List Int), j ≤ N ∧ i = .int .i64 (j : Int) ∧ v = .slice a n c ∧ n ≤ c ∧ BV w a n r ∧ Hid (p.length = j) ∧ I64s p ∧ Hid (zs = fixedL p ++ r) ∧ OS 1 wr w.heap.size (.slice (some ⟨w.heap.size, 0, none⟩) N N) N (icells (p ++ List.replicate (N - j) 0)) ∧ Below w.heap.size w wr) (fun _ i _ => N - (intOf i).toNat)
  case atStart => exact ⟨0, _, _, _, [], zs, by omega, rfl, rfl, hc0, hv0, Lib.hid rfl, (fun x hx => by cases hx), Lib.hid rfl, o0, hw0⟩
  case round =>
    clear o0 hw0
    obtain ⟨j, a, n, c, p, r, hj, rfl, rfl, hc, hv, HP, hi, HZ, ho, hbel⟩ := hrel
    have hsz := hbel.size
    have hby : Byts r := hv.2.1
    have hlr := Lib.hid hv.1
    by_cases hlt : j < N
    · by_cases hn : n < 8
      · have hvr := hv.below hbel
        go_wp2_with fail
        refine (get64_few a n c r _ hvr hn).mono ?_
        rintro e w2 ⟨rfl, hb2⟩
        go_wp2_with fail
        go_ret2
        exact .inr ⟨rfl, fixed_few HZ.out (by rw [HP.out]; exact hlt) (by rw [hlr.out]; exact hn), hbel.trans (hb2.mono hsz)⟩
      · have hvr := hv.below hbel
        have hn8 : 8 ≤ r.length := by rw [hlr.out]; omega
        obtain ⟨b, off, rfl, -⟩ := hv.opened (by omega)
        have hcut := hv.cut 8 c (by omega) hc
        obtain ⟨x, hx⟩ : ∃ x, acc8 r 8 = x := ⟨_, rfl⟩
        have HX := Lib.hid hx
        have hwr := wrap_rd x
        obtain ⟨z, hz⟩ : ∃ z, rd x = z := ⟨_, rfl⟩
        rw [hz] at hwr
        have HR := Lib.hid hz
        go_wp2_with fail
        refine (get64_many _ n c r _ hvr (by omega)).mono ?_
        rintro e w2 ⟨rfl, hb2⟩
        rw [hx]
        clear hx hz
        replace ho := ho.below hb2
        have hw2 := hbel.trans (hb2.mono hsz)
        clear hb2 hbel hvr
        obtain ⟨g, cp, hg, -, -, -, hcell, hfree, hset⟩ := ho.own (by omega)
        cases hg
        have hcj := hcell j _ (fill_at HP.out hlt)
        have hfj := hfree j
        have ho3 := hset j (.int .i64 z) (by omega) rfl
        rw [fill_set HP.out hlt] at ho3
        have hw3 := hw2.setCell (p := ⟨w.heap.size, j, none⟩) (Nat.le_refl _) (.int .i64 z)
        have hji : (j : Int) < (N : Int) := by omega
        have h8n : (8 : Int) ≤ (n : Int) := by omega
        clear hcell hfree hset ho hw2
        by_cases hc8 : c = 8
        · rw [if_pos hc8, show n - 8 = 0 by omega] at hcut
          subst hc8
          go_wp2_with fail
          go_roundw
          case rel => exact ⟨j + 1, _, _, _, p ++ [z], r.drop 8, by omega, by go_num, rfl, by omega, hcut, Lib.hid (by rw [List.length_append, HP.out, List.length_singleton]), (by rw [← HR.out]; exact i64_snoc hi x), Lib.hid (by rw [HZ.out, ← HR.out]; exact fixed_step hby hn8 HX.out), ho3, hw3⟩
          case measure => simp [intOf]; omega
        · rw [if_neg hc8] at hcut
          have hc8' : 8 ≤ c := by omega
          go_wp2_with fail
          go_roundw
          case rel => exact ⟨j + 1, _, _, _, p ++ [z], r.drop 8, by omega, by go_num, rfl, by omega, hcut, Lib.hid (by rw [List.length_append, HP.out, List.length_singleton]), (by rw [← HR.out]; exact i64_snoc hi x), Lib.hid (by rw [HZ.out, ← HR.out]; exact fixed_step hby hn8 HX.out), ho3, hw3⟩
          case measure => simp [intOf]; omega
    · obtain rfl : j = N := by omega
      go_wp2_with fail
      go_ret2
      obtain ⟨A', C', hA, hC1, -, hv', -⟩ := ho.sv
      cases hA
      rw [Nat.sub_self, List.replicate_zero, List.append_nil] at hv'
      exact .inl ⟨_, _, p, rfl, Nat.le_refl _, hi, hv', fixed_one HZ.out HP.out hi, hbel⟩
set_option maxHeartbeats 2000000 in
theorem readd_any (N : Nat) (hN : N ≤ 2000) (a0 : Option Addr) (n0 c0 : Nat) (zs : List Int) (w : World) (hv0 : BV w a0 n0 zs) (hc0 : n0 ≤ c0) :
    Calls Tryz.prog 152 #[.int .i64 (N : Int), .slice a0 n0 c0] w fun e w' => ReadE w w' N (fun k => deltaL 0 k = zs) e := by
  have hmk := make_i64s N hN
  go_enter Tryz.func152, Tryz.ntmps152
  go_wp2_with fail
  clear hmk
  have o0 := OS.begin (w := w) (few_max' (n := N) (by omega))
  have hw0 : Below w.heap.size w (w.alloc (.cells (icells (List.replicate N 0)).toArray 2)) := Joins.below_alloc1 _ _
  go_loopw [1, 7, 14] (fun v q i wr => ∃ (j : Nat) (a : Option Addr) (n c : Nat) (was : Int) (p r : List Int), j ≤ N ∧ i = .int .i64 (j : Int) ∧ v = .slice a n c ∧ q = .int .i64 was ∧ n ≤ c ∧ BV w a n r ∧ Hid (was = p.getLastD 0) ∧ Hid (p.length = j) ∧ I64s p ∧ Hid (zs = deltaL 0 p ++ r) ∧ OS 1 wr w.heap.size (.slice (some ⟨w.heap.size, 0, none⟩) N N) N (icells (p ++ List.replicate (N - j) 0)) ∧ Below w.heap.size w wr) (fun _ _ i _ => N - (intOf i).toNat)
  case atStart => exact ⟨0, _, _, _, 0, [], zs, by omega, rfl, rfl, rfl, hc0, hv0, Lib.hid rfl, Lib.hid rfl, (fun x hx => by cases hx), Lib.hid rfl, o0, hw0⟩
  case round =>
    clear o0 hw0
    obtain ⟨j, a, n, c, was, p, r, hj, rfl, rfl, rfl, hc, hv, HW, HP, hi, HZ, ho, hbel⟩ := hrel
    have hsz := hbel.size
    have hby : Byts r := hv.2.1
    have hlr := Lib.hid hv.1
    by_cases hlt : j < N
    · have hvr := hv.below hbel
      by_cases hs0 : (varR r).2 = 0
      · have hno := varR_none hs0
        have hji : (j : Int) < (N : Int) := by omega
        go_wp2_with fail
        refine (var_any a n c r _ hvr).mono ?_
        rw [hno]
        rintro e w' ⟨rfl, rfl⟩
        have HF := Lib.hid (delta_few HZ.out (by rw [HP.out]; exact hlt) hs0)
        clear hno hs0
        go_wp2_with fail
        go_ret2
        exact .inr ⟨rfl, HF.out, hbel⟩
      · obtain ⟨y, r', hrr, hy0, hy1, hvar⟩ := varR_back r hby hs0
        have hy : 0 ≤ y ∧ y ≤ 18446744073709551615 := ⟨hy0, hy1⟩
        have hpos := pv_pos y
        have hl10 := pv_len10 (x := y) (by omega)
        obtain ⟨s, hs⟩ : ∃ s, (pv y).length = s := ⟨_, rfl⟩
        rw [hs] at hvar hpos hl10
        have hsn : s ≤ n := by
          have := congrArg List.length hrr
          rw [List.length_append, hlr.out, hs] at this; omega
        obtain ⟨b, off, rfl, -⟩ := hv.opened (by omega)
        have hcut := hv.cut s c hsn hc
        have e1 : r.drop s = r' := by rw [hrr, ← hs]; exact List.drop_left' rfl
        rw [e1] at hcut
        have HRR := Lib.hid hrr
        have hji : (j : Int) < (N : Int) := by omega
        have hs1 : ¬ (s : Int) = 0 := by omega
        have hs2 : (s : Int) ≤ (n : Int) := by omega
        go_wp2_with fail
        refine (var_any _ n c r _ hvr).mono ?_
        rw [hvar]
        rintro e w' ⟨rfl, rfl⟩
        clear hs0 hrr hvar hs e1 hvr
        go_wp2_with fail
        refine (zag_any y _ hy).mono ?_
        rintro e w' ⟨rfl, rfl⟩
        have hwr := wrap_rd (was + zagF y)
        obtain ⟨z, hz⟩ : ∃ z, rd (was + zagF y) = z := ⟨_, rfl⟩
        rw [hz] at hwr
        have HR := Lib.hid hz
        clear hz
        obtain ⟨g, cp, hg, -, -, -, hcell, hfree, hset⟩ := ho.own (by omega)
        cases hg
        have hcj := hcell j _ (fill_at HP.out hlt)
        have hfj := hfree j
        have ho3 := hset j (.int .i64 z) (by omega) rfl
        rw [fill_set HP.out hlt] at ho3
        have hw3 := hbel.setCell (p := ⟨w.heap.size, j, none⟩) (Nat.le_refl _) (.int .i64 z)
        clear hcell hfree hset ho hbel
        by_cases hcs : c = s
        · rw [if_pos hcs, show n - s = 0 by omega] at hcut
          subst hcs
          go_wp2_with fail
          go_roundw
          case rel => exact ⟨j + 1, _, _, _, z, p ++ [z], r', by omega, by go_num, rfl, rfl, by omega, hcut, Lib.hid (by rw [getLast_snoc]), Lib.hid (by rw [List.length_append, HP.out, List.length_singleton]), (by rw [← HR.out]; exact i64_snoc hi _), Lib.hid (by rw [HZ.out, ← HR.out]; exact delta_step hy HW.out HRR.out), ho3, hw3⟩
          case measure => simp [intOf]; omega
        · rw [if_neg hcs] at hcut
          have hcs' : s ≤ c := by omega
          go_wp2_with fail
          go_roundw
          case rel => exact ⟨j + 1, _, _, _, z, p ++ [z], r', by omega, by go_num, rfl, rfl, by omega, hcut, Lib.hid (by rw [getLast_snoc]), Lib.hid (by rw [List.length_append, HP.out, List.length_singleton]), (by rw [← HR.out]; exact i64_snoc hi _), Lib.hid (by rw [HZ.out, ← HR.out]; exact delta_step hy HW.out HRR.out), ho3, hw3⟩
          case measure => simp [intOf]; omega
    · obtain rfl : j = N := by omega
      go_wp2_with fail
      go_ret2
      obtain ⟨A', C', hA, hC1, -, hv', -⟩ := ho.sv
      cases hA
      rw [Nat.sub_self, List.replicate_zero, List.append_nil] at hv'
      exact .inl ⟨_, _, p, rfl, Nat.le_refl _, hi, hv', delta_one HZ.out HP.out hi, hbel⟩
end Go.Proofs.YtbfihajgjbpmaaaGreat
/- Contracts of package ints: read, Take. -/
namespace Go.Proofs.YtbfihajgjbpmaaaGreat
open Go.ChangeShapes Go.WideShapes Go.ChangeAt Go.RowKit
set_option linter.unusedVariables false
set_option maxRecDepth 4000

/-- what read tells -/
def ReadA (w w' : World) (zs : List Int) (e : Ending) : Prop :=
  (∃ (A : Option Addr) (N C : Nat) (l : List Int), e = .returned (.tuple #[.slice A N C, .bool true]) ∧ N ≤ C ∧ N ≤ 2000 ∧ I64s l ∧ IV w' A N l ∧ (∀ k, I64s k → k.length ≤ 2000 → putI k = zs → k = l) ∧ Below w.heap.size w w') ∨
  (e = .returned (.tuple #[.slice none 0 0, .bool false]) ∧ NoI zs ∧ Below w.heap.size w w')
theorem ReadE.all {w w' : World} {N : Nat} {G : List Int → Prop} {e : Ending} {zs : List Int} (h : ReadE w w' N G e) (hN : N ≤ 2000) (hG : ∀ k, k.length ≤ 2000 → putI k = zs → k.length = N ∧ G k) : ReadA w w' zs e := by
  rcases h with ⟨A, C, l, he, hc, hi, hv, hu, hb⟩ | ⟨he, hn, hb⟩
  · refine .inl ⟨A, N, C, l, he, hc, hN, hi, hv, fun k hk hkn hp => ?_, hb⟩
    obtain ⟨h1, h2⟩ := hG k hkn hp
    exact hu k hk h1 h2
  · refine .inr ⟨he, fun k hk hkn hp => ?_, hb⟩
    obtain ⟨h1, h2⟩ := hG k hkn hp
    exact hn k hk h1 h2
theorem ReadA.shape {w w' : World} {zs : List Int} {e : Ending} (h : ReadA w w' zs e) : ∃ (A : Option Addr) (N C : Nat) (ok : Bool), e = .returned (.tuple #[.slice A N C, .bool ok]) := by
  rcases h with ⟨A, N, C, l, he, _⟩ | ⟨he, _⟩
  · exact ⟨A, N, C, _, he⟩
  · exact ⟨none, 0, 0, _, he⟩
theorem ReadA.undrew {w w' : World} {zs : List Int} {e : Ending} (h : ReadA w.drew w' zs e) : ReadA w w' zs e := by
  have hd : ∀ {w'}, Below w.drew.heap.size w.drew w' → Below w.heap.size w w' := fun h => (Below.refl w.heap.size w).drew.trans h
  rcases h with ⟨A, N, C, l, he, h1, h2, h3, h4, h5, hb⟩ | ⟨he, hn, hb⟩
  · exact .inl ⟨A, N, C, l, he, h1, h2, h3, h4, h5, hd hb⟩
  · exact .inr ⟨he, hn, hd hb⟩
set_option maxHeartbeats 2000000 in
theorem readI_any (a : Option Addr) (n c : Nat) (zs : List Int) (w : World) (hv : BV w a n zs) (hc : n ≤ c) (hn : n ≤ 1000000) :
    Calls Tryz.prog 148 #[.slice a n c] w fun e w' => ReadA w w' zs e := by
  have hlz := hv.1
  by_cases hs0 : (varR zs).2 = 0
  · have hno := Lib.hid (varR_none hs0)
    have HF := Lib.hid (noI_none hs0)
    clear hs0 hlz
    go_enter Tryz.func148, Tryz.ntmps148
    go_wp2_with fail
    refine (var_any a n c zs _ hv).mono ?_
    rw [hno.out]
    rintro e w' ⟨rfl, rfl⟩
    clear hno
    go_wp2_with fail
    go_ret2
    exact .inr ⟨rfl, HF.out, Below.refl _ _⟩
  · obtain ⟨y, rest, hrr, hy0, hy1, hvar⟩ := varR_back zs hv.2.1 hs0
    have hpos := pv_pos y
    have hl10 := pv_len10 (x := y) (by omega)
    obtain ⟨s, hs⟩ : ∃ s, (pv y).length = s := ⟨_, rfl⟩
    rw [hs] at hvar hpos hl10
    have hsn : n = s + rest.length := by
      have := congrArg List.length hrr
      rw [List.length_append, hlz, hs] at this; exact this
    have HV := Lib.hid hvar
    clear hs0 hlz hvar
    have hs1 : ((s : Int) == 0) = false := by rw [beq_eq_false_iff_ne]; omega
    by_cases hmany : 2000 < y
    · have HF := Lib.hid (noI_many ⟨hy0, hy1⟩ hrr hmany)
      clear hrr hsn hs
      go_enter Tryz.func148, Tryz.ntmps148
      go_wp2_with fail
      refine (var_any a n c zs _ hv).mono ?_
      rw [HV.out]
      rintro e w' ⟨rfl, rfl⟩
      go_wp2_with fail
      go_ret2
      exact .inr ⟨rfl, HF.out, Below.refl _ _⟩
    · cases rest with
      | nil =>
        rw [List.append_nil] at hrr
        have HF := Lib.hid (noI_empty ⟨hy0, hy1⟩ hrr)
        obtain rfl : n = s := hsn
        clear hrr hs
        go_enter Tryz.func148, Tryz.ntmps148
        go_wp2_with fail
        refine (var_any a n c zs _ hv).mono ?_
        rw [HV.out]
        rintro e w' ⟨rfl, rfl⟩
        go_wp2_with fail
        go_ret2
        exact .inr ⟨rfl, HF.out, Below.refl _ _⟩
      | cons x r =>
        obtain ⟨N, rfl⟩ : ∃ N : Nat, y = (N : Int) := ⟨y.toNat, by omega⟩
        have hN : N ≤ 2000 := by omega
        have hNi : IntKind.i64.wrap (N : Int) = (N : Int) := by rw [IntKind.wrap_i64]; omega
        have HZ := Lib.hid hrr
        rw [List.length_cons] at hsn
        obtain ⟨b, off, rfl, hcell⟩ := hv.opened (by omega)
        have hcw := hcell s (by omega)
        rw [show zs.getD s 0 = x by rw [hrr]; simp [List.getD, hs]] at hcw
        have hcut := hv.cut (s + 1) c (by omega) hc
        rw [show zs.drop (s + 1) = r by rw [hrr, List.drop_append, hs]; simp [List.drop_eq_nil_of_le, hs]] at hcut
        have hxb : 0 ≤ x ∧ x ≤ 255 := hv.2.1 x (by rw [hrr]; simp)
        have i1 : ((n : Int) == (s : Int)) = false := by rw [beq_eq_false_iff_ne]; omega
        have i2 : (s : Int) < (n : Int) := by omega
        obtain ⟨t, ht⟩ : ∃ t, s + 1 = t := ⟨_, rfl⟩
        rw [ht] at hcut
        have hwt : IntKind.i64.wrap ((s : Int) + 1) = (t : Int) := by rw [IntKind.wrap_i64]; omega
        have i3 : (t : Int) ≤ (n : Int) := by omega
        have i4 : t ≤ n := by omega
        clear hrr hs hcell hsn ht
        go_enter Tryz.func148, Tryz.ntmps148
        go_wp2_with fail
        refine (var_any _ n c zs _ hv).mono ?_
        rw [HV.out]
        rintro e w' ⟨rfl, rfl⟩
        go_wp2_with fail
        by_cases hcs : c = t
        · rw [if_pos hcs, show n - t = 0 by omega] at hcut
          subst hcs
          refine wp_region_noPanic ?_
          refine region_g 10 (Ext (World.drew _)) (by kernel_rfl) (Ext.refl _) (fun hS => ?_)
          refine take_w (i := 0) (v := ?_) (some 25) rfl (by kernel_rfl) rfl (fun _ _ _ h => h) (Or.inl ⟨by rfl, ?_⟩) hS ?_
          rotate_left
          · (intro wq hq; go_simp); first | done | with_reducible rfl
          try simp only [Act.put, List.setIfInBounds_toArray, List.set_cons_zero, List.set_cons_succ]
          replace hS := Till.list 0 hS
          refine take_w (i := 1) (v := ?_) (some 26) rfl (by kernel_rfl) rfl (fun _ _ _ h => h) (Or.inl ⟨by rfl, ?_⟩) hS ?_
          rotate_left
          · (intro wq hq; go_simp); first | done | with_reducible rfl
          try simp only [Act.put, List.setIfInBounds_toArray, List.set_cons_zero, List.set_cons_succ]
          replace hS := Till.list 1 hS
          refine take_w (i := 4) (v := ?_) (some 29) rfl (by kernel_rfl) rfl (fun _ _ _ h => h) (Or.inl ⟨by rfl, ?_⟩) hS ?_
          rotate_left
          · (intro wq hq; go_simp); first | done | with_reducible rfl
          try simp only [Act.put, List.setIfInBounds_toArray, List.set_cons_zero, List.set_cons_succ]
          replace hS := Till.list 4 hS
          refine take_w (i := 5) (v := ?_) (some 30) rfl (by kernel_rfl) rfl (fun _ _ _ h => h) (Or.inl ⟨by rfl, ?_⟩) hS ?_
          rotate_left
          · (intro wq hq; go_simp); first | done | with_reducible rfl
          try simp only [Act.put, List.setIfInBounds_toArray, List.set_cons_zero, List.set_cons_succ]
          replace hS := Till.list 5 hS
          refine take_w (i := 2) (v := ?_) (some 27) rfl (by kernel_rfl) rfl (fun _ _ _ h => h) (Or.inl ⟨by rfl, ?_⟩) hS ?_
          rotate_left
          · (intro wq hq; go_simp); first | done | with_reducible rfl
          try simp only [Act.put, List.setIfInBounds_toArray, List.set_cons_zero, List.set_cons_succ]
          replace hS := Till.list 2 hS
          refine take_w (i := 6) (v := ?_) (some 31) rfl (by kernel_rfl) rfl (fun _ _ _ h => h) (Or.inl ⟨by rfl, ?_⟩) hS ?_
          rotate_left
          · (intro wq hq; go_simp); first | done | with_reducible rfl
          try simp only [Act.put, List.setIfInBounds_toArray, List.set_cons_zero, List.set_cons_succ]
          replace hS := Till.list 6 hS
          refine take_n (i := 3) (v := ?_) (some 28) rfl (by kernel_rfl) rfl (fun _ _ _ h => h) (Or.inl ⟨by rfl, ?_⟩) hS ?_
          rotate_left
          · (intro wq hq; have q0 := hq _ _ _ hcw; go_simp); first | done | with_reducible rfl
          try simp only [Act.put, List.setIfInBounds_toArray, List.set_cons_zero, List.set_cons_succ]
          replace hS := Till.list 3 hS
          refine take_w (i := 7) (v := ?_) (some 32) rfl (by kernel_rfl) rfl (fun _ _ _ h => h) (Or.inl ⟨by rfl, ?_⟩) hS ?_
          rotate_left
          · (intro wq hq; go_simp); first | done | with_reducible rfl
          try simp only [Act.put, List.setIfInBounds_toArray, List.set_cons_zero, List.set_cons_succ]
          replace hS := Till.list 7 hS
          refine take_w (i := 8) (v := ?_) (some 6) rfl (by kernel_rfl) rfl (fun _ _ _ h => h) (Or.inl ⟨by rfl, ?_⟩) hS ?_
          rotate_left
          · (intro wq hq; go_simp); first | done | with_reducible rfl
          try simp only [Act.put, List.setIfInBounds_toArray, List.set_cons_zero, List.set_cons_succ]
          replace hS := Till.list 8 hS
          refine take_w (i := 9) (v := ?_) (some 7) rfl (by kernel_rfl) rfl (fun _ _ _ h => h) (Or.inl ⟨by rfl, ?_⟩) hS ?_
          rotate_left
          · (intro wq hq; go_simp); first | done | with_reducible rfl
          try simp only [Act.put, List.setIfInBounds_toArray, List.set_cons_zero, List.set_cons_succ]
          replace hS := Till.list 9 hS
          refine done_g (by kernel_rfl) (NoPanic.normal ?_) _
          clear hS
          have hcd := hcut.drew
          clear hcw hcut hv
          by_cases w0 : x = 0
          · subst w0
            go_wp2_with fail
            refine (readf_any N hN _ _ _ r _ hcd (by omega)).mono ?_
            rintro e w2 he
            have hA := (he.all hN (fun k hk hp => way0 (c := (N : Int)) (by omega) HZ.out rfl hk hp)).undrew
            clear he
            obtain ⟨A2, N2, C2, ok2, rfl⟩ := hA.shape
            go_wp2_with fail
            go_ret2
            exact hA
          · have n0 : (x == 0) = false := by rw [beq_eq_false_iff_ne]; exact w0
            by_cases w1 : x = 1
            · subst w1
              go_wp2_with fail
              refine (readd_any N hN _ _ _ r _ hcd (by omega)).mono ?_
              rintro e w2 he
              have hA := (he.all hN (fun k hk hp => way1 (c := (N : Int)) (by omega) HZ.out rfl hk hp)).undrew
              clear he
              obtain ⟨A2, N2, C2, ok2, rfl⟩ := hA.shape
              go_wp2_with fail
              go_ret2
              exact hA
            · have n1 : (x == 1) = false := by rw [beq_eq_false_iff_ne]; exact w1
              have HF := Lib.hid (noI_way (c := (N : Int)) (by omega) HZ.out w0 w1)
              go_wp2_with fail
              go_ret2
              exact .inr ⟨rfl, HF.out, (Below.refl _ _).drew⟩
        · rw [if_neg hcs] at hcut
          have hcs' : t ≤ c := by omega
          refine wp_region_noPanic ?_
          refine region_g 10 (Ext (World.drew _)) (by kernel_rfl) (Ext.refl _) (fun hS => ?_)
          refine take_w (i := 0) (v := ?_) (some 25) rfl (by kernel_rfl) rfl (fun _ _ _ h => h) (Or.inl ⟨by rfl, ?_⟩) hS ?_
          rotate_left
          · (intro wq hq; go_simp); first | done | with_reducible rfl
          try simp only [Act.put, List.setIfInBounds_toArray, List.set_cons_zero, List.set_cons_succ]
          replace hS := Till.list 0 hS
          refine take_w (i := 1) (v := ?_) (some 26) rfl (by kernel_rfl) rfl (fun _ _ _ h => h) (Or.inl ⟨by rfl, ?_⟩) hS ?_
          rotate_left
          · (intro wq hq; go_simp); first | done | with_reducible rfl
          try simp only [Act.put, List.setIfInBounds_toArray, List.set_cons_zero, List.set_cons_succ]
          replace hS := Till.list 1 hS
          refine take_w (i := 4) (v := ?_) (some 29) rfl (by kernel_rfl) rfl (fun _ _ _ h => h) (Or.inl ⟨by rfl, ?_⟩) hS ?_
          rotate_left
          · (intro wq hq; go_simp); first | done | with_reducible rfl
          try simp only [Act.put, List.setIfInBounds_toArray, List.set_cons_zero, List.set_cons_succ]
          replace hS := Till.list 4 hS
          refine take_w (i := 5) (v := ?_) (some 30) rfl (by kernel_rfl) rfl (fun _ _ _ h => h) (Or.inl ⟨by rfl, ?_⟩) hS ?_
          rotate_left
          · (intro wq hq; go_simp); first | done | with_reducible rfl
          try simp only [Act.put, List.setIfInBounds_toArray, List.set_cons_zero, List.set_cons_succ]
          replace hS := Till.list 5 hS
          refine take_w (i := 2) (v := ?_) (some 27) rfl (by kernel_rfl) rfl (fun _ _ _ h => h) (Or.inl ⟨by rfl, ?_⟩) hS ?_
          rotate_left
          · (intro wq hq; go_simp); first | done | with_reducible rfl
          try simp only [Act.put, List.setIfInBounds_toArray, List.set_cons_zero, List.set_cons_succ]
          replace hS := Till.list 2 hS
          refine take_w (i := 6) (v := ?_) (some 31) rfl (by kernel_rfl) rfl (fun _ _ _ h => h) (Or.inl ⟨by rfl, ?_⟩) hS ?_
          rotate_left
          · (intro wq hq; go_simp); first | done | with_reducible rfl
          try simp only [Act.put, List.setIfInBounds_toArray, List.set_cons_zero, List.set_cons_succ]
          replace hS := Till.list 6 hS
          refine take_n (i := 3) (v := ?_) (some 28) rfl (by kernel_rfl) rfl (fun _ _ _ h => h) (Or.inl ⟨by rfl, ?_⟩) hS ?_
          rotate_left
          · (intro wq hq; have q0 := hq _ _ _ hcw; go_simp); first | done | with_reducible rfl
          try simp only [Act.put, List.setIfInBounds_toArray, List.set_cons_zero, List.set_cons_succ]
          replace hS := Till.list 3 hS
          refine take_w (i := 7) (v := ?_) (some 32) rfl (by kernel_rfl) rfl (fun _ _ _ h => h) (Or.inl ⟨by rfl, ?_⟩) hS ?_
          rotate_left
          · (intro wq hq; go_simp); first | done | with_reducible rfl
          try simp only [Act.put, List.setIfInBounds_toArray, List.set_cons_zero, List.set_cons_succ]
          replace hS := Till.list 7 hS
          refine take_w (i := 8) (v := ?_) (some 6) rfl (by kernel_rfl) rfl (fun _ _ _ h => h) (Or.inl ⟨by rfl, ?_⟩) hS ?_
          rotate_left
          · (intro wq hq; go_simp); first | done | with_reducible rfl
          try simp only [Act.put, List.setIfInBounds_toArray, List.set_cons_zero, List.set_cons_succ]
          replace hS := Till.list 8 hS
          refine take_w (i := 9) (v := ?_) (some 7) rfl (by kernel_rfl) rfl (fun _ _ _ h => h) (Or.inl ⟨by rfl, ?_⟩) hS ?_
          rotate_left
          · (intro wq hq; go_simp); first | done | with_reducible rfl
          try simp only [Act.put, List.setIfInBounds_toArray, List.set_cons_zero, List.set_cons_succ]
          replace hS := Till.list 9 hS
          refine done_g (by kernel_rfl) (NoPanic.normal ?_) _
          clear hS
          have hcd := hcut.drew
          clear hcw hcut hv
          by_cases w0 : x = 0
          · subst w0
            go_wp2_with fail
            refine (readf_any N hN _ _ _ r _ hcd (by omega)).mono ?_
            rintro e w2 he
            have hA := (he.all hN (fun k hk hp => way0 (c := (N : Int)) (by omega) HZ.out rfl hk hp)).undrew
            clear he
            obtain ⟨A2, N2, C2, ok2, rfl⟩ := hA.shape
            go_wp2_with fail
            go_ret2
            exact hA
          · have n0 : (x == 0) = false := by rw [beq_eq_false_iff_ne]; exact w0
            by_cases w1 : x = 1
            · subst w1
              go_wp2_with fail
              refine (readd_any N hN _ _ _ r _ hcd (by omega)).mono ?_
              rintro e w2 he
              have hA := (he.all hN (fun k hk hp => way1 (c := (N : Int)) (by omega) HZ.out rfl hk hp)).undrew
              clear he
              obtain ⟨A2, N2, C2, ok2, rfl⟩ := hA.shape
              go_wp2_with fail
              go_ret2
              exact hA
            · have n1 : (x == 1) = false := by rw [beq_eq_false_iff_ne]; exact w1
              have HF := Lib.hid (noI_way (c := (N : Int)) (by omega) HZ.out w0 w1)
              go_wp2_with fail
              go_ret2
              exact .inr ⟨rfl, HF.out, (Below.refl _ _).drew⟩
/-- what Take tells -/
def TakeI (w w' : World) (zs : List Int) (e : Ending) : Prop :=
  (∃ (A : Option Addr) (N C : Nat) (l : List Int), e = .returned (.tuple #[.slice A N C, .int .i64 0]) ∧ N ≤ C ∧ N ≤ 2000 ∧ I64s l ∧ IV w' A N l ∧ putI l = zs ∧ Below w.heap.size w w') ∨
  (e = .returned (.tuple #[.slice none 0 0, .int .i64 10]) ∧ NoI zs ∧ Below w.heap.size w w')
set_option maxHeartbeats 2000000 in
theorem takeI_any (a : Option Addr) (n c : Nat) (zs : List Int) (w : World) (hv : BV w a n zs) (hc : n ≤ c) (hn : n ≤ 1000000) :
    Calls Tryz.prog 137 #[.slice a n c] w fun e w' => TakeI w w' zs e := by
  go_enter Tryz.func137, Tryz.ntmps137
  go_wp2_with fail
  refine (readI_any a n c zs _ hv hc hn).mono ?_
  rintro e w1 he
  rcases he with ⟨A, N, C, l, rfl, hC, hN, hi, hl, hu, hb1⟩ | ⟨rfl, hno, hb1⟩
  · have HU := Lib.hid hu
    clear hu
    replace hv := hv.below hb1
    go_wp2_with fail
    refine (putI_any A N C l _ hl hi (by omega)).mono ?_
    rintro e w2 ⟨vp, rfl, op, hb2⟩
    obtain ⟨ap, cp, rfl, -, -, bp, -⟩ := op.bvn (putI_bytes l) _ rfl
    replace hv := hv.below hb2
    replace hl := hl.below hb2
    replace hb1 := Below.then hb1 hb2
    clear op hb2
    go_wp2_with fail
    refine (equal_any ap a _ n cp c (putI l) zs _ bp hv).mono ?_
    rintro e w' ⟨rfl, rfl⟩
    clear bp hv
    by_cases hp : putI l = zs
    · rw [decide_eq_true hp]
      have HP := Lib.hid hp
      clear hp
      go_wp2_with fail
      go_ret2
      exact .inl ⟨A, N, C, l, rfl, hC, hN, hi, hl, HP.out, hb1⟩
    · rw [decide_eq_false hp]
      have HF : Hid (NoI zs) := Lib.hid (fun k hk hkn h => hp (by rw [← HU.out k hk hkn h]; exact h))
      clear hp
      go_wp2_with fail
      go_ret2
      exact .inr ⟨rfl, HF.out, hb1⟩
  · have HF := Lib.hid hno
    clear hno
    go_wp2_with fail
    go_ret2
    exact .inr ⟨rfl, HF.out, hb1⟩
end Go.Proofs.YtbfihajgjbpmaaaGreat
