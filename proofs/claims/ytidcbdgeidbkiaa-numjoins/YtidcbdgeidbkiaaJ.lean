/- NumJoins: the walk. -/
import Derived.Test.YtidcbdgeidbkiaaO
namespace Go.Proofs.Ytidcbdgeidbkiaa
open Go.ChangeShapes Go.WideShapes Go.ChangeAt Go.RowKit
set_option linter.unusedVariables false

/-- the numbers, put one behind the other -/
def join (l : List Int) : List Int := l.flatMap pv

theorem getD_get (zs : List Int) (k : Nat) (hk : k < zs.length) : zs.getD k 0 = zs[k] := by simp [List.getD, hk]
theorem join_snoc (zs : List Int) (k : Nat) (hk : k < zs.length) : join (zs.take (k + 1)) = join (zs.take k) ++ pv (zs.getD k 0) := by
  rw [List.take_succ_eq_append_getElem hk, getD_get _ _ hk]
  unfold join
  rw [List.flatMap_append, List.flatMap_cons, List.flatMap_nil, List.append_nil]
theorem join_cons (zs : List Int) (k : Nat) (hk : k < zs.length) : join (zs.drop k) = pv (zs.getD k 0) ++ join (zs.drop (k + 1)) := by
  rw [List.drop_eq_getElem_cons hk, getD_get _ _ hk]
  unfold join
  rw [List.flatMap_cons]
theorem join_bytes (zs : List Int) (h : ∀ z ∈ zs, 0 ≤ z) : ∀ z ∈ join zs, 0 ≤ z ∧ z ≤ 255 := by
  intro z hz
  obtain ⟨x, hx, hzx⟩ := List.mem_flatMap.1 hz
  exact pv_bytes (h x hx) z hzx

set_option maxHeartbeats 1000000 in
theorem numJoins_walk (a : Option Addr) (n cap : Nat) (zs : List Int) (w : World) (hl : zs.length = n) (hz : ∀ z ∈ zs, 0 ≤ z ∧ z ≤ 18446744073709551615)
    (hc : n = 0 ∨ ∃ b off, a = some ⟨b, off, none⟩ ∧ ∀ i, i < n → w.cell? ⟨b, off + i, none⟩ = some (.int .u64 (zs.getD i 0))) :
    Calls Try.prog 7 #[.slice a n cap] w fun e w' => e = .returned (.bool true) ∧ Below w.heap.size w w' := by
  obtain ⟨i0, hi, hz0, hz1, hz2⟩ := info_parts info5
  go_enter Try.func7, Try.ntmps7
  go_wp2_with (first | (go_at_call 9; refine (shown_any _).mono ?_; rintro e w' ⟨rfl, rfl⟩))
  go_loopw [4, 5] (fun v i wr => ∃ (k : Nat) (bs : List Int), k ≤ n ∧ k ≤ 30 ∧ i = .int .i64 (k : Int) ∧ Hid (bs = join (zs.take k)) ∧ bs.length ≤ k * 10 ∧ OB wr w.heap.size v bs ∧ Below w.heap.size w wr) (fun _ i _ => n - (intOf i).toNat)
  case atStart => exact ⟨0, [], by omega, by omega, rfl, rfl, by simp, OB.empty (w.alloc (pvObj 300)) _ (by rw [heap_alloc]; omega) _ (heap_alloc _ _).symm, ((Below.refl _ _).alloc (Nat.le_refl _) _).alloc (by simp) _⟩
  case round =>
    obtain ⟨k, bs, hkn, hk30, rfl, hbs, hbl, hown, hbel⟩ := hrel
    by_cases hlt : k < n ∧ k < 30
    · obtain ⟨hlt1, hlt2⟩ := hlt
      rcases hc with hn | ⟨b, off, rfl, hcell⟩
      · omega
      have hcl := hcell k hlt1
      have hcx : wr.cell? ⟨b, off + k, none⟩ = some (.int .u64 (zs.getD k 0)) := by rw [hbel.cell (p := ⟨b, off + k, none⟩) (cell_lt hcl)]; exact hcl
      obtain ⟨x, hx⟩ : ∃ x, x = zs.getD k 0 := ⟨_, rfl⟩
      rw [← hx] at hcx
      have hxb : 0 ≤ x ∧ x ≤ 18446744073709551615 := by apply hz; rw [hx]; simp [show k < zs.length from by omega]
      obtain ⟨hx0, hx1⟩ := hxb
      have hpl := pv_len10 (x := x) (by omega)
      have hsn : Hid (bs ++ pv x = join (zs.take (k + 1))) := by
        show _ = _
        rw [hbs.out, join_snoc _ _ (by omega), hx]
      clear hcl hcell hx
      go_wp2_with (first | (go_at_call 15; refine (putvar_any x _ hx0 hx1).mono ?_; rintro e w' ⟨rfl, rfl⟩) | (at_builtin; refine wpList_append_own _ rfl _ _ 23 rfl w.heap.size 5 i0 (.int .u8 0) 1 1 Try.underlying23 hi hz0 hz1 hz2 rfl (by decide) _ _ _ rfl (hown.alloc _) ⟨wr.heap.size, 0, none⟩ _ 10 ((pv x).map (Value.int .u8)) rfl (by simp) (BV.pv wr hx0).cells (oneCells _) ?c3 ?c4 ?c5 ?_))
      case c3 => unfold maxLen; omega
      case c4 => omega
      case c5 => exact Nat.le_trans hbel.size (by rw [heap_alloc]; omega)
      · intro v' w1 hown' hgrow _
        have hown1 : OB w1 w.heap.size v' (bs ++ pv x) := by unfold OB; simpa using hown'
        have hbel1 : Below w.heap.size w w1 := (hbel.alloc hbel.size _).grown hgrow (Nat.le_trans hbel.size (by rw [heap_alloc]; omega)) hown.lt
        clear hown' hgrow hown hcx
        go_wp2
        go_roundw
        case rel => exact ⟨k + 1, bs ++ pv x, by omega, by omega, by go_num, hsn, by simp; omega, hown1, hbel1⟩
        case measure => simp [intOf]; omega
    · have hK : Hid (k = min n 30) := by show _ = _; omega
      have hbb : ∀ z ∈ bs, 0 ≤ z ∧ z ≤ 255 := by
        rw [hbs.out]
        exact join_bytes _ (fun z hz' => (hz z (List.mem_of_mem_take hz')).1)
      obtain ⟨av, cv, rfl, hcv, hbv, -⟩ := hown.bv hbb
      have HB : Hid (bs = join ((zs.take k).drop 0)) := by show _ = _; rw [List.drop_zero]; exact hbs.out
      have hcw : n = 0 ∨ ∃ b off, a = some ⟨b, off, none⟩ ∧ ∀ i, i < n → wr.cell? ⟨b, off + i, none⟩ = some (.int .u64 (zs.getD i 0)) := by
        rcases hc with hc | ⟨b, off, rfl, hcell⟩
        · exact .inl hc
        · exact .inr ⟨b, off, rfl, fun i hi => by rw [hbel.cell (p := ⟨b, off + i, none⟩) (cell_lt (hcell i hi))]; exact hcell i hi⟩
      clear hown hbs hc hbb
      rcases (show (k < n ∧ 30 ≤ k) ∨ ¬ k < n from by omega) with ⟨hlt1, h30⟩ | hlt1
      all_goals
        go_wp2_with fail
        go_loop [4, 6] (fun v i => ∃ (j : Nat) (av : Option Addr) (m cv : Nat) (rest : List Int), j ≤ k ∧ i = .int .i64 (j : Int) ∧ v = .slice av m cv ∧ m ≤ cv ∧ BV wr av m rest ∧ Hid (rest = join ((zs.take k).drop j))) (fun _ i => k - (intOf i).toNat)
        case atStart => exact ⟨0, av, _, cv, bs, by omega, rfl, rfl, hcv, hbv, HB⟩
        case round =>
          clear hbv HB hcv
          obtain ⟨j, av, m, cv, rest, hjk, rfl, rfl, hmc, hbv, HR⟩ := hrel
          by_cases hj : j < k
          · have hjn : j < n := by omega
            have hj30 : j < 30 := by omega
            rcases hcw with hn | ⟨b, off, rfl, hcell⟩
            · omega
            have hcx := hcell j hjn
            obtain ⟨x, hx⟩ : ∃ x, x = zs.getD j 0 := ⟨_, rfl⟩
            rw [← hx] at hcx
            have hxb : 0 ≤ x ∧ x ≤ 18446744073709551615 := by apply hz; rw [hx]; simp [show j < zs.length from by omega]
            obtain ⟨hx0, hx1⟩ := hxb
            have hrest : rest = pv x ++ join ((zs.take k).drop (j + 1)) := by
              rw [HR.out, join_cons _ _ (by simp; omega), hx]; simp [hj]
            have hvr := varR_put x (join ((zs.take k).drop (j + 1))) hx0 hx1
            rw [← hrest] at hvr
            have hr1 : (varR rest).1 = x := by rw [hvr]
            have hr2 : (varR rest).2 = ((pv x).length : Int) := by rw [hvr]
            have hpm : (pv x).length ≤ m := by rw [← hbv.1, hrest]; simp
            have hpp := pv_pos x
            have hpp1 : ¬ ((pv x).length : Int) < 1 := by omega
            have hpm1 : ¬ (m : Int) < ((pv x).length : Int) := by omega
            obtain ⟨b', off', rfl, -⟩ : ∃ b off, av = some ⟨b, off, none⟩ ∧ True := by
              rcases hbv.2.2 with h | ⟨b, off, h, _⟩
              · omega
              · exact ⟨b, off, h, trivial⟩
            have hbd := hbv.cut (pv x).length cv hpm hmc
            have hdr : rest.drop (pv x).length = join ((zs.take k).drop (j + 1)) := by rw [hrest]; simp
            rw [hdr] at hbd
            have HBD : Hid _ := hbd
            clear hvr hrest hdr hx hcell HR hbd
            go_wp2_with (first | (go_at_call 11; refine (var_any _ m cv rest _ hbv).mono ?_; rintro e w' ⟨rfl, rfl⟩))
            go_round
            case rel => exact ⟨j + 1, _, _, _, _, by omega, by go_num, rfl, by omega, HBD.out, rfl⟩
            case measure => simp [intOf]; omega
          · have hjk' : j = k := by omega
            subst hjk'
            have hm0 : m = 0 := by
              have h1 := hbv.1
              rw [HR.out, List.drop_eq_nil_of_le (List.length_take_le _ _)] at h1
              exact h1.symm
            subst hm0
            go_wp2
            go_ret
            exact ⟨rfl, hbel⟩
/-- a slice of numbers that came in -/
theorem row_of {w : World} {a : Option Addr} {len cap : Nat} {zs : List Int}
    (h : (a = none ∧ len = 0 ∧ cap = 0 ∧ zs = []) ∨ ∃ x, a = some x ∧ len ≤ cap ∧ cap ≤ maxLen ∧ zs.length = cap ∧ (∀ i, i < zs.length → w.cell? (x.add i) = some (.int .u64 (zs.getD i 0))) ∧ ∀ n ∈ zs, (Lit.int .u64 n).wf = true) :
    (zs.take len).length = len ∧ (∀ z ∈ zs.take len, 0 ≤ z ∧ z ≤ 18446744073709551615) ∧ (len = 0 ∨ ∃ b off, a = some ⟨b, off, none⟩ ∧ ∀ i, i < len → w.cell? ⟨b, off + i, none⟩ = some (.int .u64 ((zs.take len).getD i 0))) := by
  rcases h with ⟨rfl, rfl, rfl, rfl⟩ | ⟨x, rfl, hl, hm, hz, hcell, hwz⟩
  · exact ⟨rfl, by simp, .inl rfl⟩
  · refine ⟨by simp; omega, fun z hz' => bounds_u64 (hwz z (List.mem_of_mem_take hz')), ?_⟩
    by_cases h0 : len = 0
    · exact .inl h0
    · obtain ⟨b, off, spot⟩ := x
      have hc := hcell 0 (by omega)
      have hspot : spot = none := by simpa [Addr.add] using World.cell?_spot hc
      subst hspot
      refine .inr ⟨b, off, rfl, fun i hi => ?_⟩
      have := hcell i (by omega)
      have ha : (⟨b, off, none⟩ : Addr).add i = ⟨b, off + i, none⟩ := by unfold Addr.add; split <;> simp_all
      rw [ha] at this
      simp [hi]
      simpa using this
end Go.Proofs.Ytidcbdgeidbkiaa
