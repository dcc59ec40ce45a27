/- Contracts of readDict, read, Take. -/
import Derived.Test.YtmoppmifhhnolaaT6s
namespace Go.Proofs.Ytmoppmifhhnolaa
open Go.ChangeShapes Go.WideShapes Go.ChangeAt Go.RowKit
set_option linter.unusedVariables false

/-- what readDict tells, and a reader of a way -/
def WayE (w w' : World) (N : Nat) (G : List ByteArray → Prop) (e : Ending) : Prop :=
  (∃ (A : Option Addr) (C : Nat) (l : List ByteArray), e = .returned (.tuple #[.slice A N C, .bool true]) ∧ N ≤ C ∧ Few60 l ∧ TV w' A N l ∧ (∀ u, Few60 u → u.length = N → G u → u = l) ∧ Below w.heap.size w w') ∨
  (e = .returned (.tuple #[.slice none 0 0, .bool false]) ∧ (∀ u, Few60 u → u.length = N → ¬ G u) ∧ Below w.heap.size w w')
theorem dict_no_size {zs : List Int} {N : Nat} (h : ∀ (k : Nat) (r : List Int), (k : Int) < (N : Int) + 1 → zs ≠ pv (k : Int) ++ r) : ∀ u, Few60 u → u.length = N → ¬ dictL u = zs := by
  intro u _ hn hp
  have := words_len u
  exact h (words u).length _ (by omega) hp.symm
theorem dict_no_words {zs body : List Int} {N K : Nat} (hN : N ≤ 2000) (hK : K ≤ N) (hz : zs = pv (K : Int) ++ body) (h : ∀ u, Few60 u → u.length = K → ∀ r', eachL u ++ r' ≠ body) : ∀ u, Few60 u → u.length = N → ¬ dictL u = zs := by
  intro u hu hn hp
  obtain ⟨h1, h2⟩ := dict_says hu (by omega) (by omega) hz hp
  exact h (words u) (words_few hu) (by omega) _ h2
/-- what the way by places says, when the words are known -/
theorem dict_rest {zs body r1 : List Int} {N K : Nat} {ws : List ByteArray} (hN : N ≤ 2000) (hK : K ≤ N) (hz : zs = pv (K : Int) ++ body) (hb : body = eachL ws ++ r1) (hw : ws.length = K) (hf : Few60 ws) {u : List ByteArray} (hu : Few60 u) (hn : u.length = N) (hp : dictL u = zs) : words u = ws ∧ joinN (placesL u) = r1 := by
  obtain ⟨h1, h2⟩ := dict_says hu (by omega) (by omega) hz hp
  exact each_one hb hw hf (words u) (words_few hu) (by omega) _ h2
theorem dict_no_place {r1 r : List Int} {N K : Nat} {ws : List ByteArray} {zs : List Int} (hK : K ≤ 2000) (hw : ws.length = K) (hd : ∀ u, Few60 u → u.length = N → dictL u = zs → words u = ws ∧ joinN (placesL u) = r1) {ps : List Int} (hr : r1 = joinN ps ++ r) (hl : ps.length < N) (hps : ∀ q ∈ ps, 0 ≤ q ∧ q < (K : Int)) (hno : ∀ (k : Nat) (r' : List Int), (k : Int) < (K : Int) → r ≠ pv (k : Int) ++ r') : ∀ u, Few60 u → u.length = N → ¬ dictL u = zs := by
  intro u hu hn hp
  obtain ⟨h1, h2⟩ := hd u hu hn hp
  have hlt := places_lt u
  rw [h1, hw] at hlt
  refine places_few hr hl (fun q hq => by have := hps q hq; omega) (W := (K : Int)) ?_ (by omega) (placesL u) hlt (by rw [places_len]; exact hn) h2
  intro k r' hk0 hk1 _
  have := hno k.toNat r' (by omega)
  rwa [Int.toNat_of_nonneg hk0] at this
theorem dict_done {r1 r : List Int} {N K : Nat} {ws : List ByteArray} {zs : List Int} (hK : K ≤ 2000) (hN : N ≤ 2000) (hd : ∀ u, Few60 u → u.length = N → dictL u = zs → words u = ws ∧ joinN (placesL u) = r1) {ps : List Int} (hr : r1 = joinN ps ++ r) (hl : ps.length = N) (hps : ∀ q ∈ ps, 0 ≤ q ∧ q < (K : Int)) : ∀ u, Few60 u → u.length = N → dictL u = zs → u = byPlaces ws ps := by
  intro u hu hn hp
  obtain ⟨h1, h2⟩ := hd u hu hn hp
  rw [hr] at h2
  have := (joinN_cut (placesL u) ps (places_u64 (by omega)) (fun q hq => by have := hps q hq; omega) (by rw [places_len]; omega) (r := []) (by rw [List.append_nil]; exact h2)).1
  rw [← h1, ← this, byPlaces_back]
set_option maxHeartbeats 2000000 in
theorem treadd_any (N : Nat) (hN : N ≤ 2000) (a0 : Option Addr) (n0 c0 : Nat) (zs : List Int) (w : World) (hv0 : BV w a0 n0 zs) (hc0 : n0 ≤ c0) :
    Calls Try.prog 31 #[.int .i64 (N : Int), .slice a0 n0 c0] w fun e w' => WayE w w' N (fun u => dictL u = zs) e := by
  go_enter Try.func31, Try.ntmps31
  go_wp2_with fail
  refine (treadb_any ((N : Int) + 1) (by omega) (by omega) a0 n0 c0 zs _ hv0 hc0).mono ?_
  rintro e w1 he
  rcases he with ⟨K, body, a1, n1, c1, rfl, hK, hz, hc1, hn1, hV1, hb1⟩ | ⟨rfl, hno, hb1⟩
  rotate_left
  · have HF := Lib.hid (dict_no_size hno)
    clear hno
    go_wp2_with fail
    go_ret2
    exact .inr ⟨rfl, HF.out, hb1⟩
  have HZ := Lib.hid hz
  have hv1 := hV1 _ (hv0.below hb1)
  clear hV1 hz hv0
  go_wp2_with fail
  refine (treade_any K (by omega) a1 n1 c1 body _ hv1 hc1).mono ?_
  rintro e w2 he
  rcases he with ⟨Au, Cu, ws, r1, a2, n2, c2, rfl, hCu, hf, vu, hbd, hc2, hn2, hV2, hb2⟩ | ⟨rfl, hno, hb2⟩
  rotate_left
  · have HF := Lib.hid (dict_no_words hN (by omega) HZ.out hno)
    clear hno
    go_wp2_with fail
    go_ret2
    exact .inr ⟨rfl, HF.out, Below.then hb1 hb2⟩
  replace hb1 := Below.then hb1 hb2
  have hv2 := hV2 _ (hv1.below hb2)
  have HWL := Lib.hid (TV.len vu)
  have HD : Hid (∀ u, Few60 u → u.length = N → dictL u = zs → words u = ws ∧ joinN (placesL u) = r1) := Lib.hid (fun u hu hn hp => dict_rest hN (by omega) HZ.out hbd HWL.out hf hu hn hp)
  clear hV2 hv1 hb2 hbd HZ
  have hmk := make_texts N hN
  have o0 := OS.beginT (w := w2) (few_max' (n := N) (by omega)) w2.heap.size (Nat.le_refl _)
  have hw0 : Below w2.heap.size w2 (w2.alloc (.cells (tcells (List.replicate N ⟨#[]⟩)).toArray 9)) := Joins.below_alloc1 _ _
  go_wp2_with fail
  clear hmk
  go_loopw [7, 38] (fun v i wr => ∃ (j : Nat) (a : Option Addr) (n c : Nat) (ps : List Int) (r : List Int), j ≤ N ∧ i = .int .i64 (j : Int) ∧ v = .slice a n c ∧ n ≤ c ∧ BV w2 a n r ∧ Hid (ps.length = j) ∧ Hid (∀ q ∈ ps, 0 ≤ q ∧ q < (K : Int)) ∧ Hid (r1 = joinN ps ++ r) ∧ OS 1 wr w2.heap.size (.slice (some ⟨w2.heap.size, 0, none⟩) N N) N (tcells (byPlaces ws ps ++ List.replicate (N - j) ⟨#[]⟩)) ∧ Below w2.heap.size w2 wr) (fun _ i _ => N - (intOf i).toNat)
  case atStart => exact ⟨0, _, _, _, [], r1, by omega, rfl, rfl, hc2, hv2, Lib.hid rfl, Lib.hid (fun x hx => by cases hx), Lib.hid rfl, o0, hw0⟩
  case round =>
    clear o0 hw0 hv2 hc2 hn2
    obtain ⟨j, a, n, c, ps, r, hj, rfl, rfl, hc, hv, HP, HQ, HR, ho, hbel⟩ := hrel
    have HB : Hid ((byPlaces ws ps).length = j) := Lib.hid (by rw [byPlaces_len]; exact HP.out)
    by_cases hlt : j < N
    · have hji : (j : Int) < (N : Int) := by omega
      have hvr := hv.below hbel
      go_wp2_with fail
      refine (treadb_any (K : Int) (by omega) (by omega) a n c r _ hvr hc).mono ?_
      rintro e w3 he
      rcases he with ⟨x, r3, a3, n3, c3, rfl, hx, hr3, hc3, hn3, hV3, hb3⟩ | ⟨rfl, hno, hb3⟩
      · have hbel3 := Below.then hbel hb3
        replace ho := ho.below hb3
        have hv3 := hV3 _ hv
        have HR3 : Hid (r1 = joinN (ps ++ [(x : Int)]) ++ r3) := Lib.hid (by rw [HR.out, hr3, joinN_snoc, List.append_assoc])
        have HQ3 : Hid (∀ q ∈ ps ++ [(x : Int)], 0 ≤ q ∧ q < (K : Int)) := Lib.hid (fun q hq => by
          rcases List.mem_append.1 hq with hq | hq
          · exact HQ.out q hq
          · rw [List.mem_singleton.1 hq]; omega)
        have HBP : Hid (byPlaces ws (ps ++ [(x : Int)]) = byPlaces ws ps ++ [ws.getD x ⟨#[]⟩]) := Lib.hid (by rw [byPlaces_snoc, Int.toNat_natCast])
        clear hV3 hr3 hvr hb3 hbel
        obtain ⟨bu, ou, rfl, hcx⟩ := TV.at vu x (by omega)
        replace hcx := keepc hcx hbel3
        have hxK : (x : Int) < (K : Int) := hx
        generalize ws.getD x ⟨#[]⟩ = t at hcx HBP
        obtain ⟨g, cp, hg, -, -, -, hcell, hfree, hset⟩ := ho.own (by omega)
        cases hg
        have hcj := hcell j _ (fillT_at HB.out hlt)
        have hfj := hfree j
        have ho3 := hset j (.string t) (by omega) rfl
        rw [fillT_set HB.out hlt] at ho3
        have hw3 := hbel3.setCell (p := ⟨w2.heap.size, j, none⟩) (Nat.le_refl _) (.string t)
        clear hcell hfree hset ho hbel3
        go_wp2_with fail
        go_roundw
        case rel => exact ⟨j + 1, _, _, _, ps ++ [(x : Int)], r3, by omega, by go_num, rfl, hc3, hv3, Lib.hid (by rw [List.length_append, HP.out, List.length_singleton]), HQ3, HR3, by rw [HBP.out]; exact ho3, hw3⟩
        case measure => simp [intOf]; omega
      · have hbel3 := Below.then hb1 (Below.then hbel hb3)
        have HF := Lib.hid (dict_no_place (by omega) HWL.out HD.out HR.out (by rw [HP.out]; exact hlt) HQ.out hno)
        clear hno hvr
        go_wp2_with fail
        go_ret2
        exact .inr ⟨rfl, HF.out, hbel3⟩
    · obtain rfl : j = N := by omega
      have HF := Lib.hid (dict_done (by omega) (by omega) HD.out HR.out HP.out HQ.out)
      go_wp2_with fail
      go_ret2
      obtain ⟨A', C', hA, hC1, -, hv', -⟩ := ho.sv
      cases hA
      rw [Nat.sub_self, List.replicate_zero, List.append_nil] at hv'
      exact .inl ⟨_, _, byPlaces ws ps, rfl, Nat.le_refl _, byPlaces_few hf ps, hv', HF.out, Below.then hb1 hbel⟩
end Go.Proofs.Ytmoppmifhhnolaa
