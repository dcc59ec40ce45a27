/- Plain facts on how texts are read, and on places. -/
import Derived.Test.YtmoppmifhhnolaaT6p
namespace Go.Proofs.Ytmoppmifhhnolaa
set_option linter.unusedVariables false

abbrev Few60 (l : List ByteArray) : Prop := ∀ s ∈ l, s.size ≤ 60
theorem Few60.fit {l : List ByteArray} (h : Few60 l) : Fit63 l := fun s hs => by have := h s hs; omega
theorem str_size (q : List Int) : (strOfNums q).size = q.length := strOfNums_size q
/-- one more text is read -/
theorem each_step {p : List ByteArray} {q r r' : List Int} {k : Int} (hr : r = pv k ++ (q ++ r')) (hq : (q.length : Int) = k) (hb : ∀ z ∈ q, 0 ≤ z ∧ z ≤ 255) : eachL p ++ r = eachL (p ++ [strOfNums q]) ++ r' := by
  rw [eachL_snoc, str_size, hq, nums_str hb, hr]
  simp only [List.append_assoc]
/-- no texts begin so -/
theorem each_few {p : List ByteArray} {r zs : List Int} {N : Nat} (hz : zs = eachL p ++ r) (hp : p.length < N) (hf : Few60 p) (hbad : ∀ (k : Nat) (q r' : List Int), k ≤ 60 → q.length = k → r ≠ pv (k : Int) ++ (q ++ r')) :
    ∀ u, Few60 u → u.length = N → ∀ r', eachL u ++ r' ≠ zs := by
  intro u hu hn r' h
  have e : u = u.take p.length ++ u.drop p.length := (List.take_append_drop _ _).symm
  rw [hz, e, eachL_app, List.append_assoc] at h
  obtain ⟨e1, e2⟩ := eachL_cut _ _ (fun s hs => hu.fit s (List.mem_of_mem_take hs)) hf.fit (by rw [List.length_take]; omega) h
  cases hd : u.drop p.length with
  | nil =>
    have := congrArg List.length hd
    rw [List.length_drop] at this
    simp only [List.length_nil] at this; omega
  | cons s v =>
    have hs : s.size ≤ 60 := hu s (List.mem_of_mem_drop (by rw [hd]; exact List.mem_cons_self ..))
    rw [hd, eachL] at e2
    exact hbad s.size (nums s) (eachL v ++ r') hs (nums_len s) (by rw [← e2]; simp only [List.append_assoc])
theorem each_bad_none {r : List Int} (h : (varR r).2 = 0) : ∀ (k : Nat) (q r' : List Int), k ≤ 60 → q.length = k → r ≠ pv (k : Int) ++ (q ++ r') := by
  intro k q r' hk hq e
  have := varR_put (k : Int) (q ++ r') (by omega) (by omega)
  rw [← e] at this
  rw [this] at h
  have hp := pv_pos (k : Int)
  simp at h
  rw [h] at hp
  simp at hp
theorem each_bad_long {r rest : List Int} {y : Int} (hy : 0 ≤ y ∧ y ≤ 18446744073709551615) (hr : r = pv y ++ rest) (h : 60 < y) : ∀ (k : Nat) (q r' : List Int), k ≤ 60 → q.length = k → r ≠ pv (k : Int) ++ (q ++ r') := by
  intro k q r' hk hq e
  rw [hr] at e
  have := (pv_cut hy (by omega) e).1
  omega
theorem each_bad_few {r rest : List Int} {y : Int} (hy : 0 ≤ y ∧ y ≤ 18446744073709551615) (hr : r = pv y ++ rest) (h : (rest.length : Int) < y) : ∀ (k : Nat) (q r' : List Int), k ≤ 60 → q.length = k → r ≠ pv (k : Int) ++ (q ++ r') := by
  intro k q r' hk hq e
  rw [hr] at e
  obtain ⟨e1, e2⟩ := pv_cut hy (by omega) e
  have := congrArg List.length e2
  rw [List.length_append] at this
  omega
theorem each_one {l : List ByteArray} {r zs : List Int} {N : Nat} (hz : zs = eachL l ++ r) (hl : l.length = N) (hf : Few60 l) : ∀ u, Few60 u → u.length = N → ∀ r', eachL u ++ r' = zs → u = l ∧ r' = r := by
  intro u hu hn r' h
  rw [hz] at h
  exact eachL_cut u l hu.fit hf.fit (by omega) h
/-- the texts of places -/
def byPlaces (ws : List ByteArray) (ps : List Int) : List ByteArray := ps.map (fun p => ws.getD p.toNat ⟨#[]⟩)
theorem byPlaces_snoc (ws : List ByteArray) (ps : List Int) (p : Int) : byPlaces ws (ps ++ [p]) = byPlaces ws ps ++ [ws.getD p.toNat ⟨#[]⟩] := by simp [byPlaces]
theorem byPlaces_len (ws : List ByteArray) (ps : List Int) : (byPlaces ws ps).length = ps.length := by simp [byPlaces]
theorem byPlaces_back (l : List ByteArray) : byPlaces (words l) (placesL l) = l := by
  unfold byPlaces placesL
  rw [List.map_map]
  refine (List.map_congr_left (fun s hs => ?_)).trans (List.map_id _)
  have := place_get ((words_mem l s).2 hs)
  simp [List.getD, this]
theorem byPlaces_few {ws : List ByteArray} (h : Few60 ws) (ps : List Int) : Few60 (byPlaces ws ps) := by
  intro s hs
  obtain ⟨p, _, rfl⟩ := List.mem_map.1 hs
  rw [List.getD_eq_getElem?_getD]
  cases hg : ws[p.toNat]? with
  | none => exact (by decide : (⟨#[]⟩ : ByteArray).size ≤ 60)
  | some x => exact h x (List.mem_of_getElem? hg)
/-- what the way by places says -/
theorem dict_says {u : List ByteArray} {zs body : List Int} {y : Int} (hu : Few60 u) (hn : u.length ≤ 2000) (hy : 0 ≤ y ∧ y ≤ 18446744073709551615) (hz : zs = pv y ++ body) (h : dictL u = zs) : ((words u).length : Int) = y ∧ eachL (words u) ++ joinN (placesL u) = body := by
  rw [hz, dictL] at h
  have := words_len u
  exact pv_cut (by omega) hy h
theorem words_few {u : List ByteArray} (h : Few60 u) : Few60 (words u) := fun s hs => h s ((words_mem u s).1 hs)
/-- numbers that begin so -/
theorem places_few {ps : List Int} {r zs : List Int} {N : Nat} (hz : zs = joinN ps ++ r) (hp : ps.length < N) (hi : U64s ps) {W : Int} (hbad : ∀ (k : Int) (r' : List Int), 0 ≤ k → k < W → W ≤ 9223372036854775807 → r ≠ pv k ++ r') (hW : W ≤ 9223372036854775807) :
    ∀ qs : List Int, (∀ q ∈ qs, 0 ≤ q ∧ q < W) → qs.length = N → joinN qs ≠ zs := by
  intro qs hq hn h
  have hu : U64s qs := fun q h => by have := hq q h; omega
  have e : qs = qs.take ps.length ++ qs.drop ps.length := (List.take_append_drop _ _).symm
  rw [hz, e, joinN_app] at h
  obtain ⟨e1, e2⟩ := joinN_cut _ _ (fun s hs => hu s (List.mem_of_mem_take hs)) hi (by rw [List.length_take]; omega) h
  cases hd : qs.drop ps.length with
  | nil =>
    have := congrArg List.length hd
    rw [List.length_drop] at this
    simp only [List.length_nil] at this; omega
  | cons s v =>
    have hs := hq s (List.mem_of_mem_drop (by rw [hd]; exact List.mem_cons_self ..))
    rw [hd, joinN] at e2
    exact hbad s (joinN v) hs.1 hs.2 hW e2.symm
theorem places_lt (l : List ByteArray) : ∀ q ∈ placesL l, 0 ≤ q ∧ q < ((words l).length : Int) := by
  intro q hq
  obtain ⟨s, hs, rfl⟩ := List.mem_map.1 hq
  have := place_lt ((words_mem l s).2 hs)
  omega
/-- small numbers have a byte each -/
theorem joinN_small : ∀ {l : List Int}, (∀ x ∈ l, x < 128) → joinN l = l
  | [], _ => rfl
  | x :: l, h => by rw [joinN, pv_small (h x (List.mem_cons_self ..)), joinN_small (fun y hy => h y (List.mem_cons_of_mem _ hy))]; rfl
theorem places_small {l : List ByteArray} (h : l.length ≤ 128) : joinN (placesL l) = placesL l := joinN_small (fun x hx => by have := places_lt l x hx; have := words_len l; omega)
theorem dictL_small {l : List ByteArray} (h : l.length ≤ 127) : dictL l = ((words l).length : Int) :: (eachL (words l) ++ placesL l) := by
  have := words_len l
  rw [dictL, pv_small (by omega), places_small (by omega)]; rfl
/-- places, step by step -/
theorem words_take_len {l : List ByteArray} {i : Nat} (h : i < l.length) : (words (l.take (i + 1))).length = max (words (l.take i)).length (placeB (words (l.take i)) l[i] + 1) := by
  rw [List.take_succ_eq_append_getElem h, words_snoc]
  unfold addW
  by_cases hm : l[i] ∈ words (l.take i)
  · rw [if_pos (there_iff.2 hm)]
    have := place_lt hm
    omega
  · rw [if_neg (by rw [there_iff]; exact hm), place_not hm, List.length_append, List.length_singleton]
    omega
theorem places_pre : ∀ (a b : List ByteArray), ∃ r, placesL (a ++ b) = placesL a ++ r := by
  intro a b
  unfold placesL
  rw [List.map_append]
  refine ⟨_, congrArg (· ++ _) (List.map_congr_left (fun x hx => ?_))⟩
  obtain ⟨r, hr⟩ := words_app a b
  rw [hr, place_app _ ((words_mem a x).2 hx)]
theorem places_at {l : List ByteArray} {i : Nat} (h : i < l.length) : (placesL l).getD i 0 = (placeB (words (l.take i)) l[i] : Int) := by
  have e : l = l.take (i + 1) ++ l.drop (i + 1) := (List.take_append_drop _ _).symm
  obtain ⟨r, hr⟩ := places_pre (l.take (i + 1)) (l.drop (i + 1))
  rw [← e] at hr
  have hp : placesL (l.take (i + 1)) = placesL (l.take i) ++ [(placeB (words (l.take i)) l[i] : Int)] := by
    rw [List.take_succ_eq_append_getElem h, places_snoc]
  rw [hr, hp, List.append_assoc, List.getD_eq_getElem?_getD, List.getElem?_append_right (by rw [places_len, List.length_take]; omega), places_len, List.length_take]
  rw [show i - min i l.length = 0 by omega]; rfl
theorem places_same {l : List ByteArray} {i k : Nat} (hi : i < l.length) (hk : k < l.length) : l[k] = l[i] ↔ (placesL l).getD k 0 = (placesL l).getD i 0 := by
  have e : ∀ j (h : j < l.length), (placesL l).getD j 0 = (placeB (words l) l[j] : Int) := by
    intro j h
    simp [placesL, List.getD, h]
  rw [e k hk, e i hi]
  constructor
  · intro h; rw [h]
  · intro h
    exact place_inj ((words_mem l _).2 (List.getElem_mem hk)) ((words_mem l _).2 (List.getElem_mem hi)) (by omega)
/-- texts that come again have no new words -/
theorem wordsF_there : ∀ (l ws : List ByteArray), (∀ s ∈ l, s ∈ ws) → wordsF ws l = ws
  | [], ws, _ => rfl
  | s :: l, ws, h => by
    have hs : addW ws s = ws := by unfold addW; rw [if_pos (there_iff.2 (h s (List.mem_cons_self ..)))]
    rw [wordsF, hs]
    exact wordsF_there l ws (fun x hx => h x (List.mem_cons_of_mem _ hx))
theorem words_app_is (a b : List ByteArray) : words (a ++ b) = wordsF (words a) b := by
  unfold words
  generalize ([] : List ByteArray) = ws
  induction a generalizing ws with
  | nil => rfl
  | cons s a ih => rw [List.cons_append, wordsF, wordsF, ih]
/-- a list, so many times -/
def timesL (l : List ByteArray) : Nat → List ByteArray
  | 0 => []
  | n + 1 => timesL l n ++ l
theorem timesL_len (l : List ByteArray) : ∀ n, (timesL l n).length = n * l.length
  | 0 => by simp [timesL]
  | n + 1 => by rw [timesL, List.length_append, timesL_len l n, Nat.succ_mul]
theorem words_times (l : List ByteArray) : ∀ n, words (timesL l (n + 1)) = words l
  | 0 => by rw [timesL, timesL, List.nil_append]
  | n + 1 => by
    rw [timesL, words_app_is, words_times l n]
    exact wordsF_there l _ (fun s hs => (words_mem l s).2 hs)
theorem dict_times {l : List ByteArray} (h : l.length ≤ 20) (n : Nat) (hn : n ≤ 2) : (dictL (timesL l (n + 1))).length = 1 + (eachL (words l)).length + (n + 1) * l.length := by
  have h1 := timesL_len l (n + 1)
  have h2 : (n + 1) * l.length ≤ 3 * 20 := Nat.mul_le_mul (by omega) h
  rw [dictL_small (by omega), words_times, List.length_cons, List.length_append, places_len, h1]; omega
end Go.Proofs.Ytmoppmifhhnolaa
