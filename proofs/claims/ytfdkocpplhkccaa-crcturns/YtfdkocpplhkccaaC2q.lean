/- What frames say: plain facts. -/
import Derived.Test.YtfdkocpplhkccaaC2f
namespace Go.Proofs.Ytfdkocpplhkccaa
set_option linter.unusedVariables false

theorem acc8_take (zs : List Int) (m : Nat) : ∀ k, k ≤ m → acc8 (zs.take m) k = acc8 zs k
  | 0, _ => rfl
  | k + 1, h => by
    rw [acc8, acc8, acc8_take zs m k (by omega)]
    have : (zs.take m).getD k 0 = zs.getD k 0 := by simp [List.getD, List.getElem?_take_of_lt (show k < m from by omega)]
    rw [this]
theorem sealL_acc (zs : List Int) (hz : ∀ z ∈ zs, 0 ≤ z ∧ z ≤ 255) : acc8 (sealL zs) 4 = (crcN zs : Int) := by
  have h := crcN_lt hz
  rw [sealL, acc8_take _ 4 4 (Nat.le_refl _), acc8_w8 _ (by omega) 4 (by omega)]
  omega
theorem sealL_inj {a b : List Int} (ha : ∀ z ∈ a, 0 ≤ z ∧ z ≤ 255) (hb : ∀ z ∈ b, 0 ≤ z ∧ z ≤ 255) (h : sealL a = sealL b) : crcN a = crcN b := by
  have h1 := sealL_acc a ha
  have h2 := sealL_acc b hb
  rw [h, h2] at h1
  omega

/-- any bytes behind a length and four bytes -/
theorem unf_of (n : Nat) (q d rest : List Int) (hn : d.length = n) (hq : q.length = 4) (hm : n ≤ 1048576) :
    unf (pv (n : Int) ++ q ++ d ++ rest) = if q = sealL d then (d, ((pv (n : Int)).length : Int) + 4 + n, 0) else ([], 0, 11) := by
  have hv := varR_put (n : Int) (q ++ d ++ rest) (by omega) (by omega)
  have e : pv (n : Int) ++ q ++ d ++ rest = pv (n : Int) ++ (q ++ d ++ rest) := by simp [List.append_assoc]
  have hp := pv_pos (n : Int)
  rw [e, unf_some (s := n) (k := (pv (n : Int)).length) (by rw [hv]) (by rw [hv]) (by simp only [List.length_append]; omega)]
  have d1 : (pv (n : Int) ++ (q ++ d ++ rest)).drop (pv (n : Int)).length = q ++ d ++ rest := by rw [List.drop_left]
  have d2 : (pv (n : Int) ++ (q ++ d ++ rest)).drop ((pv (n : Int)).length + 4) = d ++ rest := by
    rw [← List.drop_drop, d1, List.append_assoc]
    rw [← hq]; exact List.drop_left
  rw [d1, d2, List.take_left' hn, List.append_assoc, List.take_left' hq]
theorem frameL_len (b : List Int) : (frameL b).length = (pv (b.length : Int)).length + 4 + b.length := by
  rw [frameL]; simp only [List.length_append, sealL_len]
theorem frameL_bytes {b : List Int} (hb : ∀ z ∈ b, 0 ≤ z ∧ z ≤ 255) : ∀ z ∈ frameL b, 0 ≤ z ∧ z ≤ 255 := by
  intro z hz
  rw [frameL] at hz
  rcases List.mem_append.1 hz with h | h
  · rcases List.mem_append.1 h with h | h
    · exact pv_bytes (by omega) z h
    · exact sealL_bytes b z h
  · exact hb z h
/-- what was framed is told, whatever is behind it -/
theorem unf_frame (b rest : List Int) (hm : b.length ≤ 1048576) : unf (frameL b ++ rest) = (b, ((frameL b).length : Int), 0) := by
  have h := unf_of b.length (sealL b) b rest rfl (sealL_len b) hm
  rw [if_pos rfl] at h
  rw [frameL_len, frameL, h]
  simp only [Int.natCast_add]
  rfl
/-- a part of a frame is none -/
theorem unf_part (b : List Int) (r : Nat) (hm : b.length ≤ 1048576) (hr : r < (frameL b).length) : unf ((frameL b).take r) = ([], 0, 10) := by
  rw [frameL_len] at hr
  have h0 : (0 : Int) ≤ (b.length : Int) := by omega
  by_cases h : r < (pv (b.length : Int)).length
  · have e : (frameL b).take r = (pv (b.length : Int)).take r := by
      rw [frameL, List.append_assoc, List.take_append_of_le_length (by omega)]
    have hv := varR_part (b.length : Int) r h0 (by omega) h
    rw [e]
    exact unf_bad (s := 0) (k := 0) (by rw [hv]) (by rw [hv]) (.inl rfl)
  · have e : (frameL b).take r = pv (b.length : Int) ++ (sealL b ++ b).take (r - (pv (b.length : Int)).length) := by
      rw [frameL, List.append_assoc, List.take_append, List.take_of_length_le (by omega)]
    have hl : ((frameL b).take r).length = r := by rw [List.length_take, frameL_len]; omega
    have hv := varR_put (b.length : Int) ((sealL b ++ b).take (r - (pv (b.length : Int)).length)) h0 (by omega)
    rw [← e] at hv
    exact unf_bad (s := (b.length : Int)) (k := ((pv (b.length : Int)).length : Int)) (by rw [hv]) (by rw [hv]) (.inr (.inr (by rw [hl]; omega)))
/-- bytes of another sum are told -/
theorem unf_turned (b d : List Int) (hl : d.length = b.length) (hm : b.length ≤ 1048576) (hb : ∀ z ∈ b, 0 ≤ z ∧ z ≤ 255) (hd : ∀ z ∈ d, 0 ≤ z ∧ z ≤ 255) (hne : crcN b ≠ crcN d) :
    unf (pv (b.length : Int) ++ sealL b ++ d) = ([], 0, 11) := by
  have h := unf_of b.length (sealL b) d [] hl (sealL_len b) hm
  rw [List.append_nil] at h
  rw [h, if_neg (fun e => hne (sealL_inj hb hd e))]
end Go.Proofs.Ytfdkocpplhkccaa
