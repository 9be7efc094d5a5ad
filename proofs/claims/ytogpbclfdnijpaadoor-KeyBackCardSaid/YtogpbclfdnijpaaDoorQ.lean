/- What words of a key tell; an argument of words that the reach bounds. -/
import Derived.Test.YtogpbclfdnijpaaDoorM
import Derived.SizedLaws
import Derived.HandedShaped
namespace Go.Proofs.YtogpbclfdnijpaaDoor
set_option linter.unusedVariables false
set_option linter.unusedSimpArgs false
open Go.ChangeShapes Go.WideShapes Go.ChangeAt Go.RowKit

theorem key_facts {K : List Nat} (h : keyB K = true) : 0 < K.length ∧ K.length ≤ 32 ∧ ∀ x ∈ K, x ≠ 0 := by
  unfold keyB at h
  simp only [Bool.and_eq_true, decide_eq_true_eq, List.all_eq_true] at h
  exact ⟨h.1.1, h.1.2, h.2⟩
theorem wordsK_len (K : List Nat) : (wordsK K).length = (K.length + 1) / 2 := by unfold wordsK; rw [wx_len]
theorem byV_key {K : List Nat} (hb : ∀ b ∈ K, b < 256) (X : List Nat) (i : Nat) (hi : i < K.length) : byV (wordsK K ++ X) i = K.getD i 0 := by
  have e : (wordsK K ++ X).getD (i / 2) 0 = wAt K K.length (i / 2) := by
    rw [← wx_get K ((K.length + 1) / 2) K.length (i / 2) (by omega)]
    simp only [List.getD]
    rw [List.getElem?_append_left (by rw [wordsK_len]; omega)]
    rfl
  have h1 := getD_lt hb (2 * (i / 2))
  have h2 := getD_lt hb (2 * (i / 2) + 1)
  unfold byV
  rw [e]
  unfold wAt
  by_cases q : i % 2 = 0
  · rw [if_pos q, if_pos (by omega)]
    have e2 : 2 * (i / 2) = i := by omega
    rw [e2] at h1 h2 ⊢
    generalize K.getD i 0 = u at h1 ⊢
    generalize K.getD (i + 1) 0 = v at h2 ⊢
    split <;> omega
  · rw [if_neg q, if_pos (by omega), if_pos (by omega)]
    have e2 : 2 * (i / 2) + 1 = i := by omega
    rw [e2] at h2 ⊢
    generalize K.getD i 0 = u at h2 ⊢
    omega
theorem byV_end {K : List Nat} (X : List Nat) (hx : X.getD 0 0 = 0) : byV (wordsK K ++ X) K.length = 0 := by
  unfold byV
  by_cases q : K.length % 2 = 0
  · rw [if_pos q]
    have : (wordsK K ++ X).getD (K.length / 2) 0 = 0 := by
      simp only [List.getD] at hx ⊢
      rw [List.getElem?_append_right (by rw [wordsK_len]; omega), wordsK_len, show K.length / 2 - (K.length + 1) / 2 = 0 by omega]
      exact hx
    rw [this]
  · rw [if_neg q]
    have e : (wordsK K ++ X).getD (K.length / 2) 0 = wAt K K.length (K.length / 2) := by
      rw [← wx_get K ((K.length + 1) / 2) K.length (K.length / 2) (by omega)]
      simp only [List.getD]
      rw [List.getElem?_append_left (by rw [wordsK_len]; omega)]
      rfl
    rw [e]
    unfold wAt
    rw [if_pos (by omega), if_neg (by omega)]
    omega
theorem text_key {K : List Nat} (h : keyB K = true) (hb : ∀ b ∈ K, b < 256) (X : List Nat) (hx : X.getD 0 0 = 0) : textK (wordsK K ++ X) = K := by
  obtain ⟨h0, h32, hnz⟩ := key_facts h
  have hm : (List.range K.length).map (byV (wordsK K ++ X)) = K := by
    apply List.ext_getElem
    · simp
    · intro i h1 h2
      simp only [List.getElem_map, List.getElem_range]
      rw [byV_key hb X i h2]
      simp [List.getD, h2]
  have hk : K.length ≤ txN (wordsK K ++ X) := by unfold txN; rw [List.length_append, wordsK_len]; omega
  have ht := tx_all (wordsK K ++ X) K.length hk (by rw [hm]; exact hnz) (fun _ => byV_end X hx)
  rw [hm] at ht
  unfold textK
  rw [ht, if_pos h]
theorem tx_by {V : List Nat} (h : ∀ v ∈ V, v < 65536) : ∀ b ∈ tx V, b < 256 := by
  intro b hb
  unfold tx at hb
  have := List.takeWhile_subset _ hb
  rw [List.mem_map] at this
  obtain ⟨i, _, rfl⟩ := this
  exact byV_lt V h i
/-- The words tell a key, or nothing. -/
theorem text_or {V : List Nat} (h : ∀ v ∈ V, v < 65536) : textK V = [] ∨ (keyB (textK V) = true ∧ ∀ b ∈ textK V, b < 256) := by
  unfold textK
  cases hk : keyB (tx V) with
  | true => rw [if_pos rfl]; exact .inr ⟨hk, tx_by h⟩
  | false => rw [if_neg (by simp)]; exact .inl rfl
theorem key_all (s : ByteArray) (k : Nat) (hk : k < s.size) : ((sl s).take (k + 1)).all (fun x => decide (x ≠ 0)) = (((sl s).take k).all (fun x => decide (x ≠ 0)) && decide (s[k].toNat ≠ 0)) := by
  rw [take_snoc' _ k (by rw [sl_len]; exact hk), List.all_append, sl_get s k hk]
  simp

theorem bytes28 : Tryd.prog.bytesOf 28 = 2 := by kernel_rfl
theorem arg_words_z {H : Type} {enc : TypeId × Value → H} {w : World} {fuel : Nat} {a : Option Addr} {len cap : Nat} {x : DataW H × List MemPlace} (h : DataW.trod enc Tryd.prog w 0 (fun _ => true) true fuel 22 [.slice a len cap] = some x) :
    ∃ L : List Nat, ArgW w a len cap L ∧ ∀ (ts : List TypeId) (ds : List (DataW H)) (j : Nat), (DataW.weightsEach Tryd.prog ts ds).all (· ≤ reachBytes) = true → ts[j]? = some 22 → ds[j]? = some x.1 → cap ≤ 140737488355328 := by
  obtain ⟨L, hL⟩ := arg_words h
  refine ⟨L, hL, fun ts ds j hz ht hd => ?_⟩
  rcases open_ints (k := .u16) Tryd.underlying22 Tryd.underlying28 (by kernel_rfl) h with ⟨hcs, _⟩ | ⟨y, l, c, zs, hcs, _, hl, hm, hzz, hx, hcell, hwz⟩
  · simp at hcs
    omega
  · simp at hcs
    obtain ⟨rfl, rfl, rfl⟩ := hcs
    subst hx
    have hs := sized_slice hz ht hd Tryd.underlying22
    have hz' : zs.length = cap := by simpa using hzz
    rw [bytes28] at hs
    simp only [lits, List.length_map, List.length_take, List.length_drop] at hs
    have := reachBytes_lt
    omega
end Go.Proofs.YtogpbclfdnijpaaDoor
