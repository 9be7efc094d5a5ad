/- Bits in bytes: plain data; counted. -/
import Derived.Test.YtdolgpogjnfpkaaE
namespace Go.Proofs.Ytdolgpogjnfpkaa
set_option linter.unusedVariables false
open Go.ChangeShapes Go.WideShapes Go.ChangeAt Go.RowKit

def bit (v : Nat) : Nat := if v = 0 then 0 else 1
theorem bit_le (v : Nat) : bit v ≤ 1 := by unfold bit; split <;> omega
/-- Bits, the lowest first, in a number. -/
def val : List Nat → Nat
  | [] => 0
  | v :: r => bit v + 2 * val r
theorem val_lt (A : List Nat) : val A < 2 ^ A.length := by
  induction A with
  | nil => decide
  | cons v A ih => have := bit_le v; simp only [val, List.length_cons, Nat.pow_succ]; omega
theorem val_snoc (A : List Nat) (v : Nat) : val (A ++ [v]) = val A + 2 ^ A.length * bit v := by
  induction A with
  | nil => simp [val]
  | cons x A ih =>
    have e : 2 ^ A.length * 2 * bit v = 2 * (2 ^ A.length * bit v) := by rw [Nat.mul_comm _ 2, Nat.mul_assoc]
    simp only [List.cons_append, val, ih, List.length_cons, Nat.pow_succ, Nat.mul_add, e]; omega
theorem val_bit (A : List Nat) (t : Nat) : val A / 2 ^ t % 2 = bit (A.getD t 0) := by
  induction A generalizing t with
  | nil => simp [val, bit]
  | cons v A ih =>
    have hv := bit_le v
    cases t with
    | zero => simp only [val, Nat.pow_zero, Nat.div_one]; simp [List.getD]; omega
    | succ t =>
      simp only [val, List.getD_cons_succ]
      rw [← ih t, Nat.pow_succ, Nat.mul_comm (2 ^ t) 2, ← Nat.div_div_eq_div_mul]
      congr 2
      omega
def byteAt (V : List Nat) (j : Nat) : Nat := val ((V.drop (8 * j)).take 8)
theorem byteAt_lt (V : List Nat) (j : Nat) : byteAt V j < 256 := by
  have h1 := val_lt ((V.drop (8 * j)).take 8)
  have h2 : ((V.drop (8 * j)).take 8).length ≤ 8 := List.length_take_le _ _
  have h3 : 2 ^ ((V.drop (8 * j)).take 8).length ≤ 2 ^ 8 := Nat.pow_le_pow_right (by omega) h2
  unfold byteAt; omega
theorem byteAt_out (V : List Nat) (j : Nat) (h : V.length ≤ 8 * j) : byteAt V j = 0 := by
  unfold byteAt; rw [List.drop_of_length_le h]; rfl
def bits (V : List Nat) : List Nat := (List.range ((V.length + 7) / 8)).map (byteAt V)
theorem bits_len (V : List Nat) : (bits V).length = (V.length + 7) / 8 := by simp [bits]
theorem bits_by (V : List Nat) : ∀ b ∈ bits V, b < 256 := by
  intro b hb; simp [bits] at hb; obtain ⟨j, _, rfl⟩ := hb; exact byteAt_lt V j
def bt (L : List Nat) (i : Nat) : Nat := L.getD (i / 8) 0 / 2 ^ (i % 8) % 2
def unb (L : List Nat) (n : Nat) : List Nat := (List.range n).map (bt L)
theorem unb_len (L : List Nat) (n : Nat) : (unb L n).length = n := by simp [unb]
theorem bt_le (L : List Nat) (i : Nat) : bt L i ≤ 1 := by unfold bt; omega
theorem unb_by (L : List Nat) (n : Nat) : ∀ v ∈ unb L n, v ≤ 1 := by
  intro v hv; simp [unb] at hv; obtain ⟨i, _, rfl⟩ := hv; exact bt_le L i
theorem bt_bits (V : List Nat) (i : Nat) (hi : i < V.length) : bt (bits V) i = bit (V.getD i 0) := by
  unfold bt
  have hj : i / 8 < (V.length + 7) / 8 := by omega
  have e : (bits V).getD (i / 8) 0 = byteAt V (i / 8) := by simp [bits, List.getD, List.getElem?_map, List.getElem?_range hj]
  rw [e, byteAt, val_bit]
  congr 1
  simp only [List.getD]
  rw [List.getElem?_take_of_lt (by omega), List.getElem?_drop, show 8 * (i / 8) + i % 8 = i by omega]
theorem val_byte : ∀ x, x < 256 → val ((List.range 8).map fun t => x / 2 ^ t % 2) = x := by decide +kernel
theorem bits_unb (L : List Nat) (h : ∀ b ∈ L, b < 256) : bits (unb L (8 * L.length)) = L := by
  apply List.ext_getElem
  · rw [bits_len, unb_len]; omega
  · intro j h1 h2
    have e : (bits (unb L (8 * L.length)))[j] = byteAt (unb L (8 * L.length)) j := by simp [bits]
    rw [e]
    unfold byteAt
    have hl : ((unb L (8 * L.length)).drop (8 * j)).take 8 = (List.range 8).map fun t => L[j] / 2 ^ t % 2 := by
      apply List.ext_getElem
      · rw [List.length_take, List.length_drop, unb_len]; simp; omega
      · intro t h3 h4
        have h8 : t < 8 := by simpa using h4
        simp [unb, bt]
        rw [show (8 * j + t) / 8 = j by omega, Nat.mod_eq_of_lt h8, List.getElem?_eq_getElem h2]
        rfl
    rw [hl]
    exact val_byte _ (h _ (List.getElem_mem h2))
/-- One value more. -/
theorem byteAt_snoc (V : List Nat) (k : Nat) (hk : k < V.length) (j : Nat) : byteAt (V.take (k + 1)) j = if j = k / 8 then byteAt (V.take k) j + 2 ^ (k % 8) * bit (V.getD k 0) else byteAt (V.take k) j := by
  have ht := take_snoc' V k hk
  have hl : (V.take k).length = k := by rw [List.length_take]; omega
  unfold byteAt
  rw [ht]
  by_cases h1 : 8 * j ≤ k
  · rw [List.drop_append_of_le_length (by omega)]
    have hd : ((V.take k).drop (8 * j)).length = k - 8 * j := by rw [List.length_drop, hl]
    by_cases h2 : k - 8 * j < 8
    · rw [if_pos (by omega), List.take_of_length_le (by rw [List.length_append, hd]; simp; omega), val_snoc, hd, List.take_of_length_le (l := (V.take k).drop (8 * j)) (by rw [hd]; omega), show k - 8 * j = k % 8 by omega]
    · rw [if_neg (by omega), List.take_append_of_le_length (by rw [hd]; omega)]
  · rw [if_neg (by omega), List.drop_of_length_le (by rw [List.length_append, hl]; simp; omega), List.drop_of_length_le (by omega)]
theorem byteAt_lo (V : List Nat) (k : Nat) (hk : k ≤ V.length) : byteAt (V.take k) (k / 8) < 2 ^ (k % 8) := by
  have hl : (V.take k).length = k := by rw [List.length_take]; omega
  unfold byteAt
  have hd : ((V.take k).drop (8 * (k / 8))).length = k % 8 := by rw [List.length_drop, hl]; omega
  rw [List.take_of_length_le (by rw [hd]; omega), ← hd]
  exact val_lt _
theorem or_bit (x t : Nat) (ht : t < 8) (hx : x < 2 ^ t) : x ||| 2 ^ t = x + 2 ^ t := by
  have := Nat.two_pow_add_eq_or_of_lt (i := t) (b := x) hx 1
  rw [Nat.mul_one] at this
  rw [Nat.or_comm, ← this, Nat.add_comm]

def CountedP (B : Nat) (w : World) (L : List Nat) (e : Ending) (w' : World) : Prop := ∃ v', e = .returned v' ∧ OwnV B w' v' L ∧ Below B w w'
set_option maxRecDepth 100000 in
set_option maxHeartbeats 4000000 in
theorem counted_any (B : Nat) (v : Value) (L : List Nat) (a : Option Addr) (n c : Nat) (M : List Nat) (w : World) (hB : B ≤ w.heap.size) (ho : OwnV B w v L) (h : Bys w a n M) (hnil : a = none → c = 0) (hne : ∀ b off, a = some ⟨b, off, none⟩ → 0 < n → ∀ b', v.ownBlock = some b' → b ≠ b') (hL : L.length ≤ 10000) (hn : n ≤ 255) :
    Calls Try.prog 75 #[v, .slice a n c] w (CountedP B w (L ++ n :: M)) := by
  have H := Lib.hid h
  have HN := Lib.hid hnil
  have HNE := Lib.hid hne
  obtain ⟨va, vc, rfl⟩ := own_form ho
  obtain ⟨m, hm⟩ : ∃ m, m = L.length := ⟨_, rfl⟩
  have ho' : w.ownsRow B 5 1 (.slice va L.length vc) L.length (bv L) := ho
  unfold OwnV at ho
  rw [← hm] at ho' hne hL ⊢
  have HO := Lib.hid ho'
  have HNE := Lib.hid hne
  have Hm := Lib.hid hm
  clear h ho hnil hne ho' hm
  obtain ⟨ti, hi, hz0, hz1, hz2⟩ := info_parts info5
  go_enter Try.func75, Try.ntmps75
  go_wp2_with (at_builtin; refine wpList_append_bys rfl (.tmp 5) (.tmp 9) rfl B _ ?hB _ m L rfl ?own (some ⟨w.heap.size, 0, none⟩) 1 1 [n] rfl ?hby ?nil ?le ?_)
  case hB => simp; omega
  case own => exact own_keep (w' := w.alloc (.cells #[.int .u8 (n : Int)] 5 (0, 0))) HO.out ((Below.refl _ _).alloc (Nat.le_refl _) _)
  case hby =>
    refine bys_block [n] (by simp [maxLen]) ?_ ?_ (t := 5) (m := (0, 0))
    · intro b hb
      simp at hb
      omega
    · rw [heap_alloc_new]; simp [bv]
  case nil => intro e; cases e
  case le => omega
  intro v1 w1 ho1 hg1 _ hob
  have hb1 : Below B w w1 := ((Below.refl B w).alloc hB _).grown hg1 (by simp; omega) (fun q hq => ((own_keep (w' := w.alloc (.cells #[.int .u8 (n : Int)] 5 (0, 0))) HO.out ((Below.refl _ _).alloc (Nat.le_refl _) _)).lt q hq).1)
  have hM1 : Bys w1 a n M := by
    refine ⟨H.out.ln, H.out.le, H.out.by', ?_⟩
    rcases H.out.at' with z | ⟨b, off, e, hlt, hc⟩
    · exact .inl z
    · by_cases h0 : n = 0
      · exact .inl h0
      · refine .inr ⟨b, off, e, Nat.lt_of_lt_of_le hlt hb1.size, fun i hi => ?_⟩
        rw [← hc i hi]
        refine World.cell?_of_block ((hg1.block b (by simp; omega) (fun e2 => HNE.out b off e (by omega) b e2.symm rfl)).trans ?_)
        exact heap_alloc_old _ _ hlt
  have O1 := Lib.hid ho1
  have B1 := Lib.hid hb1
  have M1 := Lib.hid hM1
  have hs1 := hb1.size
  clear ho1 hg1 hob hb1 hM1
  go_wp2_with (at_builtin; refine wpList_append_bys rfl (.tmp 10) (.tmp 11) rfl B _ ?hB2 _ (m + 1) (L ++ [n]) rfl O1.out a n c M rfl M1.out HN.out ?le2 ?_)
  case hB2 => omega
  case le2 => omega
  intro v2 w2 ho2 hg2 _ _
  have hb2 : Below B w w2 := B1.out.grown hg2 (Nat.le_trans hB hs1) (fun q hq => (O1.out.lt q hq).1)
  have hf : CountedP B w (L ++ n :: M) (.returned v2) w2 := by
    refine ⟨v2, rfl, ?_, hb2⟩
    unfold OwnV
    have e : (L ++ n :: M).length = m + 1 + n := by rw [List.length_append, List.length_cons, H.out.ln, Hm.out]; omega
    rw [e]
    have e2 : L ++ [n] ++ M = L ++ n :: M := by simp
    first | exact ho2 | (rw [← e2]; exact ho2)
  have HF := Lib.hid hf
  clear ho2 hg2 hb2 hf
  go_wp2_with fail
  go_ret
  exact HF.out
end Go.Proofs.Ytdolgpogjnfpkaa
