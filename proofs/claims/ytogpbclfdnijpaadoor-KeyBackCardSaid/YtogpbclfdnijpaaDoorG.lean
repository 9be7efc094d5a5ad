/- A key's words. -/
import Derived.Test.YtogpbclfdnijpaaDoorF
namespace Go.Proofs.YtogpbclfdnijpaaDoor
set_option linter.unusedVariables false
set_option linter.unusedSimpArgs false
open Go.ChangeShapes Go.WideShapes Go.ChangeAt Go.RowKit

def wAt (K : List Nat) (k j : Nat) : Nat := (if 2 * j < k then 256 * K.getD (2 * j) 0 else 0) + (if 2 * j + 1 < k then K.getD (2 * j + 1) 0 else 0)
def wx (K : List Nat) (m k : Nat) : List Nat := (List.range m).map (wAt K k)
def wordsK (K : List Nat) : List Nat := wx K ((K.length + 1) / 2) K.length
theorem wx_len (K : List Nat) (m k : Nat) : (wx K m k).length = m := by simp [wx]
theorem wx_get (K : List Nat) (m k j : Nat) (h : j < m) : (wx K m k).getD j 0 = wAt K k j := by simp [wx, List.getD, h]
theorem wx_zero (K : List Nat) (m : Nat) : wx K m 0 = List.replicate m 0 := by
  unfold wx
  rw [List.eq_replicate_iff]
  refine ⟨by simp, ?_⟩
  intro b hb
  simp only [List.mem_map] at hb
  obtain ⟨j, _, rfl⟩ := hb
  simp [wAt]
theorem wx_set (K : List Nat) (m k : Nat) (h : k / 2 < m) : (wx K m k).set (k / 2) (wAt K (k + 1) (k / 2)) = wx K m (k + 1) := by
  apply List.ext_getElem
  · simp [wx]
  · intro j h1 h2
    simp only [wx, List.length_set, List.length_map, List.length_range] at h1 h2
    rw [List.getElem_set]
    simp only [wx, List.getElem_map, List.getElem_range]
    split
    · rename_i e; rw [e]
    · rename_i e
      unfold wAt
      congr 1
      · by_cases q : 2 * j < k
        · rw [if_pos q, if_pos (by omega)]
        · rw [if_neg q, if_neg (by omega)]
      · by_cases q : 2 * j + 1 < k
        · rw [if_pos q, if_pos (by omega)]
        · rw [if_neg q, if_neg (by omega)]
theorem wAt_lt (K : List Nat) (h : ∀ b ∈ K, b < 256) (k j : Nat) : wAt K k j < 65536 := by
  have h1 := getD_lt h (2 * j)
  have h2 := getD_lt h (2 * j + 1)
  unfold wAt
  split <;> split <;> omega
theorem wx_by (K : List Nat) (h : ∀ b ∈ K, b < 256) (m k : Nat) : ∀ v ∈ wx K m k, v < 65536 := by
  intro v hv
  simp only [wx, List.mem_map] at hv
  obtain ⟨j, _, rfl⟩ := hv
  exact wAt_lt K h k j
theorem wAt_even (K : List Nat) (k : Nat) (h : k % 2 = 0) : wAt K k (k / 2) = 0 ∧ wAt K (k + 1) (k / 2) = 256 * K.getD k 0 := by
  unfold wAt
  rw [show 2 * (k / 2) = k by omega, if_neg (by omega), if_neg (by omega), if_pos (by omega), if_neg (by omega)]
  exact ⟨rfl, rfl⟩
theorem wAt_odd (K : List Nat) (k : Nat) (h : k % 2 = 1) : wAt K (k + 1) (k / 2) = 256 * K.getD (2 * (k / 2)) 0 + K.getD k 0 ∧ wAt K k (k / 2) = 256 * K.getD (2 * (k / 2)) 0 := by
  unfold wAt
  rw [show 2 * (k / 2) + 1 = k by omega, if_pos (by omega), if_pos (by omega), if_pos (by omega), if_neg (by omega)]
  exact ⟨rfl, rfl⟩
def WordsP (w : World) (K : List Nat) (e : Ending) (w' : World) : Prop := ∃ a c, e = .returned (.slice a (if keyB K = true then (wordsK K).length else 0) c) ∧ ArgW w' a (if keyB K = true then (wordsK K).length else 0) c (if keyB K = true then wordsK K else []) ∧ Below w.heap.size w w' ∧ ∀ b off, a = some ⟨b, off, none⟩ → w.heap.size ≤ b
theorem wmade_zero (n : Nat) : (madeCells (Value.int .u16 0).cells (n * 1)).toList = wv (List.replicate n 0) := by
  simp [madeCells, Value.cells, wv, Nat.mod_one, List.map_const']
theorem wset_blk {W : World} {g : Nat} {L : List Nat} (h : W.heap[g]? = some (.cells (wv L).toArray 28 (0, 0))) (i x : Nat) : (W.setCell ⟨g, i, none⟩ (.int .u16 (x : Int))).heap[g]? = some (.cells (wv (L.set i x)).toArray 28 (0, 0)) := by
  simp [World.setCell, Array.getElem?_modify, h, wv, List.map_set]
theorem u16_id {x : Nat} (h : x < 65536) : IntKind.u16.wrap (x : Int) = (x : Int) := by
  simp only [IntKind.wrap, IntKind.bits, IntKind.signed]
  simp
  omega
theorem val_even {x : Nat} (h : x < 256) : bits BinOp.or IntKind.u16 0 (IntKind.u16.wrap (IntKind.u16.wrap (x : Int) * 256)) = ((256 * x : Nat) : Int) := by
  rw [u16_id (by omega), show (x : Int) * 256 = ((256 * x : Nat) : Int) by omega, u16_id (by omega)]
  have := u16_or_nat 0 (256 * x) (by omega) (by omega)
  rw [show ((0 : Nat) : Int) = 0 from rfl] at this
  rw [this, Nat.zero_or]
theorem val_odd {x y : Nat} (h : x < 256) (hy : y < 256) : bits BinOp.or IntKind.u16 ((256 * y : Nat) : Int) (IntKind.u16.wrap (IntKind.u16.wrap (x : Int))) = ((256 * y + x : Nat) : Int) := by
  rw [u16_id (by omega), u16_id (by omega), u16_or_nat _ _ (by omega) (by omega)]
  have := Nat.shiftLeft_add_eq_or_of_lt (i := 8) (by simpa using h) y
  rw [Nat.shiftLeft_eq] at this
  rw [show 256 * y = y * 2 ^ 8 by omega, ← this]
theorem make_w (n : Nat) (hn : n ≤ 2000000) (w : World) : (Instr.makeSlice 22 (.int .i64 (n : Int)) (.int .i64 (n : Int))).run Tryd.prog w = .ok (.slice (some ⟨w.heap.size, 0, none⟩) n n) (w.alloc (.cells (wv (List.replicate n 0)).toArray 28 (0, 0))) := by
  obtain ⟨ti, hti, hz0, hz1, hz2⟩ := info_parts info28
  have hr := run_make (P := Tryd.prog) w 22 28 ti _ Tryd.underlying22 hti hz0 .i64 .i64 (n : Int) (n : Int) (by omega) (Int.le_refl _) (by rw [hz2]; omega) (by omega)
  rw [hz1] at hr
  have e : (n : Int).toNat = n := by simp
  rw [e] at hr
  rw [hr]
  congr 2
  have := wmade_zero n
  rw [← this]
set_option maxRecDepth 100000 in
set_option maxHeartbeats 4000000 in
theorem words_any (s : ByteArray) (w : World) (hs : s.size ≤ maxLen) : Calls Tryd.prog 7 #[.string s] w (WordsP w (sl s)) := by
  obtain ⟨P, hP⟩ : ∃ P, P = (WordsP w (sl s) : Ending → World → Prop) := ⟨_, rfl⟩
  rw [← hP]
  have HP := Lib.hid hP
  have IK := Lib.hid (fun W => isKey_any s W hs)
  cases hb : keyB (sl s) with
  | false =>
    rw [hb] at IK
    have HB := Lib.hid hb
    clear hP hb hs
    go_enter Tryd.func7, Tryd.ntmps7
    go_wp2_with fail
    refine (IK.out _).mono ?_
    rintro e w1 ⟨rfl, e1⟩
    rw [e1]
    go_wp2_with fail
    rw [HP.out]
    refine ⟨none, 0, ?_, ?_, Below.refl _ _, fun b off e => by cases e⟩
    · rw [HB.out]; rfl
    · rw [HB.out]; exact ⟨Wds.nil _ _, fun _ => ⟨rfl, rfl⟩, Nat.le_refl _, Nat.zero_le _⟩
  | true =>
    rw [hb] at IK
    have h32 : s.size ≤ 32 := by
      unfold keyB at hb
      rw [sl_len] at hb
      simp at hb
      omega
    have HB := Lib.hid hb
    obtain ⟨m, hm⟩ : ∃ m, m = (s.size + 1) / 2 := ⟨_, rfl⟩
    have e1 : ((s.size : Int) + 1) / 2 = (m : Int) := by omega
    have HM := Lib.hid hm
    have hmk := fun W => make_w m (by omega) W
    have hm0 : (0 : Int) ≤ (m : Int) := by omega
    clear hP hb hs hm
    go_enter Tryd.func7, Tryd.ntmps7
    go_wp2_with fail
    refine (IK.out _).mono ?_
    rintro e w1 ⟨rfl, e1'⟩
    rw [e1']
    clear e1'
    go_wp2_with fail
    go_loopw [15] (fun iv wr => ∃ k : Nat, k ≤ s.size ∧ iv = .int .i64 k ∧ wr.heap[w.heap.size]? = some (.cells (wv (wx (sl s) m k)).toArray 28 (0, 0)) ∧ Below w.heap.size w wr) (fun iv _ => s.size - (intOf iv).toNat)
    case atStart => exact ⟨0, Nat.zero_le _, rfl, by rw [wx_zero]; exact heap_alloc_new w _, (Below.refl _ _).alloc (Nat.le_refl _) _⟩
    case round =>
      obtain ⟨wo, rfl⟩ : ∃ wo : World, wo = wr := ⟨_, rfl⟩
      obtain ⟨k, hk, rfl, hO, hbel⟩ := hrel
      by_cases hkn : k < s.size
      · have hxs := sl_get s k hkn
        have hj : k / 2 < m := by have := HM.out; omega
        have hset := wx_set (sl s) m k hj
        have hgt := wx_get (sl s) m k (k / 2) hj
        have hcell : wo.cell? ⟨w.heap.size, k / 2, none⟩ = some (.int .u16 ((wAt (sl s) k (k / 2) : Nat) : Int)) := by
          have := wv_get (wx (sl s) m k) (k / 2) (by rw [wx_len]; exact hj)
          rw [hgt] at this
          simp only [World.cell?, hO]
          simpa using this
        have hfr : wo.frozen? ⟨w.heap.size, k / 2, none⟩ = false := by simp [World.frozen?, hO]
        have i1 : (k : Int) / 2 < (m : Int) := by omega
        have i2 : (0 : Int) ≤ (k : Int) / 2 := by omega
        have kI : (k : Int) < (s.size : Int) := by omega
        have HO := Lib.hid hO
        have HBE := Lib.hid hbel
        have HSET := Lib.hid hset
        clear hO hbel hset hgt hxs
        by_cases hev : k % 2 = 0
        · obtain ⟨h0, h1⟩ := wAt_even (sl s) k hev
          rw [h0] at hcell
          have HEV := Lib.hid h1
          have e3 : (k : Int) % 2 = 0 := by omega
          clear h0 h1
          go_wp2_with fail
          go_region
          all_goals
            rw [val_even (s[k].toNat_lt), ← sl_get s k hkn, ← HEV.out]
            have S1 := Lib.hid (wset_blk HO.out (k / 2) (wAt (sl s) (k + 1) (k / 2)))
            have B1 := Lib.hid ((HBE.out.setCell (p := ⟨w.heap.size, k / 2, none⟩) (Nat.le_refl _) (.int .u16 ((wAt (sl s) (k + 1) (k / 2) : Nat) : Int))).drew)
            generalize (wo.setCell ⟨w.heap.size, k / 2, none⟩ (.int .u16 ((wAt (sl s) (k + 1) (k / 2) : Nat) : Int))) = w5 at *
            go_wp2_with fail
            go_roundw
            case rel => exact ⟨k + 1, by omega, by go_num, by rw [← HSET.out]; exact S1.out, B1.out⟩
            case measure => simp [intOf]; omega
        · have e3 : (k : Int) % 2 = 1 := by omega
          have hod : k % 2 = 1 := by omega
          obtain ⟨h1, h0⟩ := wAt_odd (sl s) k hod
          have HEV := Lib.hid h1
          have H0 := Lib.hid h0
          have hy := getD_lt (sl_by s) (2 * (k / 2))
          clear h1 h0
          go_wp2_with fail
          go_region
          all_goals
            rw [H0.out, val_odd (s[k].toNat_lt) hy, ← sl_get s k hkn, ← HEV.out]
            have S1 := Lib.hid (wset_blk HO.out (k / 2) (wAt (sl s) (k + 1) (k / 2)))
            have B1 := Lib.hid ((HBE.out.setCell (p := ⟨w.heap.size, k / 2, none⟩) (Nat.le_refl _) (.int .u16 ((wAt (sl s) (k + 1) (k / 2) : Nat) : Int))).drew)
            generalize (wo.setCell ⟨w.heap.size, k / 2, none⟩ (.int .u16 ((wAt (sl s) (k + 1) (k / 2) : Nat) : Int))) = w5 at *
            go_wp2_with fail
            go_roundw
            case rel => exact ⟨k + 1, by omega, by go_num, by rw [← HSET.out]; exact S1.out, B1.out⟩
            case measure => simp [intOf]; omega
      · have hk' : k = s.size := by omega
        subst hk'
        have hW : wx (sl s) m s.size = wordsK (sl s) := by unfold wordsK; rw [sl_len, HM.out]
        have hlm : m = (wordsK (sl s)).length := by rw [← hW, wx_len]
        rw [hW] at hO
        have hby : ∀ v ∈ wordsK (sl s), v < 65536 := wx_by _ (sl_by s) _ _
        have A := wds_block (wordsK (sl s)) (by rw [← hlm]; unfold maxLen; have := HM.out; omega) hby hO
        have FF : Hid (P (.returned (.slice (some ⟨w.heap.size, 0, none⟩) m m)) wo) := Lib.hid (by
          rw [HP.out]
          refine ⟨some ⟨w.heap.size, 0, none⟩, m, ?_, ?_, hbel, fun b off e => by simp only [Option.some.injEq, Addr.mk.injEq] at e; omega⟩
          · rw [if_pos HB.out, ← hlm]
          · rw [if_pos HB.out, if_pos HB.out]
            exact ⟨A, (fun e => by cases e), by omega, by unfold maxLen; have := HM.out; omega⟩)
        clear hO hbel A hW hlm hby
        go_wp2_with fail
        exact FF.out
end Go.Proofs.YtogpbclfdnijpaaDoor
