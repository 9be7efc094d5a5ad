/- KeyDigits' walk. -/
import Derived.Test.YtogpbclfdnijpaaDoorL
namespace Go.Proofs.YtogpbclfdnijpaaDoor
set_option linter.unusedVariables false
set_option linter.unusedSimpArgs false
open Go.ChangeShapes Go.WideShapes Go.ChangeAt Go.RowKit

theorem hexd_dig (n : Nat) (h : n < 16) : (48 ≤ hexd n ∧ hexd n ≤ 57) ∨ (97 ≤ hexd n ∧ hexd n ≤ 102) := by unfold hexd; split <;> omega
theorem hexF_dig (k n : Nat) : ∀ b ∈ hexF k n, (48 ≤ b ∧ b ≤ 57) ∨ (97 ≤ b ∧ b ≤ 102) := by
  induction k generalizing n with
  | zero => intro b hb; simp [hexF] at hb
  | succ k ih =>
    intro b hb
    rw [hexF] at hb
    rcases List.mem_append.1 hb with q | q
    · exact ih _ b q
    · simp at q; rw [q]; exact hexd_dig _ (by omega)
/-- Bytes at the head of a block, that may be written. -/
def BkP (W : World) (g : Nat) (L : List Nat) : Prop := ∃ C m, W.heap[g]? = some (.cells C 5 m) ∧ C.toList.take L.length = bv L ∧ ∀ i, i < L.length → W.frozen? ⟨g, i, none⟩ = false
theorem BkP.cell {W : World} {g : Nat} {L : List Nat} (h : BkP W g L) (i : Nat) (hi : i < L.length) : W.cell? ⟨g, i, none⟩ = some (.int .u8 ((L.getD i 0 : Nat) : Int)) ∧ W.frozen? ⟨g, i, none⟩ = false := by
  obtain ⟨C, m, hb, ht, hf⟩ := h
  refine ⟨?_, hf i hi⟩
  have e : (C.toList.take L.length)[i]? = (bv L)[i]? := by rw [ht]
  rw [List.getElem?_take_of_lt hi, bv_get L i hi] at e
  simp only [World.cell?, hb]
  simpa using e
theorem BkP.set {W : World} {g : Nat} {L : List Nat} (h : BkP W g L) (i x : Nat) : BkP (W.setCell ⟨g, i, none⟩ (.int .u8 (x : Int))) g (L.set i x) := by
  obtain ⟨C, m, hb, ht, hf⟩ := h
  refine ⟨C.setIfInBounds i (.int .u8 (x : Int)), m, by simp [World.setCell, Array.getElem?_modify, hb], ?_, fun j hj => ?_⟩
  · rw [List.length_set, Array.toList_setIfInBounds, List.take_set, ht]
    simp [bv, List.map_set]
  · have := hf j (by simpa using hj)
    simpa [World.frozen?, World.setCell, Array.getElem?_modify, hb] using this
theorem BkP.below {W W' : World} {g : Nat} {L : List Nat} (h : BkP W g L) (hb : Below W.heap.size W W') : BkP W' g L := by
  obtain ⟨C, m, h1, ht, hf⟩ := h
  have h2 := (hb.block g (blk_ltB h1)).trans h1
  exact ⟨C, m, h2, ht, fun i hi => (hb.frozen (p := ⟨g, i, none⟩) (blk_ltB h1)).trans (hf i hi)⟩
theorem BkP.bys {W : World} {g : Nat} {L : List Nat} (h : BkP W g L) (hl : L.length ≤ maxLen) (hb : ∀ b ∈ L, b < 256) : Bys W (some ⟨g, 0, none⟩) L.length L := by
  have hc := fun i hi => (h.cell i hi).1
  obtain ⟨C, m, h1, _, _⟩ := h
  exact ⟨rfl, hl, hb, .inr ⟨g, 0, rfl, blk_ltB h1, fun i hi => by rw [Nat.zero_add]; exact hc i hi⟩⟩
theorem bytes_blk (w : World) (T : ByteArray) (c : Nat) : BkP ((w.alloc (.cells (bytesRow T c) 5 ((bytesRow T c).size, (bytesRow T c).size + 1))).drew) w.heap.size (sl T) := by
  refine ⟨bytesRow T c, _, heap_alloc_new w _, ?_, fun i hi => ?_⟩
  · unfold bytesRow
    rw [Array.toList_append, List.take_append_of_le_length (by simp [sl_len]), List.take_of_length_le (by simp [sl_len])]
    simp [bv, sl, List.map_map, Function.comp_def]
  · have hh : (w.alloc (.cells (bytesRow T c) 5 ((bytesRow T c).size, (bytesRow T c).size + 1))).drew.heap[w.heap.size]? = _ := heap_alloc_new w _
    have hs : (bytesRow T c).size = T.size + (c - T.size) := by simp [bytesRow]
    rw [sl_len] at hi
    simp only [World.frozen?, hh]
    rw [hs, decide_eq_false (by omega), Bool.false_and]
set_option maxRecDepth 100000 in
set_option maxHeartbeats 16000000 in
theorem digits_walk (s : ByteArray) (q : Nat) (hq : q < 256) (w : World) (hs : s.size ≤ maxLen) (hT : TabK w) : Calls Tryd.prog 4 #[.string s, .int .u8 (q : Int)] w (BoolB w true) := by
  obtain ⟨P, hP⟩ : ∃ P, P = (BoolB w true : Ending → World → Prop) := ⟨_, rfl⟩
  rw [← hP]
  have FIN : Hid (∀ W, Below w.heap.size w W → P (.returned (.bool true)) W) := Lib.hid (fun W h => by rw [hP]; exact ⟨rfl, h⟩)
  have hTW := Lib.hid (fun W (h : Below w.heap.size w W) => hT.below h)
  have HD := Lib.hid (head_any w hT)
  have SU0 := fun W (h : Below w.heap.size w W) => sum_any s W hs (hTW.out W h)
  have MA := Lib.hid (fun W x (h : Below w.heap.size w W) => match_any x s W hs (hTW.out W h))
  obtain ⟨K, hK⟩ : ∃ K, K = sl s := ⟨_, rfl⟩
  rw [← hK] at SU0 MA
  obtain ⟨T, hTT⟩ : ∃ T, T = strN (sumS K) := ⟨_, rfl⟩
  unfold StrP at SU0
  rw [← hTT] at SU0
  have SU := Lib.hid SU0
  have hmx := hs
  unfold maxLen at hmx
  clear hP hT SU0 hs hK
  go_enter Tryd.func4, Tryd.ntmps4
  go_wp2_with fail
  refine HD.out.mono ?_
  rintro e w1 ⟨rfl, z1⟩
  have B1 := Lib.hid z1
  clear z1
  go_wp2_with fail
  refine (SU.out _ B1.out).mono ?_
  rintro e w2 ⟨rfl, z2⟩
  have B2 := Lib.hid (B1.out.trans (Below.mono z2 B1.out.size))
  clear z2
  by_cases h5 : 5000 < s.size
  · have d5 : decide ((5000 : Int) < (s.size : Int)) = true := by rw [decide_eq_true_eq]; omega
    go_wp2_with fail
    exact FIN.out _ B2.out
  have d5 : decide ((5000 : Int) < (s.size : Int)) = false := by rw [decide_eq_false_iff_not]; omega
  cases hkb : keyB K with
  | false =>
    have hse : T = ⟨#[]⟩ := by rw [hTT, sumS_no hkb]; rfl
    subst hse
    clear hkb hTT
    go_wp2_with fail
    exact FIN.out _ B2.out
  | true =>
    have hsz : T.size = 16 := by rw [hTT, strN_size, sumS_len hkb]
    have hsl : sl T = sumS K := by rw [hTT]; exact sl_strN (sumS_by _)
    have hne := toList_nil (T := T) (by omega)
    have hem : T.toList.isEmpty = false := by
      cases hl : T.toList with
      | nil => exact absurd hl hne
      | cons a l => rfl
    have hdig : ∀ b ∈ sl T, (48 ≤ b ∧ b ≤ 57) ∨ (97 ≤ b ∧ b ≤ 102) := by rw [hsl]; unfold sumS; rw [if_pos hkb]; exact hexF_dig _ _
    have HDG := Lib.hid hdig
    have HSL := Lib.hid hsl
    have HKB := Lib.hid hkb
    have HNE := Lib.hid hne
    have hT16 := hsz
    clear hdig hsl hkb hne hTT
    go_wp2_with fail
    go_loop [7] (fun iv => ∃ k : Nat, k ≤ 16 ∧ iv = .int .i64 k) (fun iv => 16 - (intOf iv).toNat)
    case atStart => exact ⟨0, by omega, rfl⟩
    case round =>
      obtain ⟨k, hk, rfl⟩ := hrel
      by_cases hk16 : k < 16
      · have hkT : k < T.size := by omega
        have hd := HDG.out T[k].toNat (by
          rw [← sl_get T k hkT]
          rw [List.getD, List.getElem?_eq_getElem (by rw [sl_len]; exact hkT)]
          exact List.getElem_mem _)
        have kI : (k : Int) < 16 := by omega
        have kT : (k : Int) < (T.size : Int) := by omega
        rcases hd with ⟨h1, h2⟩ | ⟨h1, h2⟩
        · have t1 : decide (((T[k].toNat : Nat) : Int) < 48) = false := by rw [decide_eq_false_iff_not]; omega
          have t2 : decide ((57 : Int) < ((T[k].toNat : Nat) : Int)) = false := by rw [decide_eq_false_iff_not]; omega
          go_wp2_with fail
          go_round
          case rel => exact ⟨k + 1, by omega, by go_num⟩
          case measure => simp [intOf]; omega
        · have t1 : decide (((T[k].toNat : Nat) : Int) < 48) = false := by rw [decide_eq_false_iff_not]; omega
          have t2 : decide ((57 : Int) < ((T[k].toNat : Nat) : Int)) = true := by rw [decide_eq_true_eq]; omega
          have t3 : decide (((T[k].toNat : Nat) : Int) < 97) = false := by rw [decide_eq_false_iff_not]; omega
          have t4 : decide ((102 : Int) < ((T[k].toNat : Nat) : Int)) = false := by rw [decide_eq_false_iff_not]; omega
          go_wp2_with fail
          go_round
          case rel => exact ⟨k + 1, by omega, by go_num⟩
          case measure => simp [intOf]; omega
      · obtain rfl : k = 16 := by omega
        have hcs := fun W : World => run_bytes_of_string W 9 30 5 T Tryd.underlying9 Tryd.underlying30 Tryd.underlying5
        obtain ⟨j, hj⟩ : ∃ j, j = q % 16 := ⟨_, rfl⟩
        have hjI : (q : Int) % 16 = (j : Int) := by omega
        have hj16 : j < 16 := by omega
        have hjw : IntKind.i64.wrap (j : Int) = (j : Int) := IntWalk.i64_in _ (by omega)
        clear hj
        go_upto_region 14 with fail
        obtain ⟨gc, hgc⟩ : ∃ gc, gc = grownCap w2 16 0 5 := ⟨_, rfl⟩
        rw [← hgc]
        have hB0 := bytes_blk w2 T gc
        obtain ⟨W3, hW3⟩ : ∃ W3, W3 = (w2.alloc (.cells (bytesRow T gc) 5 ((bytesRow T gc).size, (bytesRow T gc).size + 1))).drew := ⟨_, rfl⟩
        have B3 : Hid (Below w.heap.size w W3) := Lib.hid (by rw [hW3]; exact (B2.out.alloc B2.out.size _).drew)
        rw [← hW3] at hB0 ⊢
        have hlL : (sl T).length = 16 := by rw [sl_len]; exact hT16
        obtain ⟨v, hv⟩ : ∃ v, v = (sl T).getD j 0 := ⟨_, rfl⟩
        obtain ⟨hc, hf⟩ := hB0.cell j (by omega)
        rw [← hv] at hc
        have jI : (j : Int) < 16 := by omega
        have jN : j < 16 := hj16
        have hext : (sl (T.extract 0 15)).length = 15 := by rw [sl_len]; simp [hT16]
        have happ : (sl (T ++ ⟨#[48]⟩)).length = 17 := by rw [sl_len, ByteArray.size_append, hT16]; rfl
        have hSl : (sumS K).length = 16 := sumS_len HKB.out
        have M1 : Hid (∀ W, Below w.heap.size w W → Calls Tryd.prog 10 #[.string T, .string s] W (BoolB W true)) := Lib.hid (fun W h => by
          have := MA.out W T h
          unfold matchB at this
          rw [HKB.out, HSL.out, decide_eq_true rfl] at this
          exact this)
        have MN : ∀ x : ByteArray, sl x ≠ sumS K → ∀ W, Below w.heap.size w W → Calls Tryd.prog 10 #[.string x, .string s] W (BoolB W false) := fun x hx W h => by
          have := MA.out W x h
          unfold matchB at this
          rw [HKB.out, decide_eq_false hx] at this
          exact this
        have M3 := Lib.hid (MN (T.extract 0 15) (fun e => by rw [e] at hext; omega))
        have M4 := Lib.hid (MN (T ++ ⟨#[48]⟩) (fun e => by rw [e] at happ; omega))
        have hadd := fun W : World => run_string_add_sum (P := Tryd.prog) (w := W) T ⟨#[48]⟩ (by rw [hT16]; decide)
        have hset : ∀ y, y ≠ v → y < 256 → sl (strN ((sl T).set j y)) ≠ sumS K ∧ (∀ b ∈ (sl T).set j y, b < 256) := by
          intro y hy hy2
          have hb : ∀ b ∈ (sl T).set j y, b < 256 := by
            intro b hb
            rcases List.mem_or_eq_of_mem_set hb with z | z
            · exact sl_by T b z
            · omega
          refine ⟨?_, hb⟩
          rw [sl_strN hb, ← HSL.out]
          intro e
          have e2 := congrArg (fun l => l.getD j 0) e
          simp only [List.getD, List.getElem?_set_self (show j < (sl T).length by omega), Option.getD_some] at e2
          exact hy (by rw [hv]; simpa [List.getD] using e2)
        have HB0 := Lib.hid hB0
        have HLL := Lib.hid hlL
        clear hB0 hext happ hSl hW3 hgc hlL hv
        by_cases hv48 : v = 48
        · have t0 : ((v : Int) == 48) = true := by simp [hv48]
          obtain ⟨hne, hb⟩ := hset 49 (by omega) (by omega)
          have BK := HB0.out.set j 49
          have hlen : ((sl T).set j 49).length = 16 := by rw [List.length_set]; exact HLL.out
          have hbys := BK.bys (by rw [hlen]; unfold maxLen; omega) hb
          rw [hlen] at hbys
          obtain ⟨U, hU⟩ : ∃ U, U = strN ((sl T).set j 49) := ⟨_, rfl⟩
          have B4 := Lib.hid (B3.out.setCell (p := ⟨w2.heap.size, j, none⟩) B2.out.size (.int .u8 ((49 : Nat) : Int)))
          have CV : Hid (∀ W, Below (W3.setCell ⟨w2.heap.size, j, none⟩ (.int .u8 ((49 : Nat) : Int))).heap.size (W3.setCell ⟨w2.heap.size, j, none⟩ (.int .u8 ((49 : Nat) : Int))) W → (convert 30 9 (.slice (some ⟨w2.heap.size, 0, none⟩) 16 gc)).run Tryd.prog W = .ok (.string U) W) := Lib.hid (fun W h => by rw [hU]; exact conv_bys (hbys.below h))
          rw [← hU] at hne
          have M2 := Lib.hid (MN U hne)
          clear BK hlen hbys hU hne hb MN hset hv48
          go_upto_region 17 with fail
          obtain ⟨W4, hW4⟩ : ∃ W4, W4 = W3.setCell ⟨w2.heap.size, j, none⟩ (.int .u8 49) := ⟨_, rfl⟩
          have CV5 : Hid (∀ W, Below W4.heap.size W4 W → (convert 30 9 (.slice (some ⟨w2.heap.size, 0, none⟩) 16 gc)).run Tryd.prog W = .ok (.string U) W) := Lib.hid (by rw [hW4]; exact CV.out)
          have B5 : Hid (Below w.heap.size w W4) := Lib.hid (by rw [hW4]; exact B4.out)
          rw [← hW4]
          clear hW4 CV B4 hc hf hcs
          go_wp2_with fail
          refine (M1.out _ B5.out).mono ?_
          rintro e w5 ⟨rfl, z5⟩
          have B6 := Lib.hid (B5.out.trans (Below.mono z5 B5.out.size))
          have hcv := CV5.out w5 z5
          clear z5
          go_wp2_with fail
          refine (M2.out _ B6.out).mono ?_
          rintro e w6 ⟨rfl, z6⟩
          have B7 := Lib.hid (B6.out.trans (Below.mono z6 B6.out.size))
          clear z6 hcv
          go_wp2_with fail
          refine (M3.out _ B7.out).mono ?_
          rintro e w7 ⟨rfl, z7⟩
          have B8 := Lib.hid (B7.out.trans (Below.mono z7 B7.out.size))
          clear z7
          go_wp2_with fail
          refine (M4.out _ B8.out).mono ?_
          rintro e w8 ⟨rfl, z8⟩
          have B9 := Lib.hid (B8.out.trans (Below.mono z8 B8.out.size))
          clear z8
          go_wp2_with fail
          exact FIN.out _ B9.out
        · have t0 : ((v : Int) == 48) = false := by simp; omega
          obtain ⟨hne, hb⟩ := hset 48 (by omega) (by omega)
          have BK := HB0.out.set j 48
          have hlen : ((sl T).set j 48).length = 16 := by rw [List.length_set]; exact HLL.out
          have hbys := BK.bys (by rw [hlen]; unfold maxLen; omega) hb
          rw [hlen] at hbys
          obtain ⟨U, hU⟩ : ∃ U, U = strN ((sl T).set j 48) := ⟨_, rfl⟩
          have B4 := Lib.hid (B3.out.setCell (p := ⟨w2.heap.size, j, none⟩) B2.out.size (.int .u8 ((48 : Nat) : Int)))
          have CV : Hid (∀ W, Below (W3.setCell ⟨w2.heap.size, j, none⟩ (.int .u8 ((48 : Nat) : Int))).heap.size (W3.setCell ⟨w2.heap.size, j, none⟩ (.int .u8 ((48 : Nat) : Int))) W → (convert 30 9 (.slice (some ⟨w2.heap.size, 0, none⟩) 16 gc)).run Tryd.prog W = .ok (.string U) W) := Lib.hid (fun W h => by rw [hU]; exact conv_bys (hbys.below h))
          rw [← hU] at hne
          have M2 := Lib.hid (MN U hne)
          clear BK hlen hbys hU hne hb MN hset hv48
          go_upto_region 17 with fail
          obtain ⟨W4, hW4⟩ : ∃ W4, W4 = W3.setCell ⟨w2.heap.size, j, none⟩ (.int .u8 48) := ⟨_, rfl⟩
          have CV5 : Hid (∀ W, Below W4.heap.size W4 W → (convert 30 9 (.slice (some ⟨w2.heap.size, 0, none⟩) 16 gc)).run Tryd.prog W = .ok (.string U) W) := Lib.hid (by rw [hW4]; exact CV.out)
          have B5 : Hid (Below w.heap.size w W4) := Lib.hid (by rw [hW4]; exact B4.out)
          rw [← hW4]
          clear hW4 CV B4 hc hf hcs
          go_wp2_with fail
          refine (M1.out _ B5.out).mono ?_
          rintro e w5 ⟨rfl, z5⟩
          have B6 := Lib.hid (B5.out.trans (Below.mono z5 B5.out.size))
          have hcv := CV5.out w5 z5
          clear z5
          go_wp2_with fail
          refine (M2.out _ B6.out).mono ?_
          rintro e w6 ⟨rfl, z6⟩
          have B7 := Lib.hid (B6.out.trans (Below.mono z6 B6.out.size))
          clear z6 hcv
          go_wp2_with fail
          refine (M3.out _ B7.out).mono ?_
          rintro e w7 ⟨rfl, z7⟩
          have B8 := Lib.hid (B7.out.trans (Below.mono z7 B7.out.size))
          clear z7
          go_wp2_with fail
          refine (M4.out _ B8.out).mono ?_
          rintro e w8 ⟨rfl, z8⟩
          have B9 := Lib.hid (B8.out.trans (Below.mono z8 B8.out.size))
          clear z8
          go_wp2_with fail
          exact FIN.out _ B9.out
theorem digits_all (s : ByteArray) (hs : s.size ≤ maxLen) (q : Int) (wq : (Lit.int .u8 q).wf = true) (w : World) (hT : TabK w) : Calls Tryd.prog 4 #[.string s, .int .u8 q] w (BoolB w true) := by
  have b2 := bd_u8 wq
  obtain ⟨q, rfl⟩ := Int.eq_ofNat_of_zero_le b2.1
  exact digits_walk s q (by omega) w hs hT
end Go.Proofs.YtogpbclfdnijpaaDoor
