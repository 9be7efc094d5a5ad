/- KeyBack's walk. -/
import Derived.Test.YtogpbclfdnijpaaDoorQ
namespace Go.Proofs.YtogpbclfdnijpaaDoor
set_option linter.unusedVariables false
set_option linter.unusedSimpArgs false
open Go.ChangeShapes Go.WideShapes Go.ChangeAt Go.RowKit

theorem wpList_open {P : Program} {ops : Array Oper} {Q : Exit → Act → World → Prop} {rest : List Oper} {a : Act} {w : World} {d op t pos after g} (hg : Region.wanted (Oper.mk d op t pos after g) (yielded ops a.tmps) = true)
    (h : wpList P ops Q (Oper.mk d op t pos after none :: rest) a w) : wpList P ops Q (Oper.mk d op t pos after g :: rest) a w := by
  unfold wpList at h ⊢
  rw [if_pos hg]
  rw [if_pos (by rfl)] at h
  exact h
theorem toList_no {T : ByteArray} (h : 0 < T.size) : T.toList.isEmpty = false := by
  cases hl : T.toList with
  | nil => exact absurd hl (toList_nil h)
  | cons a l => rfl
theorem ownw_keep {B : Nat} {w w' : World} {v : Value} {n : Nat} {L : List Nat} (h : w.ownsRow B 28 1 v n (wv L)) (hb : Below w.heap.size w w') : w'.ownsRow B 28 1 v n (wv L) := by
  obtain ⟨h1, h2⟩ := h
  refine ⟨h1, ?_⟩
  rcases h2 with z | ⟨g, cap, cur, hv, hg, hbk, r⟩
  · exact .inl z
  · exact .inr ⟨g, cap, cur, hv, hg, (hb.block g (blk_ltB hbk)).trans hbk, r⟩
def allB (s : ByteArray) (k : Nat) : Bool := decide (1 ≤ s.size) && decide (s.size ≤ 32) && ((sl s).take k).all (fun x => decide (x ≠ 0))
theorem allB_succ (s : ByteArray) (k : Nat) (h : k < s.size) : allB s (k + 1) = (allB s k && decide (s[k].toNat ≠ 0)) := by
  unfold allB
  rw [key_all s k h, ← Bool.and_assoc]
theorem allB_end (s : ByteArray) : allB s s.size = keyB (sl s) := by
  unfold allB keyB
  rw [← sl_len s, List.take_of_length_le (Nat.le_refl _), sl_len]
  rfl
set_option maxRecDepth 100000 in
set_option maxHeartbeats 16000000 in
theorem back_walk (s : ByteArray) (a : Option Addr) (n c : Nat) (V : List Nat) (w : World) (h : ArgW w a n c V) (hs : s.size ≤ 140737488355328) (hn : n ≤ 140737488355328) (hT : TabK w) :
    Calls Tryd.prog 3 #[.string s, .slice a n c] w (BoolB w true) := by
  obtain ⟨P, hP⟩ : ∃ P, P = (BoolB w true : Ending → World → Prop) := ⟨_, rfl⟩
  rw [← hP]
  have FIN : Hid (∀ W, Below w.heap.size w W → P (.returned (.bool true)) W) := Lib.hid (fun W h => by rw [hP]; exact ⟨rfl, h⟩)
  have hTW := Lib.hid (fun W (h : Below w.heap.size w W) => hT.below h)
  have HD := Lib.hid (head_any w hT)
  have H := Lib.hid h
  have hwr : IntKind.i64.wrap ((s.size : Int) + (n : Int)) = ((s.size + n : Nat) : Int) := by rw [IntWalk.i64_in _ (by omega)]; omega
  clear hP hT h
  go_enter Tryd.func3, Tryd.ntmps3
  go_wp2_with fail
  refine HD.out.mono ?_
  rintro e w1 ⟨rfl, z1⟩
  have B1 := Lib.hid z1
  clear z1
  by_cases h5 : 5000 < s.size + n
  · have d5 : decide ((5000 : Int) < ((s.size + n : Nat) : Int)) = true := by rw [decide_eq_true_eq]; omega
    go_wp2_with fail
    exact FIN.out _ B1.out
  have d5 : decide ((5000 : Int) < ((s.size + n : Nat) : Int)) = false := by rw [decide_eq_false_iff_not]; omega
  have hsm : s.size ≤ maxLen := by unfold maxLen; omega
  have SU0 := fun W (h : Below w.heap.size w W) => sum_any s W hsm (hTW.out W h)
  have MA0 := fun W x (h : Below w.heap.size w W) => match_any x s W hsm (hTW.out W h)
  have WO0 := fun W => words_any s W hsm
  have TL0 := fun W (h : Below w.heap.size w W) => text_any a n c V W (H.out.row.below h) (by omega)
  obtain ⟨U, hU⟩ : ∃ U, U = strN (textK V) := ⟨_, rfl⟩
  have hUU : U = ⟨#[]⟩ ∨ (0 < U.size ∧ U.size ≤ 32 ∧ keyB (sl U) = true) := by
    rcases text_or H.out.row.by' with q | ⟨q, qb⟩
    · left; rw [hU, q]; rfl
    · right
      obtain ⟨k0, k1, _⟩ := key_facts q
      rw [hU, strN_size, sl_strN qb]
      exact ⟨k0, k1, q⟩
  have TL : Hid (∀ W, Below w.heap.size w W → Calls Tryd.prog 9 #[.slice a n c] W (SP W U)) := Lib.hid (fun W h => by rw [hU]; exact TL0 W h)
  have ENDS : Hid (U = ⟨#[]⟩ ∨ ∃ S : ByteArray, U.toList.isEmpty = false ∧ decide ((U.size : Int) ≤ 32) = true ∧ S.toList.isEmpty = false ∧ ∀ W, Below w.heap.size w W → Calls Tryd.prog 8 #[.string U] W (SP W S)) := Lib.hid (by
    rcases hUU with q | ⟨q0, q1, q⟩
    · exact .inl q
    · refine .inr ⟨strN (sumS (sl U)), toList_no q0, by rw [decide_eq_true_eq]; omega, toList_no (by rw [strN_size, sumS_len q]; omega), fun W h => sum_any U W (by unfold maxLen; omega) (hTW.out W h)⟩)
  have KEY : Hid (∀ kb, keyB (sl s) = kb → if kb = true then (s.size ≤ 32 ∧ 0 < s.size ∧ (∃ S : ByteArray, S.toList.isEmpty = false ∧ (∀ W, Below w.heap.size w W → Calls Tryd.prog 8 #[.string s] W (SP W S)) ∧ ∀ W, Below w.heap.size w W → Calls Tryd.prog 10 #[.string S, .string s] W (BoolB W true)) ∧
      ∃ L : List Nat, (∀ W, Calls Tryd.prog 7 #[.string s] W fun e w' => ∃ a c, e = .returned (.slice a ((s.size + 1) / 2) c) ∧ ArgW w' a ((s.size + 1) / 2) c L ∧ Below W.heap.size W w') ∧ (∀ b ∈ L, b < 65536) ∧
        ∀ X : List Nat, X.getD 0 0 = 0 → ∀ W a n c, Wds W a n (L ++ X) → n ≤ 100000 → Calls Tryd.prog 9 #[.slice a n c] W (SP W s))
      else ((∀ W, Below w.heap.size w W → Calls Tryd.prog 8 #[.string s] W (SP W ⟨#[]⟩)) ∧ ∀ W, Calls Tryd.prog 7 #[.string s] W fun e w' => ∃ a c, e = .returned (.slice a 0 c) ∧ Below W.heap.size W w')) := Lib.hid (fun kb hk => by
    cases kb with
    | true =>
      rw [if_pos rfl]
      obtain ⟨k0, k1, _⟩ := key_facts hk
      rw [sl_len] at k0 k1
      refine ⟨k1, k0, ⟨strN (sumS (sl s)), toList_no (by rw [strN_size, sumS_len hk]; omega), SU0, fun W h => ?_⟩, wordsK (sl s), fun W => ?_, wx_by _ (sl_by s) _ _, fun X hX W a n c hw hl => ?_⟩
      · have := MA0 W (strN (sumS (sl s))) h
        unfold matchB at this
        rw [hk, sl_strN (sumS_by _), decide_eq_true rfl] at this
        exact this
      · refine (WO0 W).mono ?_
        rintro e w' ⟨a, c, he, hA, hb, _⟩
        rw [if_pos hk, wordsK_len, sl_len] at he hA
        rw [if_pos hk] at hA
        exact ⟨a, c, he, hA, hb⟩
      · have := text_any a n c _ W hw hl
        rw [text_key hk (sl_by s) X hX] at this
        unfold StrP at this
        rw [strN_sl] at this
        exact this
    | false =>
      rw [if_neg (by simp)]
      refine ⟨fun W h => ?_, fun W => ?_⟩
      · have := SU0 W h
        rw [sumS_no hk] at this
        exact this
      · refine (WO0 W).mono ?_
        rintro e w' ⟨a, c, he, hA, hb, _⟩
        rw [if_neg (by rw [hk]; simp)] at he
        exact ⟨a, c, he, hb⟩)
  have LAST : Hid (∀ W, Below w.heap.size w W → Below w.heap.size w W) := Lib.hid (fun W h => h)
  have hnz : (s.size : Int) ≤ 5000 := by omega
  have hnN : n ≤ 5000 := by omega
  have HAL := Lib.hid (allB_end s)
  have HAS := Lib.hid (allB_succ s)
  obtain ⟨f0, hf0⟩ : ∃ f0, f0 = allB s 0 := ⟨_, rfl⟩
  have hf1 : f0 = (decide ((1 : Int) ≤ (s.size : Int)) && decide ((s.size : Int) ≤ 32)) := by
    rw [hf0]; unfold allB
    simp only [List.take_zero, List.all_nil, Bool.and_true]
    congr 1
    · rw [decide_eq_decide]; omega
    · rw [decide_eq_decide]; omega
  have HF := Lib.hid hf0
  clear hU hUU SU0 MA0 WO0 TL0 hf0 hs hn hsm
  by_cases q1 : 1 ≤ s.size
  · have t1 : decide ((1 : Int) ≤ (s.size : Int)) = true := by rw [decide_eq_true_eq]; omega
    have G0 : Hid (allB s 0 = decide ((s.size : Int) ≤ 32)) := Lib.hid (by rw [← HF.out, hf1, t1, Bool.true_and])
    clear hf1 HF q1
    go_wp2_with fail
    go_loop [6, 7] (fun fv iv => ∃ k : Nat, k ≤ s.size ∧ fv = .bool (allB s k) ∧ iv = .int .i64 k) (fun _ iv => s.size - (intOf iv).toNat)
    case atStart => exact ⟨0, by omega, by rw [G0.out], rfl⟩
    case round =>
      obtain ⟨k, hk, rfl, rfl⟩ := hrel
      by_cases hkn : k < s.size
      · have kI : (k : Int) < (s.size : Int) := by omega
        have hSU := HAS.out k hkn
        cases hall : allB s k with
        | false =>
          rw [hall, Bool.false_and] at hSU
          have HS := Lib.hid hSU
          clear hSU hall
          go_wp2_with fail
          go_round
          case rel => exact ⟨k + 1, by omega, by rw [HS.out], by go_num⟩
          case measure => simp [intOf]; omega
        | true =>
          rw [hall, Bool.true_and] at hSU
          by_cases hz : s[k].toNat = 0
          · have HS : Hid (allB s (k + 1) = false) := Lib.hid (by rw [hSU]; simp [hz])
            have t0 : ((((s[k].toNat : Nat) : Int)) == 0) = true := by simp [hz]
            have hz0 := hz
            clear hSU hall hz
            go_wp2_with fail
            go_round
            case rel => exact ⟨k + 1, by omega, by rw [HS.out] <;> simp [bne, *], by go_num⟩
            case measure => simp [intOf]; omega
          · have HS : Hid (allB s (k + 1) = true) := Lib.hid (by rw [hSU]; simp [hz])
            have t0 : ((((s[k].toNat : Nat) : Int)) == 0) = false := by rw [beq_eq_false_iff_ne]; omega
            have hz0 := hz
            clear hSU hall hz
            go_wp2_with fail
            go_round
            case rel => exact ⟨k + 1, by omega, by rw [HS.out] <;> simp [bne, *], by go_num⟩
            case measure => simp [intOf]; omega
      · obtain rfl : k = s.size := by omega
        rw [HAL.out]
        have KY := KEY.out _ rfl
        cases hkb : keyB (sl s) with
        | false =>
          rw [hkb, if_neg (by simp)] at KY
          obtain ⟨SU, WO⟩ := KY
          have HSU := Lib.hid SU
          have HWO := Lib.hid WO
          clear SU WO hkb KEY
          go_wp2_with fail
          refine (HWO.out _).mono ?_
          rintro e w2 ⟨a2, c2, rfl, z2⟩
          have B2 := Lib.hid (B1.out.trans (Below.mono z2 B1.out.size))
          clear z2
          go_wp2_with fail
          refine (HSU.out _ B2.out).mono ?_
          rintro e w3 ⟨rfl, z3⟩
          have B3 := Lib.hid (B2.out.trans (Below.mono z3 B2.out.size))
          clear z3
          go_wp2_with fail
          refine (TL.out _ B3.out).mono ?_
          rintro e w8 ⟨rfl, z8⟩
          have B8 := Lib.hid (B3.out.trans (Below.mono z8 B3.out.size))
          clear z8
          rcases ENDS.out with rfl | ⟨S2, m1, m2, m3, SU2⟩
          · go_wp2_with fail
            exact FIN.out _ B8.out
          · have HS2 := Lib.hid SU2
            clear SU2
            go_wp2_with fail
            refine (HS2.out _ B8.out).mono ?_
            rintro e w9 ⟨rfl, z9⟩
            have B9 := Lib.hid (B8.out.trans (Below.mono z9 B8.out.size))
            clear z9
            go_wp2_with fail
            exact FIN.out _ B9.out
        | true =>
          rw [hkb, if_pos rfl] at KY
          obtain ⟨k32, kpos, ⟨S, hem, SU, MA⟩, L, WO, hLb, TX⟩ := KY
          have HSU := Lib.hid SU
          have HMA := Lib.hid MA
          have HWO := Lib.hid WO
          have HTX := Lib.hid TX
          have HLB := Lib.hid hLb
          obtain ⟨d, hd⟩ : ∃ d, d = (s.size + 1) / 2 := ⟨_, rfl⟩
          have e1 : ((s.size : Int) + 1) / 2 = (d : Int) := by omega
          have t3 : decide ((0 : Int) < (d : Int)) = true := by rw [decide_eq_true_eq]; omega
          have hd17 : d ≤ 17 := by omega
          rw [← hd] at HWO
          clear SU MA WO TX hLb hkb KEY hd
          go_wp2_with fail
          refine (HWO.out _).mono ?_
          rintro e w2 ⟨a2, c2, rfl, z2, y2⟩
          have A2 := Lib.hid z2
          have B2 := Lib.hid (B1.out.trans (Below.mono y2 B1.out.size))
          clear z2 y2
          go_wp2_with fail
          refine (HSU.out _ B2.out).mono ?_
          rintro e w3 ⟨rfl, z3⟩
          have A3 := Lib.hid (A2.out.below z3)
          have B3 := Lib.hid (B2.out.trans (Below.mono z3 B2.out.size))
          clear z3
          go_wp2_with fail
          refine (HTX.out [] rfl _ a2 d c2 (by rw [List.append_nil]; exact A3.out.row) (by omega)).mono ?_
          rintro e w4 ⟨rfl, z4⟩
          have A4 := Lib.hid (A3.out.below z4)
          have B4 := Lib.hid (B3.out.trans (Below.mono z4 B3.out.size))
          clear z4
          go_wp2_with fail
          refine (HSU.out _ B4.out).mono ?_
          rintro e w5 ⟨rfl, z5⟩
          have A5 := Lib.hid (A4.out.below z5)
          have B5 := Lib.hid (B4.out.trans (Below.mono z5 B4.out.size))
          clear z5
          go_wp2_with fail
          refine (HMA.out _ B5.out).mono ?_
          rintro e w6 ⟨rfl, z6⟩
          have A6 := Lib.hid (A5.out.below z6)
          have B6 := Lib.hid (B5.out.trans (Below.mono z6 B5.out.size))
          clear z6
          have al1 := (Below.refl w6.heap.size w6).alloc (Nat.le_refl _) (.cells #[] 28 (0, 0))
          have O7 := Lib.hid (ownw_new (w := w6) (Nat.le_refl _))
          have A7 := Lib.hid (A6.out.below al1)
          have B7 := Lib.hid (B6.out.trans (Below.mono al1 B6.out.size))
          have Z7 := Lib.hid al1
          clear al1
          go_wp2_with (at_builtin; refine wpList_open rfl ?_; refine wpList_append_wds rfl (.tmp 80) (.tmp 81) rfl w6.heap.size _ Z7.out.size _ 0 [] rfl O7.out a2 d c2 L rfl A7.out.row (fun e => (A7.out.nil e).2) (by omega) ?_)
          intro v8 w8 ho8 hg8 _ _
          have Z8 := Lib.hid (Z7.out.grown hg8 Z7.out.size (fun q hq => (World.ownsRow.lt O7.out q hq).1))
          have O8 := Lib.hid ho8
          clear ho8 hg8
          have al2 := (Below.refl w8.heap.size w8).alloc (Nat.le_refl _) (.cells #[.int .u16 0] 28 (0, 0))
          have O9 := Lib.hid (ownw_keep O8.out al2)
          have Z9 := Lib.hid (Z8.out.trans (Below.mono al2 Z8.out.size))
          have D9 := Lib.hid (wds_block (W := w8.alloc (.cells #[.int .u16 0] 28 (0, 0))) (g := w8.heap.size) [0] (by unfold maxLen; simp) (by simp) (heap_alloc_new w8 _))
          clear al2
          go_wp2_with (at_builtin; refine wpList_open rfl ?_; refine wpList_append_wds rfl (.tmp 82) (.tmp 83) rfl w6.heap.size _ Z9.out.size _ d L rfl O9.out (some ⟨w8.heap.size, 0, none⟩) 1 1 [0] rfl D9.out (fun e => by cases e) (by omega) ?_)
          intro v10 w10 ho10 hg10 _ _
          have Z10 := Lib.hid (Z9.out.grown hg10 Z9.out.size (fun q hq => (World.ownsRow.lt O9.out q hq).1))
          have O10 := Lib.hid ho10
          have AL := Lib.hid (H.out.below (B6.out.trans (Below.mono Z10.out B6.out.size)))
          clear ho10 hg10
          go_wp2_with (at_builtin; refine wpList_open rfl ?_; refine wpList_append_wds rfl (.tmp 84) (.tmp 85) rfl w6.heap.size _ Z10.out.size _ (d + 1) (L ++ [0]) rfl O10.out a n c V rfl AL.out.row (fun e => (AL.out.nil e).2) (by omega) ?_)
          intro v11 w11 ho11 hg11 _ _
          have Z11 := Lib.hid (Z10.out.grown hg11 Z10.out.size (fun q hq => (World.ownsRow.lt O10.out q hq).1))
          have O11 := Lib.hid ho11
          have B11 := Lib.hid (B6.out.trans (Below.mono Z11.out B6.out.size))
          clear ho11 hg11
          obtain ⟨g11, c11, rfl, OW⟩ := ownsw_cases O11.out (by omega)
          have D11 := Lib.hid (OW.wds (by
            intro b hb
            simp only [List.mem_append, List.mem_cons] at hb
            rcases hb with q | q | q
            · exact HLB.out b q
            · omega
            · exact H.out.row.by' b q))
          clear OW
          go_wp2_with fail
          refine (HTX.out (0 :: V) rfl _ _ (d + 1 + n) c11 (by simpa using D11.out) (by omega)).mono ?_
          rintro e w12 ⟨rfl, z12⟩
          have B12 := Lib.hid (B11.out.trans (Below.mono z12 B11.out.size))
          clear z12
          go_wp2_with fail
          refine (TL.out _ B12.out).mono ?_
          rintro e w13 ⟨rfl, z13⟩
          have B8 := Lib.hid (B12.out.trans (Below.mono z13 B12.out.size))
          clear z13
          rcases ENDS.out with rfl | ⟨S2, m1, m2, m3, SU2⟩
          · go_wp2_with fail
            exact FIN.out _ B8.out
          · have HS2 := Lib.hid SU2
            clear SU2
            go_wp2_with fail
            refine (HS2.out _ B8.out).mono ?_
            rintro e w9 ⟨rfl, z9⟩
            have B9 := Lib.hid (B8.out.trans (Below.mono z9 B8.out.size))
            clear z9
            go_wp2_with fail
            exact FIN.out _ B9.out
  · have t1 : decide ((1 : Int) ≤ (s.size : Int)) = false := by rw [decide_eq_false_iff_not]; omega
    have G0 : Hid (allB s 0 = false) := Lib.hid (by rw [← HF.out, hf1, t1, Bool.false_and])
    clear hf1 HF q1
    go_wp2_with fail
    go_loop [6, 7] (fun fv iv => ∃ k : Nat, k ≤ s.size ∧ fv = .bool (allB s k) ∧ iv = .int .i64 k) (fun _ iv => s.size - (intOf iv).toNat)
    case atStart => exact ⟨0, by omega, by rw [G0.out], rfl⟩
    case round =>
      obtain ⟨k, hk, rfl, rfl⟩ := hrel
      by_cases hkn : k < s.size
      · have kI : (k : Int) < (s.size : Int) := by omega
        have hSU := HAS.out k hkn
        cases hall : allB s k with
        | false =>
          rw [hall, Bool.false_and] at hSU
          have HS := Lib.hid hSU
          clear hSU hall
          go_wp2_with fail
          go_round
          case rel => exact ⟨k + 1, by omega, by rw [HS.out], by go_num⟩
          case measure => simp [intOf]; omega
        | true =>
          rw [hall, Bool.true_and] at hSU
          by_cases hz : s[k].toNat = 0
          · have HS : Hid (allB s (k + 1) = false) := Lib.hid (by rw [hSU]; simp [hz])
            have t0 : ((((s[k].toNat : Nat) : Int)) == 0) = true := by simp [hz]
            have hz0 := hz
            clear hSU hall hz
            go_wp2_with fail
            go_round
            case rel => exact ⟨k + 1, by omega, by rw [HS.out] <;> simp [bne, *], by go_num⟩
            case measure => simp [intOf]; omega
          · have HS : Hid (allB s (k + 1) = true) := Lib.hid (by rw [hSU]; simp [hz])
            have t0 : ((((s[k].toNat : Nat) : Int)) == 0) = false := by rw [beq_eq_false_iff_ne]; omega
            have hz0 := hz
            clear hSU hall hz
            go_wp2_with fail
            go_round
            case rel => exact ⟨k + 1, by omega, by rw [HS.out] <;> simp [bne, *], by go_num⟩
            case measure => simp [intOf]; omega
      · obtain rfl : k = s.size := by omega
        rw [HAL.out]
        have KY := KEY.out _ rfl
        cases hkb : keyB (sl s) with
        | false =>
          rw [hkb, if_neg (by simp)] at KY
          obtain ⟨SU, WO⟩ := KY
          have HSU := Lib.hid SU
          have HWO := Lib.hid WO
          clear SU WO hkb KEY
          go_wp2_with fail
          refine (HWO.out _).mono ?_
          rintro e w2 ⟨a2, c2, rfl, z2⟩
          have B2 := Lib.hid (B1.out.trans (Below.mono z2 B1.out.size))
          clear z2
          go_wp2_with fail
          refine (HSU.out _ B2.out).mono ?_
          rintro e w3 ⟨rfl, z3⟩
          have B3 := Lib.hid (B2.out.trans (Below.mono z3 B2.out.size))
          clear z3
          go_wp2_with fail
          refine (TL.out _ B3.out).mono ?_
          rintro e w8 ⟨rfl, z8⟩
          have B8 := Lib.hid (B3.out.trans (Below.mono z8 B3.out.size))
          clear z8
          rcases ENDS.out with rfl | ⟨S2, m1, m2, m3, SU2⟩
          · go_wp2_with fail
            exact FIN.out _ B8.out
          · have HS2 := Lib.hid SU2
            clear SU2
            go_wp2_with fail
            refine (HS2.out _ B8.out).mono ?_
            rintro e w9 ⟨rfl, z9⟩
            have B9 := Lib.hid (B8.out.trans (Below.mono z9 B8.out.size))
            clear z9
            go_wp2_with fail
            exact FIN.out _ B9.out
        | true =>
          rw [hkb, if_pos rfl] at KY
          obtain ⟨k32, kpos, ⟨S, hem, SU, MA⟩, L, WO, hLb, TX⟩ := KY
          have HSU := Lib.hid SU
          have HMA := Lib.hid MA
          have HWO := Lib.hid WO
          have HTX := Lib.hid TX
          have HLB := Lib.hid hLb
          obtain ⟨d, hd⟩ : ∃ d, d = (s.size + 1) / 2 := ⟨_, rfl⟩
          have e1 : ((s.size : Int) + 1) / 2 = (d : Int) := by omega
          have t3 : decide ((0 : Int) < (d : Int)) = true := by rw [decide_eq_true_eq]; omega
          have hd17 : d ≤ 17 := by omega
          rw [← hd] at HWO
          clear SU MA WO TX hLb hkb KEY hd
          go_wp2_with fail
          refine (HWO.out _).mono ?_
          rintro e w2 ⟨a2, c2, rfl, z2, y2⟩
          have A2 := Lib.hid z2
          have B2 := Lib.hid (B1.out.trans (Below.mono y2 B1.out.size))
          clear z2 y2
          go_wp2_with fail
          refine (HSU.out _ B2.out).mono ?_
          rintro e w3 ⟨rfl, z3⟩
          have A3 := Lib.hid (A2.out.below z3)
          have B3 := Lib.hid (B2.out.trans (Below.mono z3 B2.out.size))
          clear z3
          go_wp2_with fail
          refine (HTX.out [] rfl _ a2 d c2 (by rw [List.append_nil]; exact A3.out.row) (by omega)).mono ?_
          rintro e w4 ⟨rfl, z4⟩
          have A4 := Lib.hid (A3.out.below z4)
          have B4 := Lib.hid (B3.out.trans (Below.mono z4 B3.out.size))
          clear z4
          go_wp2_with fail
          refine (HSU.out _ B4.out).mono ?_
          rintro e w5 ⟨rfl, z5⟩
          have A5 := Lib.hid (A4.out.below z5)
          have B5 := Lib.hid (B4.out.trans (Below.mono z5 B4.out.size))
          clear z5
          go_wp2_with fail
          refine (HMA.out _ B5.out).mono ?_
          rintro e w6 ⟨rfl, z6⟩
          have A6 := Lib.hid (A5.out.below z6)
          have B6 := Lib.hid (B5.out.trans (Below.mono z6 B5.out.size))
          clear z6
          have al1 := (Below.refl w6.heap.size w6).alloc (Nat.le_refl _) (.cells #[] 28 (0, 0))
          have O7 := Lib.hid (ownw_new (w := w6) (Nat.le_refl _))
          have A7 := Lib.hid (A6.out.below al1)
          have B7 := Lib.hid (B6.out.trans (Below.mono al1 B6.out.size))
          have Z7 := Lib.hid al1
          clear al1
          go_wp2_with (at_builtin; refine wpList_open rfl ?_; refine wpList_append_wds rfl (.tmp 80) (.tmp 81) rfl w6.heap.size _ Z7.out.size _ 0 [] rfl O7.out a2 d c2 L rfl A7.out.row (fun e => (A7.out.nil e).2) (by omega) ?_)
          intro v8 w8 ho8 hg8 _ _
          have Z8 := Lib.hid (Z7.out.grown hg8 Z7.out.size (fun q hq => (World.ownsRow.lt O7.out q hq).1))
          have O8 := Lib.hid ho8
          clear ho8 hg8
          have al2 := (Below.refl w8.heap.size w8).alloc (Nat.le_refl _) (.cells #[.int .u16 0] 28 (0, 0))
          have O9 := Lib.hid (ownw_keep O8.out al2)
          have Z9 := Lib.hid (Z8.out.trans (Below.mono al2 Z8.out.size))
          have D9 := Lib.hid (wds_block (W := w8.alloc (.cells #[.int .u16 0] 28 (0, 0))) (g := w8.heap.size) [0] (by unfold maxLen; simp) (by simp) (heap_alloc_new w8 _))
          clear al2
          go_wp2_with (at_builtin; refine wpList_open rfl ?_; refine wpList_append_wds rfl (.tmp 82) (.tmp 83) rfl w6.heap.size _ Z9.out.size _ d L rfl O9.out (some ⟨w8.heap.size, 0, none⟩) 1 1 [0] rfl D9.out (fun e => by cases e) (by omega) ?_)
          intro v10 w10 ho10 hg10 _ _
          have Z10 := Lib.hid (Z9.out.grown hg10 Z9.out.size (fun q hq => (World.ownsRow.lt O9.out q hq).1))
          have O10 := Lib.hid ho10
          have AL := Lib.hid (H.out.below (B6.out.trans (Below.mono Z10.out B6.out.size)))
          clear ho10 hg10
          go_wp2_with (at_builtin; refine wpList_open rfl ?_; refine wpList_append_wds rfl (.tmp 84) (.tmp 85) rfl w6.heap.size _ Z10.out.size _ (d + 1) (L ++ [0]) rfl O10.out a n c V rfl AL.out.row (fun e => (AL.out.nil e).2) (by omega) ?_)
          intro v11 w11 ho11 hg11 _ _
          have Z11 := Lib.hid (Z10.out.grown hg11 Z10.out.size (fun q hq => (World.ownsRow.lt O10.out q hq).1))
          have O11 := Lib.hid ho11
          have B11 := Lib.hid (B6.out.trans (Below.mono Z11.out B6.out.size))
          clear ho11 hg11
          obtain ⟨g11, c11, rfl, OW⟩ := ownsw_cases O11.out (by omega)
          have D11 := Lib.hid (OW.wds (by
            intro b hb
            simp only [List.mem_append, List.mem_cons] at hb
            rcases hb with q | q | q
            · exact HLB.out b q
            · omega
            · exact H.out.row.by' b q))
          clear OW
          go_wp2_with fail
          refine (HTX.out (0 :: V) rfl _ _ (d + 1 + n) c11 (by simpa using D11.out) (by omega)).mono ?_
          rintro e w12 ⟨rfl, z12⟩
          have B12 := Lib.hid (B11.out.trans (Below.mono z12 B11.out.size))
          clear z12
          go_wp2_with fail
          refine (TL.out _ B12.out).mono ?_
          rintro e w13 ⟨rfl, z13⟩
          have B8 := Lib.hid (B12.out.trans (Below.mono z13 B12.out.size))
          clear z13
          rcases ENDS.out with rfl | ⟨S2, m1, m2, m3, SU2⟩
          · go_wp2_with fail
            exact FIN.out _ B8.out
          · have HS2 := Lib.hid SU2
            clear SU2
            go_wp2_with fail
            refine (HS2.out _ B8.out).mono ?_
            rintro e w9 ⟨rfl, z9⟩
            have B9 := Lib.hid (B8.out.trans (Below.mono z9 B8.out.size))
            clear z9
            go_wp2_with fail
            exact FIN.out _ B9.out

end Go.Proofs.YtogpbclfdnijpaaDoor
