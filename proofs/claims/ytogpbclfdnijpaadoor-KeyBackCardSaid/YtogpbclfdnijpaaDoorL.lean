/- KeyBounds' walk. -/
import Derived.Test.YtogpbclfdnijpaaDoorJ
import Derived.Deep.RegionHeld
import Derived.Deep.CutRange
namespace Go.Proofs.YtogpbclfdnijpaaDoor
set_option linter.unusedVariables false
set_option linter.unusedSimpArgs false
open Go.ChangeShapes Go.WideShapes Go.ChangeAt Go.RowKit

theorem make_b (n : Nat) (hn : n ≤ 2000000) (w : World) : (Instr.makeSlice 30 (.int .i64 (n : Int)) (.int .i64 (n : Int))).run Tryd.prog w = .ok (.slice (some ⟨w.heap.size, 0, none⟩) n n) (w.alloc (.cells (bv (List.replicate n 0)).toArray 5 (0, 0))) := by
  obtain ⟨ti, hti, hz0, hz1, hz2⟩ := info_parts info5
  have hr := run_make (P := Tryd.prog) w 30 5 ti _ Tryd.underlying30 hti hz0 .i64 .i64 (n : Int) (n : Int) (by omega) (Int.le_refl _) (by rw [hz2]; omega) (by omega)
  rw [hz1] at hr
  have e : (n : Int).toNat = n := by simp
  rw [e] at hr
  rw [hr]
  congr 2
  have := made_zero n
  rw [← this]
theorem keyB_rep {m x : Nat} (hx : x ≠ 0) : keyB (List.replicate m x) = (decide (1 ≤ m) && decide (m ≤ 32)) := by
  unfold keyB
  rw [List.length_replicate]
  have : (List.replicate m x).all (fun x => decide (x ≠ 0)) = true := by
    rw [List.all_eq_true]
    intro y hy
    rw [List.eq_of_mem_replicate hy]
    simpa using hx
  rw [this, Bool.and_true]
  rfl
theorem keyB_set {L : List Nat} {k : Nat} (hk : k < L.length) : keyB (L.set k 0) = false := by
  unfold keyB
  have : (L.set k 0).all (fun x => decide (x ≠ 0)) = false := by
    rw [← Bool.not_eq_true, List.all_eq_true]
    intro h
    have := h 0 (List.mem_set hk 0)
    simp at this
  rw [this, Bool.and_false]
theorem toList_nil {T : ByteArray} (h : 0 < T.size) : T.toList ≠ [] := by
  rw [Lib.toList_data]
  intro e
  have h2 := congrArg List.length e
  rw [List.length_nil] at h2
  have h3 : T.data.toList.length = T.size := rfl
  omega
theorem rep_snoc (x k m : Nat) (h : k < m) : (List.replicate k x ++ List.replicate (m - k) 0).set k x = List.replicate (k + 1) x ++ List.replicate (m - (k + 1)) 0 := by
  rw [List.set_append_right _ _ (by simp), List.length_replicate, Nat.sub_self, show m - k = (m - (k + 1)) + 1 by omega, List.replicate_succ, List.set_cons_zero, List.replicate_succ', List.append_assoc]
  rfl
/-- A word of a key that is none, or of one that is. -/
def LenP (w : World) (n : Nat) (e : Ending) (w' : World) : Prop := ∃ a c, e = .returned (.slice a n c) ∧ Below w.heap.size w w'
theorem words_len (s : ByteArray) (w : World) (hs : s.size ≤ maxLen) : Calls Tryd.prog 7 #[.string s] w (LenP w (if keyB (sl s) = true then (s.size + 1) / 2 else 0)) := by
  refine (words_any s w hs).mono ?_
  rintro e w' ⟨a, c, he, _, hb, _⟩
  refine ⟨a, c, ?_, hb⟩
  rw [he]
  unfold wordsK
  rw [wx_len, sl_len]
set_option maxRecDepth 100000 in
set_option maxHeartbeats 16000000 in
theorem bounds_walk (n q c : Nat) (hn : n < 256) (hq : q < 256) (hc : c < 256) (w : World) (hT : TabK w) : Calls Tryd.prog 5 #[.int .u8 (n : Int), .int .u8 (q : Int), .int .u8 (c : Int)] w (BoolB w true) := by
  obtain ⟨P, hP⟩ : ∃ P, P = (BoolB w true : Ending → World → Prop) := ⟨_, rfl⟩
  rw [← hP]
  have FIN : Hid (∀ W, Below w.heap.size w W → P (.returned (.bool true)) W) := Lib.hid (fun W h => by rw [hP]; exact ⟨rfl, h⟩)
  have hTW := Lib.hid (fun W (h : Below w.heap.size w W) => hT.below h)
  have HD := Lib.hid (head_any w hT)
  obtain ⟨x, hx⟩ : ∃ x, x = c ||| 1 := ⟨_, rfl⟩
  have hor : bits .or .u8 (c : Int) 1 = (x : Int) := by rw [hx]; exact u8_or_nat c 1 hc (by omega)
  have hx256 : x < 256 := by rw [hx]; exact Nat.or_lt_two_pow (n := 8) hc (by omega)
  have hx0 : x ≠ 0 := by
    rw [hx]; intro e
    have := congrArg (fun z => z.testBit 0) e
    simp at this
  obtain ⟨m, hm⟩ : ∃ m, m = n % 40 := ⟨_, rfl⟩
  have hmI : (n : Int) % 40 = (m : Int) := by omega
  have hm40 : m < 40 := by omega
  have hw8 : IntKind.i64.wrap (q : Int) = (q : Int) := IntWalk.i64_in _ (by omega)
  have HX0 := Lib.hid hx0
  have hmk := fun W => make_b m (by omega) W
  clear hP hx hm hT hx0
  go_enter Tryd.func5, Tryd.ntmps5
  go_wp2_with fail
  refine HD.out.mono ?_
  rintro e w1 ⟨rfl, z1⟩
  have B1 := Lib.hid z1
  clear z1
  go_wp2_with fail
  clear hmk
  go_loopw [9] (fun iv wr => ∃ k : Nat, k ≤ m ∧ iv = .int .i64 k ∧ wr.heap[w1.heap.size]? = some (.cells (bv (List.replicate k x ++ List.replicate (m - k) 0)).toArray 5 (0, 0)) ∧ Below w.heap.size w wr) (fun iv _ => m - (intOf iv).toNat)
  case atStart => exact ⟨0, Nat.zero_le _, rfl, by simpa using heap_alloc_new w1 _, B1.out.alloc B1.out.size _⟩
  case round =>
    obtain ⟨wo, rfl⟩ : ∃ wo : World, wo = wr := ⟨_, rfl⟩
    obtain ⟨k, hk, rfl, hO, hbel⟩ := hrel
    by_cases hkm : k < m
    · have hcell : ∃ v, wo.cell? ⟨w1.heap.size, k, none⟩ = some v := by
        simp only [World.cell?, hO]
        exact ⟨_, by simpa using bv_get (List.replicate k x ++ List.replicate (m - k) 0) k (by simp; omega)⟩
      obtain ⟨v, hcell⟩ := hcell
      have hfz : wo.frozen? ⟨w1.heap.size, k, none⟩ = false := by simp [World.frozen?, hO]
      have hS := set_bv hO k x
      rw [rep_snoc x k m hkm] at hS
      have HS := Lib.hid hS
      have HB := Lib.hid (hbel.setCell (p := ⟨w1.heap.size, k, none⟩) B1.out.size (.int .u8 (x : Int)))
      have kI : (k : Int) < (m : Int) := by omega
      clear hO hS hbel
      go_wp2_with fail
      go_roundw
      case rel => exact ⟨k + 1, by omega, by go_num, HS.out, HB.out⟩
      case measure => simp [intOf]; omega
    · obtain rfl : k = m := by omega
      rw [Nat.sub_self, List.replicate_zero, List.append_nil] at hO
      have hby : ∀ b ∈ List.replicate k x, b < 256 := fun b hb => by rw [List.eq_of_mem_replicate hb]; exact hx256
      have hB := bys_block _ (by rw [List.length_replicate]; unfold maxLen; omega) hby hO
      rw [List.length_replicate] at hB
      have hcv := conv_bys (cap := k) hB
      obtain ⟨T, hTT⟩ : ∃ T, T = strN (List.replicate k x) := ⟨_, rfl⟩
      rw [← hTT] at hcv
      have hts : T.size = k := by rw [hTT, strN_size, List.length_replicate]
      have hsT : sl T = List.replicate k x := by rw [hTT]; exact sl_strN hby
      have hkb : keyB (sl T) = (decide (1 ≤ k) && decide (k ≤ 32)) := by rw [hsT]; exact keyB_rep HX0.out
      have SU := fun W (h : Below w.heap.size w W) => sum_any T W (by rw [hts]; unfold maxLen; omega) (hTW.out W h)
      have WL := fun W => words_len T W (by rw [hts]; unfold maxLen; omega)
      obtain ⟨S, hS⟩ : ∃ S, S = strN (sumS (sl T)) := ⟨_, rfl⟩
      unfold StrP at SU
      rw [← hS] at SU
      have hSS : (keyB (sl T) = true → S.toList ≠ []) ∧ (keyB (sl T) = false → S = ⟨#[]⟩) := by
        refine ⟨fun e => toList_nil (by rw [hS, strN_size, sumS_len e]; omega), fun e => by rw [hS, sumS_no e]; rfl⟩
      have HSU := Lib.hid SU
      have HO := Lib.hid hO
      have HBE := Lib.hid hbel
      have HTS := Lib.hid hts
      have HST := Lib.hid hsT
      have ARM := Lib.hid (fun (h : 1 ≤ k) => hB)
      by_cases h1 : 1 ≤ k
      · have e1 : decide (1 ≤ k) = true := decide_eq_true h1
        have t1 : decide ((1 : Int) ≤ (k : Int)) = true := by rw [decide_eq_true_eq]; omega
        obtain ⟨j, hj⟩ : ∃ j, j = q % k := ⟨_, rfl⟩
        have hjk : j < k := by rw [hj]; exact Nat.mod_lt _ (by omega)
        have hjI : (q : Int) % (k : Int) = (j : Int) := by rw [hj]; omega
        have hby2 : ∀ b ∈ (List.replicate k x).set j 0, b < 256 := by
          intro b hb
          rcases List.mem_or_eq_of_mem_set hb with z | z
          · exact hby b z
          · omega
        have hlen2 : ((List.replicate k x).set j 0).length = k := by simp
        have hkb2 : keyB (sl (strN ((List.replicate k x).set j 0))) = false := by rw [sl_strN hby2]; exact keyB_set (by simpa using hjk)
        obtain ⟨U, hU⟩ : ∃ U, U = strN ((List.replicate k x).set j 0) := ⟨_, rfl⟩
        rw [← hU] at hkb2
        have hus : U.size ≤ maxLen := by rw [hU, strN_size, hlen2]; unfold maxLen; omega
        have CV2 := Lib.hid (fun (w3 : World) (hO3 : w3.heap[w1.heap.size]? = some (.cells (bv (List.replicate k x)).toArray 5 (0, 0))) W (h : Below (w3.setCell ⟨w1.heap.size, j, none⟩ (.int .u8 0)).heap.size (w3.setCell ⟨w1.heap.size, j, none⟩ (.int .u8 0)) W) => (by
          have hz := set_bv hO3 j 0
          have hb2 := bys_block _ (by rw [hlen2]; unfold maxLen; omega) hby2 hz
          rw [hlen2] at hb2
          rw [hU]
          exact conv_bys (hb2.below h) : (convert 30 9 (.slice (some ⟨w1.heap.size, 0, none⟩) k k)).run Tryd.prog W = .ok (.string U) W))
        have SU2 : Hid (∀ W, Below w.heap.size w W → Calls Tryd.prog 8 #[.string U] W (SP W ⟨#[]⟩)) := Lib.hid (fun W h => by
          have := sum_any U W hus (hTW.out W h)
          rw [sumS_no hkb2] at this
          exact this)
        have WL2 : Hid (∀ W, Calls Tryd.prog 7 #[.string U] W (LenP W 0)) := Lib.hid (fun W => by
          have := words_len U W hus
          rw [if_neg (by rw [hkb2]; simp)] at this
          exact this)
        have MA2 : Hid (∀ W x, Below w.heap.size w W → Calls Tryd.prog 10 #[.string x, .string U] W (BoolB W false)) := Lib.hid (fun W x h => by
          have := match_any x U W hus (hTW.out W h)
          unfold matchB at this
          rw [hkb2, Bool.false_and] at this
          exact this)
        have hcell : ∃ v, wo.cell? ⟨w1.heap.size, j, none⟩ = some v := by
          simp only [World.cell?, hO]
          exact ⟨_, by simpa using bv_get (List.replicate k x) j (by simpa using hjk)⟩
        obtain ⟨v, hcell⟩ := hcell
        have hfz : wo.frozen? ⟨w1.heap.size, j, none⟩ = false := by simp [World.frozen?, hO]
        have HCF := Lib.hid (And.intro hcell hfz)
        have HJK := Lib.hid hjk
        have tz : ((k : Int) == 0) = false := by rw [beq_eq_false_iff_ne]; omega
        clear hj hby2 hlen2 hkb2 hU hus
        by_cases h2 : k ≤ 32
        · have hk2 : keyB (sl T) = true := by rw [hkb, e1, decide_eq_true h2]; rfl
          have t2 : decide ((k : Int) ≤ 32) = true := by rw [decide_eq_true_eq]; omega
          have hne := hSS.1 hk2
          have hem : S.toList.isEmpty = false := by cases hl : S.toList with
            | nil => exact absurd hl hne
            | cons a l => rfl
          have hWL : Hid (∀ W, Calls Tryd.prog 7 #[.string T] W (LenP W ((k + 1) / 2))) := Lib.hid (fun W => by
            have := WL W
            rw [if_pos hk2, hts] at this
            exact this)
          have h12 : 0 < (k + 1) / 2 := by omega
          have HWW := Lib.hid hne
          obtain ⟨d, hd⟩ : ∃ d, d = (k + 1) / 2 := ⟨_, rfl⟩
          rw [← hd] at hWL h12
          have t3 : decide ((0 : Int) < (d : Int)) = true := by rw [decide_eq_true_eq]; omega
          clear hd hk2 hkb SU WL hSS hS hsT hTT hB hby hO hbel hcell hfz e1 hne
          go_wp2_with fail
          refine (HSU.out _ HBE.out).mono ?_
          rintro e w2 ⟨rfl, z2⟩
          have B2 := Lib.hid (HBE.out.trans (Below.mono z2 HBE.out.size))
          go_wp2_with fail
          refine (hWL.out _).mono ?_
          rintro e w3 ⟨a3, c3, rfl, z3⟩
          have W3 := z2.trans (Below.mono z3 z2.size)
          have hO3 := (W3.block _ (blk_ltB HO.out)).trans HO.out
          have hcell3 : w3.cell? ⟨w1.heap.size, j, none⟩ = some v := (W3.cell (p := ⟨w1.heap.size, j, none⟩) (blk_ltB HO.out)).trans HCF.out.1
          have hfz3 : w3.frozen? ⟨w1.heap.size, j, none⟩ = false := by simp [World.frozen?, hO3]
          have B3 := Lib.hid (B2.out.trans (Below.mono z3 B2.out.size))
          have B4 := Lib.hid (B3.out.setCell (p := ⟨w1.heap.size, j, none⟩) B1.out.size (.int .u8 ((0 : Nat) : Int)))
          have CV4 := Lib.hid (CV2.out w3 hO3)
          clear W3 hO3 z2 z3 hcv
          go_upto_region 14 with fail
          obtain ⟨W4, hW4⟩ : ∃ W4, W4 = w3.setCell ⟨w1.heap.size, j, none⟩ (.int .u8 0) := ⟨_, rfl⟩
          have CV5 : Hid (∀ W, Below W4.heap.size W4 W → (convert 30 9 (.slice (some ⟨w1.heap.size, 0, none⟩) k k)).run Tryd.prog W = .ok (.string U) W) := Lib.hid (by rw [hW4]; exact CV4.out)
          have B5 : Hid (Below w.heap.size w W4) := Lib.hid (by rw [hW4]; exact B4.out)
          rw [← hW4]
          clear hW4 hcell3 hfz3 CV4 B4
          have g0 : Below W4.heap.size W4 W4.drew := (Below.refl _ _).drew
          have h0 := CV5.out _ g0
          go_region_held (fun w' => (convert 30 9 (.slice (some ⟨w1.heap.size, 0, none⟩) k k)).run Tryd.prog w' = .ok (.string U) w') (first | exact h0 | exact h5 | exact h6 | exact h7 | exact h8 | go_keep) (first
            | (go_at_call 8; (with_reducible refine (SU2.out _ (B5.out.trans (Below.mono g0 B5.out.size))).mono ?_); rintro e w5 ⟨rfl, z5⟩; have g5 : Below W4.heap.size W4 w5 := g0.trans (Below.mono z5 g0.size); have h5 := CV5.out _ g5; clear z5)
            | (go_at_call 7; (with_reducible refine (WL2.out _).mono ?_); rintro e w6 ⟨a6, c6, rfl, z6⟩; have g6 : Below W4.heap.size W4 w6 := g5.trans (Below.mono z6 g5.size); have h6 := CV5.out _ g6; clear z6)
            | (go_at_call 8; (with_reducible refine (HSU.out _ (B5.out.trans (Below.mono g6 B5.out.size))).mono ?_); rintro e w7 ⟨rfl, z7⟩; have g7 : Below W4.heap.size W4 w7 := g6.trans (Below.mono z7 g6.size); have h7 := CV5.out _ g7; clear z7)
            | (go_at_call 10; (with_reducible refine (MA2.out _ _ (B5.out.trans (Below.mono g7 B5.out.size))).mono ?_); rintro e w8 ⟨rfl, z8⟩; have g8 : Below W4.heap.size W4 w8 := g7.trans (Below.mono z8 g7.size); have h8 := CV5.out _ g8; clear z8))
          all_goals
            have G8 := Lib.hid g8
            clear g0 g5 g6 g7 g8 h0 h5 h6 h7 h8
            go_wp2_with fail
            exact FIN.out _ (B5.out.trans (Below.mono G8.out B5.out.size))
        · have hk2 : keyB (sl T) = false := by rw [hkb, e1, decide_eq_false h2]; rfl
          have t2 : decide ((k : Int) ≤ 32) = false := by rw [decide_eq_false_iff_not]; omega
          have hse := hSS.2 hk2
          have hWL : Hid (∀ W, Calls Tryd.prog 7 #[.string T] W (LenP W 0)) := Lib.hid (fun W => by
            have := WL W
            rw [if_neg (by rw [hk2]; simp)] at this
            exact this)
          rw [hse] at HSU
          clear hk2 hkb SU WL hSS hS hsT hTT hB hby hO hbel hcell hfz e1 hse
          go_wp2_with fail
          refine (HSU.out _ HBE.out).mono ?_
          rintro e w2 ⟨rfl, z2⟩
          have B2 := Lib.hid (HBE.out.trans (Below.mono z2 HBE.out.size))
          go_wp2_with fail
          refine (hWL.out _).mono ?_
          rintro e w3 ⟨a3, c3, rfl, z3⟩
          have W3 := z2.trans (Below.mono z3 z2.size)
          have hO3 := (W3.block _ (blk_ltB HO.out)).trans HO.out
          have hcell3 : w3.cell? ⟨w1.heap.size, j, none⟩ = some v := (W3.cell (p := ⟨w1.heap.size, j, none⟩) (blk_ltB HO.out)).trans HCF.out.1
          have hfz3 : w3.frozen? ⟨w1.heap.size, j, none⟩ = false := by simp [World.frozen?, hO3]
          have B3 := Lib.hid (B2.out.trans (Below.mono z3 B2.out.size))
          have B4 := Lib.hid (B3.out.setCell (p := ⟨w1.heap.size, j, none⟩) B1.out.size (.int .u8 ((0 : Nat) : Int)))
          have CV4 := Lib.hid (CV2.out w3 hO3)
          clear W3 hO3 z2 z3 hcv
          go_upto_region 14 with fail
          obtain ⟨W4, hW4⟩ : ∃ W4, W4 = w3.setCell ⟨w1.heap.size, j, none⟩ (.int .u8 0) := ⟨_, rfl⟩
          have CV5 : Hid (∀ W, Below W4.heap.size W4 W → (convert 30 9 (.slice (some ⟨w1.heap.size, 0, none⟩) k k)).run Tryd.prog W = .ok (.string U) W) := Lib.hid (by rw [hW4]; exact CV4.out)
          have B5 : Hid (Below w.heap.size w W4) := Lib.hid (by rw [hW4]; exact B4.out)
          rw [← hW4]
          clear hW4 hcell3 hfz3 CV4 B4
          have g0 : Below W4.heap.size W4 W4.drew := (Below.refl _ _).drew
          have h0 := CV5.out _ g0
          go_region_held (fun w' => (convert 30 9 (.slice (some ⟨w1.heap.size, 0, none⟩) k k)).run Tryd.prog w' = .ok (.string U) w') (first | exact h0 | exact h5 | exact h6 | exact h7 | exact h8 | go_keep) (first
            | (go_at_call 8; (with_reducible refine (SU2.out _ (B5.out.trans (Below.mono g0 B5.out.size))).mono ?_); rintro e w5 ⟨rfl, z5⟩; have g5 : Below W4.heap.size W4 w5 := g0.trans (Below.mono z5 g0.size); have h5 := CV5.out _ g5; clear z5)
            | (go_at_call 7; (with_reducible refine (WL2.out _).mono ?_); rintro e w6 ⟨a6, c6, rfl, z6⟩; have g6 : Below W4.heap.size W4 w6 := g5.trans (Below.mono z6 g5.size); have h6 := CV5.out _ g6; clear z6)
            | (go_at_call 8; (with_reducible refine (HSU.out _ (B5.out.trans (Below.mono g6 B5.out.size))).mono ?_); rintro e w7 ⟨rfl, z7⟩; have g7 : Below W4.heap.size W4 w7 := g6.trans (Below.mono z7 g6.size); have h7 := CV5.out _ g7; clear z7)
            | (go_at_call 10; (with_reducible refine (MA2.out _ _ (B5.out.trans (Below.mono g7 B5.out.size))).mono ?_); rintro e w8 ⟨rfl, z8⟩; have g8 : Below W4.heap.size W4 w8 := g7.trans (Below.mono z8 g7.size); have h8 := CV5.out _ g8; clear z8))
          all_goals
            have G8 := Lib.hid g8
            clear g0 g5 g6 g7 g8 h0 h5 h6 h7 h8
            go_wp2_with fail
            exact FIN.out _ (B5.out.trans (Below.mono G8.out B5.out.size))
      · obtain rfl : k = 0 := by omega
        have hk2 : keyB (sl T) = false := by rw [hkb]; rfl
        have hse := hSS.2 hk2
        have hWL : Hid (∀ W, Calls Tryd.prog 7 #[.string T] W (LenP W 0)) := Lib.hid (fun W => by
          have := WL W
          rw [if_neg (by rw [hk2]; simp)] at this
          exact this)
        rw [hse] at HSU
        clear hk2 hkb SU WL hSS hS hsT hTT hB hby hO hbel hse h1
        go_wp2_with fail
        refine (HSU.out _ HBE.out).mono ?_
        rintro e w2 ⟨rfl, z2⟩
        have B2 := Lib.hid (HBE.out.trans (Below.mono z2 HBE.out.size))
        go_wp2_with fail
        refine (hWL.out _).mono ?_
        rintro e w3 ⟨a3, c3, rfl, z3⟩
        have B3 := Lib.hid (B2.out.trans (Below.mono z3 B2.out.size))
        clear z2 z3
        go_wp2_with fail
        exact FIN.out _ B3.out
theorem bounds_all (n q c : Int) (wn : (Lit.int .u8 n).wf = true) (wq : (Lit.int .u8 q).wf = true) (wc : (Lit.int .u8 c).wf = true) (w : World) (hT : TabK w) : Calls Tryd.prog 5 #[.int .u8 n, .int .u8 q, .int .u8 c] w (BoolB w true) := by
  have b1 := bd_u8 wn
  have b2 := bd_u8 wq
  have b3 := bd_u8 wc
  obtain ⟨n, rfl⟩ := Int.eq_ofNat_of_zero_le b1.1
  obtain ⟨q, rfl⟩ := Int.eq_ofNat_of_zero_le b2.1
  obtain ⟨c, rfl⟩ := Int.eq_ofNat_of_zero_le b3.1
  exact bounds_walk n q c (by omega) (by omega) (by omega) w hT
end Go.Proofs.YtogpbclfdnijpaaDoor
