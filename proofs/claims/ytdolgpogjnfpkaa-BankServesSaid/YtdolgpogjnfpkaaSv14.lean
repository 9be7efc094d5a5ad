/- The document's Right: its small parts. -/
import Derived.Test.YtdolgpogjnfpkaaSv13
namespace Go.Proofs.Ytdolgpogjnfpkaa
set_option linter.unusedVariables false
set_option linter.unusedSimpArgs false
open Go.ChangeShapes Go.WideShapes Go.ChangeAt Go.RowKit

def most (n : Int) : Int := if n = 1 ∨ n = 2 then 2000 else if n = 3 ∨ n = 4 ∨ n = 23 then 125 else if n = 15 then 1968 else if n = 16 then 123 else if n = 5 ∨ n = 6 ∨ n = 22 then 1 else 0
def single (n : Int) : Bool := decide (n = 5) || decide (n = 6) || decide (n = 22)
set_option maxRecDepth 100000 in
set_option maxHeartbeats 4000000 in
theorem most_any (n : Int) (w : World) : Calls Try.prog 43 #[.int .i64 n] w fun e w' => e = .returned (.int .i64 (most n)) ∧ w' = w := by
  by_cases h1 : n = 1
  · subst h1; go_enter Try.func43, Try.ntmps43; go_wp2_with fail; go_ret; exact ⟨rfl, rfl⟩
  by_cases h2 : n = 2
  · subst h2; go_enter Try.func43, Try.ntmps43; go_wp2_with fail; go_ret; exact ⟨rfl, rfl⟩
  by_cases h3 : n = 3
  · subst h3; go_enter Try.func43, Try.ntmps43; go_wp2_with fail; go_ret; exact ⟨rfl, rfl⟩
  by_cases h4 : n = 4
  · subst h4; go_enter Try.func43, Try.ntmps43; go_wp2_with fail; go_ret; exact ⟨rfl, rfl⟩
  by_cases h23 : n = 23
  · subst h23; go_enter Try.func43, Try.ntmps43; go_wp2_with fail; go_ret; exact ⟨rfl, rfl⟩
  by_cases h15 : n = 15
  · subst h15; go_enter Try.func43, Try.ntmps43; go_wp2_with fail; go_ret; exact ⟨rfl, rfl⟩
  by_cases h16 : n = 16
  · subst h16; go_enter Try.func43, Try.ntmps43; go_wp2_with fail; go_ret; exact ⟨rfl, rfl⟩
  by_cases h5 : n = 5
  · subst h5; go_enter Try.func43, Try.ntmps43; go_wp2_with fail; go_ret; exact ⟨rfl, rfl⟩
  by_cases h6 : n = 6
  · subst h6; go_enter Try.func43, Try.ntmps43; go_wp2_with fail; go_ret; exact ⟨rfl, rfl⟩
  by_cases h22 : n = 22
  · subst h22; go_enter Try.func43, Try.ntmps43; go_wp2_with fail; go_ret; exact ⟨rfl, rfl⟩
  have e : most n = 0 := by unfold most; simp [h1, h2, h3, h4, h23, h15, h16, h5, h6, h22]
  rw [e]
  have b1 : (n == 1) = false := by simp [h1]
  have b2 : (n == 2) = false := by simp [h2]
  have b3 : (n == 3) = false := by simp [h3]
  have b4 : (n == 4) = false := by simp [h4]
  have b23 : (n == 23) = false := by simp [h23]
  have b15 : (n == 15) = false := by simp [h15]
  have b16 : (n == 16) = false := by simp [h16]
  have b5 : (n == 5) = false := by simp [h5]
  have b6 : (n == 6) = false := by simp [h6]
  have b22 : (n == 22) = false := by simp [h22]
  clear e h1 h2 h3 h4 h23 h15 h16 h5 h6 h22
  go_enter Try.func43, Try.ntmps43; go_wp2_with fail; go_ret; exact ⟨rfl, rfl⟩
theorem place_any (n : Int) (w : World) : Calls Try.prog 65 #[.int .i64 n] w fun e w' => e = .returned (.bool (isPl n)) ∧ w' = w := by
  by_cases h1 : 0 ≤ n
  · by_cases h2 : n ≤ 65535
    · have e : isPl n = true := by unfold isPl; simp; omega
      have t1 : decide (0 ≤ n) = true := by simp [h1]
      have t2 : decide (n ≤ 65535) = true := by simp [h2]
      rw [e]
      clear e
      go_enter Try.func65, Try.ntmps65; go_wp2_with fail; go_ret; exact ⟨rfl, rfl⟩
    · have e : isPl n = false := by unfold isPl; simp; omega
      have t1 : decide (0 ≤ n) = true := by simp [h1]
      have t2 : decide (n ≤ 65535) = false := by simp [h2]
      rw [e]
      clear e
      go_enter Try.func65, Try.ntmps65; go_wp2_with fail; go_ret; exact ⟨rfl, rfl⟩
  · have e : isPl n = false := by unfold isPl; simp; omega
    have t1 : decide (0 ≤ n) = false := by simp [h1]
    rw [e]
    clear e
    go_enter Try.func65, Try.ntmps65; go_wp2_with fail; go_ret; exact ⟨rfl, rfl⟩
set_option maxRecDepth 100000 in
theorem single_any (n : Int) (w : World) : Calls Try.prog 66 #[.int .i64 n] w fun e w' => e = .returned (.bool (single n)) ∧ w' = w := by
  by_cases h5 : n = 5
  · subst h5; go_enter Try.func66, Try.ntmps66; go_wp2_with fail; go_ret; exact ⟨rfl, rfl⟩
  by_cases h6 : n = 6
  · subst h6; go_enter Try.func66, Try.ntmps66; go_wp2_with fail; go_ret; exact ⟨rfl, rfl⟩
  by_cases h22 : n = 22
  · subst h22; go_enter Try.func66, Try.ntmps66; go_wp2_with fail; go_ret; exact ⟨rfl, rfl⟩
  have e : single n = false := by unfold single; simp [h5, h6, h22]
  rw [e]
  have b5 : (n == 5) = false := by simp [h5]
  have b6 : (n == 6) = false := by simp [h6]
  have b22 : (n == 22) = false := by simp [h22]
  clear e h5 h6 h22
  go_enter Try.func66, Try.ntmps66; go_wp2_with fail; go_ret; exact ⟨rfl, rfl⟩
set_option maxRecDepth 100000 in
set_option maxHeartbeats 4000000 in
theorem bits14_any (a : Option Addr) (n c : Nat) (V : List Nat) (w : World) (h : Wds w a n V) : Calls Try.prog 67 #[.slice a n c] w fun e w' => e = .returned (.bool (allB V)) ∧ w' = w := by
  have H := Lib.hid h
  have hln := h.ln
  have hle := h.le
  unfold maxLen at hle
  clear h
  go_enter Try.func67, Try.ntmps67
  go_wp2_with fail
  go_loop [3] (fun i => ∃ k : Nat, k ≤ n ∧ i = .int .i64 k ∧ allB (V.take k) = true) (fun i => n - (intOf i).toNat)
  case atStart => exact ⟨0, Nat.zero_le _, rfl, rfl⟩
  case round =>
    obtain ⟨k, hk, rfl, hz⟩ := hrel
    by_cases hkn : k < n
    · obtain ⟨b, off, rfl, hc⟩ := H.out.row k hkn
      have ht := allB_take V k (by omega)
      have hF := allB_false (V := V) (k := k) (by omega)
      rw [hz, Bool.true_and] at ht
      generalize V.getD k 0 = v at hc ht hF
      have HT := Lib.hid ht
      have HF := Lib.hid hF
      clear hz ht hF
      have d0 : (k : Int) < (n : Int) := by omega
      by_cases hv : v ≤ 1
      · have d1 : decide ((1 : Int) < (v : Int)) = false := by simp; omega
        go_wp2_with fail
        go_round
        case rel => exact ⟨k + 1, by omega, by go_num, by rw [HT.out]; simpa using hv⟩
        case measure => simp [intOf]; omega
      · have d1 : decide ((1 : Int) < (v : Int)) = true := by simp; omega
        go_wp2_with fail
        go_ret
        exact ⟨by rw [HF.out hv]; rfl, rfl⟩
    · have hk' : k = n := by omega
      subst hk'
      rw [List.take_of_length_le (by omega)] at hz
      have HZ := Lib.hid hz
      clear hz
      go_wp2_with fail
      go_ret
      exact ⟨by rw [HZ.out]; rfl, rfl⟩
end Go.Proofs.Ytdolgpogjnfpkaa
/- The document's Right: shape. -/
namespace Go.Proofs.Ytdolgpogjnfpkaa
set_option linter.unusedVariables false
set_option linter.unusedSimpArgs false
open Go.ChangeShapes Go.WideShapes Go.ChangeAt Go.RowKit

def shapeB (r : Rq) : Bool :=
  if most r.fc = 0 then false else if isPl r.ad = false then false else if isPl r.to = false then false else if r.fc ≠ 23 ∧ r.to ≠ 0 then false else
  if single r.fc = true ∧ r.q ≠ 0 then false else if single r.fc = false ∧ (r.q < 1 ∨ most r.fc < r.q) then false else
  if r.fc = 5 then decide (r.vn = 1) && allB r.V else if r.fc = 6 then decide (r.vn = 1) else if r.fc = 15 then decide ((r.vn : Int) = r.q) && allB r.V else if r.fc = 16 then decide ((r.vn : Int) = r.q) else
  if r.fc = 22 then decide (r.vn = 2) else if r.fc = 23 then decide (1 ≤ r.vn) && decide (r.vn ≤ 121) else decide (r.vn = 0)
set_option maxRecDepth 100000 in
set_option maxHeartbeats 20000000 in
theorem shape_any (r : Rq) (w : World) (hr : r.ok w) : Calls Try.prog 45 #[rv r] w (BoolB w (shapeB r)) := by
  obtain ⟨P, hP⟩ : ∃ P, P = (BoolB w (shapeB r) : Ending → World → Prop) := ⟨_, rfl⟩
  rw [← hP]
  obtain ⟨sh, hsh⟩ : ∃ b, b = shapeB r := ⟨_, rfl⟩
  have FIN : Hid (∀ W' b, b = sh → Below w.heap.size w W' → P (.returned (.bool b)) W') := Lib.hid (fun W' b e h => by rw [hP, e, hsh]; exact ⟨rfl, h⟩)
  obtain ⟨fc, ad, q, vs, vn, vc, V, rto⟩ := r
  have hln := hr.arg.row.ln
  unfold shapeB at hsh
  simp only at hsh hln
  have SH := Lib.hid hsh
  have MO := Lib.hid (fun W => most_any fc W)
  have SG := Lib.hid (fun W => single_any fc W)
  have PA := Lib.hid (fun W => place_any ad W)
  have PT := Lib.hid (fun W => place_any rto W)
  obtain ⟨al, hal⟩ : ∃ b, b = allB V := ⟨_, rfl⟩
  have BT : Hid (∀ W, Below w.heap.size w W → Calls Try.prog 67 #[.slice vs vn vc] W fun e w' => e = .returned (.bool al) ∧ w' = W) := Lib.hid (fun W hb => by rw [hal]; exact bits14_any vs vn vc V W (hr.arg.row.below hb))
  rw [← hal] at SH
  generalize most fc = M at MO SH
  generalize single fc = sg at SG SH
  generalize isPl ad = pa at PA SH
  generalize isPl rto = pt at PT SH
  have b1 := alloc_bq w (.cells #[.int .i64 fc, .int .i64 ad, .int .i64 q, .slice vs vn vc, .int .i64 rto] 32 (0, 0))
  have B0 := Lib.hid b1
  simp only [rv]
  clear hP hr hal hsh hln b1
  go_enter Try.func45, Try.ntmps45
  go_upto_region 2 with fail
  obtain ⟨W, hW⟩ : ∃ W, W = w.alloc (.cells #[.int .i64 fc, .int .i64 ad, .int .i64 q, .slice vs vn vc, .int .i64 rto] 32 (0, 0)) := ⟨_, rfl⟩
  have B1 : Hid (Below w.heap.size w W) := Lib.hid (by rw [hW]; exact B0.out)
  have X1 : Hid (W.heap[w.heap.size]? = some (.cells #[.int .i64 fc, .int .i64 ad, .int .i64 q, .slice vs vn vc, .int .i64 rto] 32 (0, 0))) := Lib.hid (by rw [hW]; exact heap_alloc_new _ _)
  rw [← hW]
  clear hW B0
  obtain ⟨c0, c1, c2, c3, c4⟩ := cells5 X1.out
  go_wp2_with fail
  refine (MO.out _).mono ?_
  rintro e w1 ⟨rfl, e1⟩
  rw [e1]
  clear e1 w1
  by_cases hM : M = 0
  · have t0 : (M == 0) = true := by simp [hM]
    have SH1 := Lib.hid (SH.out.trans (if_pos hM))
    clear hM
    go_wp2_with fail
    exact FIN.out _ _ SH1.out.symm B1.out
  have t0 : (M == 0) = false := by simp [hM]
  have SH := Lib.hid (SH.out.trans (if_neg hM))
  clear hM
  go_wp2_with fail
  refine (PA.out _).mono ?_
  rintro e w1 ⟨rfl, e1⟩
  rw [e1]
  clear e1 w1
  cases pa with
  | false =>
    have SH1 := Lib.hid (SH.out.trans (if_pos rfl))
    go_wp2_with fail
    exact FIN.out _ _ SH1.out.symm B1.out
  | true =>
  have SH := Lib.hid (SH.out.trans (if_neg (by simp)))
  go_wp2_with fail
  refine (PT.out _).mono ?_
  rintro e w1 ⟨rfl, e1⟩
  rw [e1]
  clear e1 w1
  cases pt with
  | false =>
    have SH1 := Lib.hid (SH.out.trans (if_pos rfl))
    go_wp2_with fail
    exact FIN.out _ _ SH1.out.symm B1.out
  | true =>
  have SH := Lib.hid (SH.out.trans (if_neg (by simp)))
  by_cases h23 : fc ≠ 23 ∧ rto ≠ 0
  · have t1 : (fc != 23) = true := by simp [h23.1]
    have t2 : (rto != 0) = true := by simp [h23.2]
    have SH1 := Lib.hid (SH.out.trans (if_pos h23))
    clear h23
    go_wp2_with fail
    exact FIN.out _ _ SH1.out.symm B1.out
  have SH := Lib.hid (SH.out.trans (if_neg h23))
  have t12 : ((fc != 23) = true ∧ (rto != 0) = false) ∨ (fc != 23) = false := by
    by_cases h1 : fc = 23
    · exact .inr (by simp [h1])
    · exact .inl ⟨by simp [h1], by by_cases h2 : rto = 0
                                   · simp [h2]
                                   · exact absurd ⟨h1, h2⟩ h23⟩
  clear h23
  rcases t12 with ⟨t1, t2⟩ | t1
  · cases sg with
    | true =>
      by_cases hq : q = 0
      · have t3 : (q != 0) = false := by simp [hq]
        have SHT := Lib.hid ((SH.out.trans (if_neg (by intro e; exact e.2 hq))).trans (if_neg (by intro e; cases e.1)))
        clear hq
        go_upto_region 4 with fail
        go_quiet (first | (go_at_call 66; exact Calls.quiet_of_same (SG.out _)) | (go_at_call 43; exact Calls.quiet_of_same (MO.out _)))
        generalize hW2 : W.drewN _ = W2
        have g2 : Below W.heap.size W W2 := by rw [← hW2]; exact below_drewN (Below.refl _ _) _
        have B2 := Lib.hid (B1.out.trans (g2.mono B1.out.size))
        obtain ⟨c0, c1, c2, c3, c4⟩ := cells5 (low_of g2 X1.out)
        clear hW2 g2
        have BT := Lib.hid (BT.out W2 B2.out)
        by_cases h5 : fc = 5
        · have e5 : (fc == 5) = true := by simp [h5]
          have SH2 := Lib.hid (SHT.out.trans (if_pos h5))
          clear h5
          by_cases hl : vn = 1
          · have t1 : ((vn : Int) == 1) = true := by simp [hl]
            have SH3 : Hid (sh = al) := Lib.hid (by rw [SH2.out]; simp [hl])
            clear hl
            go_wp2_with fail
            refine BT.out.mono ?_
            rintro e w5 ⟨rfl, rfl⟩
            go_wp2_with fail
            exact FIN.out _ _ SH3.out.symm B2.out
          · have t1 : ((vn : Int) == 1) = false := by simp [hl] <;> omega
            have SH3 : Hid (sh = false) := Lib.hid (by rw [SH2.out]; simp [hl])
            clear hl
            go_wp2_with fail
            exact FIN.out _ _ SH3.out.symm B2.out
        have e5 : (fc == 5) = false := by simp [h5]
        have SHT := Lib.hid (SHT.out.trans (if_neg h5))
        clear h5
        by_cases h6 : fc = 6
        · have e6 : (fc == 6) = true := by simp [h6]
          have SH2 := Lib.hid (SHT.out.trans (if_pos h6))
          clear h6
          by_cases hl : vn = 1
          · have t1 : ((vn : Int) == 1) = true := by simp [hl]
            have SH3 : Hid (sh = true) := Lib.hid (by rw [SH2.out]; simp [hl])
            clear hl
            go_wp2_with fail
            exact FIN.out _ _ SH3.out.symm B2.out
          · have t1 : ((vn : Int) == 1) = false := by simp [hl] <;> omega
            have SH3 : Hid (sh = false) := Lib.hid (by rw [SH2.out]; simp [hl])
            clear hl
            go_wp2_with fail
            exact FIN.out _ _ SH3.out.symm B2.out
        have e6 : (fc == 6) = false := by simp [h6]
        have SHT := Lib.hid (SHT.out.trans (if_neg h6))
        clear h6
        by_cases h15 : fc = 15
        · have e15 : (fc == 15) = true := by simp [h15]
          have SH2 := Lib.hid (SHT.out.trans (if_pos h15))
          clear h15
          by_cases hl : (vn : Int) = q
          · have t1 : ((vn : Int) == q) = true := by simp [hl]
            have SH3 : Hid (sh = al) := Lib.hid (by rw [SH2.out]; simp [hl])
            clear hl
            go_wp2_with fail
            refine BT.out.mono ?_
            rintro e w5 ⟨rfl, rfl⟩
            go_wp2_with fail
            exact FIN.out _ _ SH3.out.symm B2.out
          · have t1 : ((vn : Int) == q) = false := by simp [hl] <;> omega
            have SH3 : Hid (sh = false) := Lib.hid (by rw [SH2.out]; simp [hl])
            clear hl
            go_wp2_with fail
            exact FIN.out _ _ SH3.out.symm B2.out
        have e15 : (fc == 15) = false := by simp [h15]
        have SHT := Lib.hid (SHT.out.trans (if_neg h15))
        clear h15
        by_cases h16 : fc = 16
        · have e16 : (fc == 16) = true := by simp [h16]
          have SH2 := Lib.hid (SHT.out.trans (if_pos h16))
          clear h16
          by_cases hl : (vn : Int) = q
          · have t1 : ((vn : Int) == q) = true := by simp [hl]
            have SH3 : Hid (sh = true) := Lib.hid (by rw [SH2.out]; simp [hl])
            clear hl
            go_wp2_with fail
            exact FIN.out _ _ SH3.out.symm B2.out
          · have t1 : ((vn : Int) == q) = false := by simp [hl] <;> omega
            have SH3 : Hid (sh = false) := Lib.hid (by rw [SH2.out]; simp [hl])
            clear hl
            go_wp2_with fail
            exact FIN.out _ _ SH3.out.symm B2.out
        have e16 : (fc == 16) = false := by simp [h16]
        have SHT := Lib.hid (SHT.out.trans (if_neg h16))
        clear h16
        by_cases h22 : fc = 22
        · have e22 : (fc == 22) = true := by simp [h22]
          have SH2 := Lib.hid (SHT.out.trans (if_pos h22))
          clear h22
          by_cases hl : vn = 2
          · have t1 : ((vn : Int) == 2) = true := by simp [hl]
            have SH3 : Hid (sh = true) := Lib.hid (by rw [SH2.out]; simp [hl])
            clear hl
            go_wp2_with fail
            exact FIN.out _ _ SH3.out.symm B2.out
          · have t1 : ((vn : Int) == 2) = false := by simp [hl] <;> omega
            have SH3 : Hid (sh = false) := Lib.hid (by rw [SH2.out]; simp [hl])
            clear hl
            go_wp2_with fail
            exact FIN.out _ _ SH3.out.symm B2.out
        have e22 : (fc == 22) = false := by simp [h22]
        have SHT := Lib.hid (SHT.out.trans (if_neg h22))
        clear h22
        by_cases h23 : fc = 23
        · have e23 : (fc == 23) = true := by simp [h23]
          have SH2 := Lib.hid (SHT.out.trans (if_pos h23))
          clear h23
          by_cases hl : 1 ≤ vn
          · have t1 : (1 : Int) ≤ (vn : Int) := by omega
            by_cases hm : vn ≤ 121
            · have t2 : (vn : Int) ≤ 121 := by omega
              have SH3 : Hid (sh = true) := Lib.hid (by rw [SH2.out]; simp [hl, hm])
              clear hl hm
              go_wp2_with fail
              exact FIN.out _ _ SH3.out.symm B2.out
            · have t2 : ¬ (vn : Int) ≤ 121 := by omega
              have SH3 : Hid (sh = false) := Lib.hid (by rw [SH2.out]; simp [hm])
              clear hl hm
              go_wp2_with fail
              exact FIN.out _ _ SH3.out.symm B2.out
          · have t1 : ¬ (1 : Int) ≤ (vn : Int) := by omega
            have SH3 : Hid (sh = false) := Lib.hid (by rw [SH2.out]; simp [hl])
            clear hl
            go_wp2_with fail
            exact FIN.out _ _ SH3.out.symm B2.out
        have e23 : (fc == 23) = false := by simp [h23]
        have SHT := Lib.hid (SHT.out.trans (if_neg h23))
        clear h23
        have SH2 := SHT
        by_cases hl : vn = 0
        · have t1 : ((vn : Int) == 0) = true := by simp [hl]
          have SH3 : Hid (sh = true) := Lib.hid (by rw [SH2.out]; simp [hl])
          clear hl
          go_wp2_with fail
          exact FIN.out _ _ SH3.out.symm B2.out
        · have t1 : ((vn : Int) == 0) = false := by simp [hl] <;> omega
          have SH3 : Hid (sh = false) := Lib.hid (by rw [SH2.out]; simp [hl])
          clear hl
          go_wp2_with fail
          exact FIN.out _ _ SH3.out.symm B2.out
      · have t3 : (q != 0) = true := by simp [hq]
        have SH1 := Lib.hid (SH.out.trans (if_pos ⟨rfl, hq⟩))
        clear hq
        go_upto_region 4 with fail
        go_quiet (first | (go_at_call 66; exact Calls.quiet_of_same (SG.out _)) | (go_at_call 43; exact Calls.quiet_of_same (MO.out _)))
        generalize hW2 : W.drewN _ = W2
        have g2 : Below W.heap.size W W2 := by rw [← hW2]; exact below_drewN (Below.refl _ _) _
        have B2 := Lib.hid (B1.out.trans (g2.mono B1.out.size))
        obtain ⟨c0, c1, c2, c3, c4⟩ := cells5 (low_of g2 X1.out)
        clear hW2 g2
        go_wp2_with fail
        exact FIN.out _ _ SH1.out.symm B2.out
    | false =>
      have SH := Lib.hid (SH.out.trans (if_neg (by intro e; cases e.1)))
      by_cases hq : q < 1
      · have SH1 := Lib.hid (SH.out.trans (if_pos ⟨rfl, .inl hq⟩))
        have t3 : decide (q < 1) = true := by simp [hq]
        clear hq
        go_upto_region 4 with fail
        go_quiet (first | (go_at_call 66; exact Calls.quiet_of_same (SG.out _)) | (go_at_call 43; exact Calls.quiet_of_same (MO.out _)))
        generalize hW2 : W.drewN _ = W2
        have g2 : Below W.heap.size W W2 := by rw [← hW2]; exact below_drewN (Below.refl _ _) _
        have B2 := Lib.hid (B1.out.trans (g2.mono B1.out.size))
        obtain ⟨c0, c1, c2, c3, c4⟩ := cells5 (low_of g2 X1.out)
        clear hW2 g2
        go_wp2_with fail
        exact FIN.out _ _ SH1.out.symm B2.out
      · have t3 : decide (q < 1) = false := by simp [hq]
        by_cases hm : M < q
        · have SH1 := Lib.hid (SH.out.trans (if_pos ⟨rfl, .inr hm⟩))
          have t4 : decide (M < q) = true := by simp [hm]
          clear hm hq
          go_upto_region 4 with fail
          go_quiet (first | (go_at_call 66; exact Calls.quiet_of_same (SG.out _)) | (go_at_call 43; exact Calls.quiet_of_same (MO.out _)))
          generalize hW2 : W.drewN _ = W2
          have g2 : Below W.heap.size W W2 := by rw [← hW2]; exact below_drewN (Below.refl _ _) _
          have B2 := Lib.hid (B1.out.trans (g2.mono B1.out.size))
          obtain ⟨c0, c1, c2, c3, c4⟩ := cells5 (low_of g2 X1.out)
          clear hW2 g2
          go_wp2_with fail
          exact FIN.out _ _ SH1.out.symm B2.out
        · have t4 : decide (M < q) = false := by simp [hm]
          have SHT := Lib.hid (SH.out.trans (if_neg (by intro e; rcases e.2 with e | e <;> omega)))
          clear hm hq
          go_upto_region 4 with fail
          go_quiet (first | (go_at_call 66; exact Calls.quiet_of_same (SG.out _)) | (go_at_call 43; exact Calls.quiet_of_same (MO.out _)))
          generalize hW2 : W.drewN _ = W2
          have g2 : Below W.heap.size W W2 := by rw [← hW2]; exact below_drewN (Below.refl _ _) _
          have B2 := Lib.hid (B1.out.trans (g2.mono B1.out.size))
          obtain ⟨c0, c1, c2, c3, c4⟩ := cells5 (low_of g2 X1.out)
          clear hW2 g2
          have BT := Lib.hid (BT.out W2 B2.out)
          by_cases h5 : fc = 5
          · have e5 : (fc == 5) = true := by simp [h5]
            have SH2 := Lib.hid (SHT.out.trans (if_pos h5))
            clear h5
            by_cases hl : vn = 1
            · have t1 : ((vn : Int) == 1) = true := by simp [hl]
              have SH3 : Hid (sh = al) := Lib.hid (by rw [SH2.out]; simp [hl])
              clear hl
              go_wp2_with fail
              refine BT.out.mono ?_
              rintro e w5 ⟨rfl, rfl⟩
              go_wp2_with fail
              exact FIN.out _ _ SH3.out.symm B2.out
            · have t1 : ((vn : Int) == 1) = false := by simp [hl] <;> omega
              have SH3 : Hid (sh = false) := Lib.hid (by rw [SH2.out]; simp [hl])
              clear hl
              go_wp2_with fail
              exact FIN.out _ _ SH3.out.symm B2.out
          have e5 : (fc == 5) = false := by simp [h5]
          have SHT := Lib.hid (SHT.out.trans (if_neg h5))
          clear h5
          by_cases h6 : fc = 6
          · have e6 : (fc == 6) = true := by simp [h6]
            have SH2 := Lib.hid (SHT.out.trans (if_pos h6))
            clear h6
            by_cases hl : vn = 1
            · have t1 : ((vn : Int) == 1) = true := by simp [hl]
              have SH3 : Hid (sh = true) := Lib.hid (by rw [SH2.out]; simp [hl])
              clear hl
              go_wp2_with fail
              exact FIN.out _ _ SH3.out.symm B2.out
            · have t1 : ((vn : Int) == 1) = false := by simp [hl] <;> omega
              have SH3 : Hid (sh = false) := Lib.hid (by rw [SH2.out]; simp [hl])
              clear hl
              go_wp2_with fail
              exact FIN.out _ _ SH3.out.symm B2.out
          have e6 : (fc == 6) = false := by simp [h6]
          have SHT := Lib.hid (SHT.out.trans (if_neg h6))
          clear h6
          by_cases h15 : fc = 15
          · have e15 : (fc == 15) = true := by simp [h15]
            have SH2 := Lib.hid (SHT.out.trans (if_pos h15))
            clear h15
            by_cases hl : (vn : Int) = q
            · have t1 : ((vn : Int) == q) = true := by simp [hl]
              have SH3 : Hid (sh = al) := Lib.hid (by rw [SH2.out]; simp [hl])
              clear hl
              go_wp2_with fail
              refine BT.out.mono ?_
              rintro e w5 ⟨rfl, rfl⟩
              go_wp2_with fail
              exact FIN.out _ _ SH3.out.symm B2.out
            · have t1 : ((vn : Int) == q) = false := by simp [hl] <;> omega
              have SH3 : Hid (sh = false) := Lib.hid (by rw [SH2.out]; simp [hl])
              clear hl
              go_wp2_with fail
              exact FIN.out _ _ SH3.out.symm B2.out
          have e15 : (fc == 15) = false := by simp [h15]
          have SHT := Lib.hid (SHT.out.trans (if_neg h15))
          clear h15
          by_cases h16 : fc = 16
          · have e16 : (fc == 16) = true := by simp [h16]
            have SH2 := Lib.hid (SHT.out.trans (if_pos h16))
            clear h16
            by_cases hl : (vn : Int) = q
            · have t1 : ((vn : Int) == q) = true := by simp [hl]
              have SH3 : Hid (sh = true) := Lib.hid (by rw [SH2.out]; simp [hl])
              clear hl
              go_wp2_with fail
              exact FIN.out _ _ SH3.out.symm B2.out
            · have t1 : ((vn : Int) == q) = false := by simp [hl] <;> omega
              have SH3 : Hid (sh = false) := Lib.hid (by rw [SH2.out]; simp [hl])
              clear hl
              go_wp2_with fail
              exact FIN.out _ _ SH3.out.symm B2.out
          have e16 : (fc == 16) = false := by simp [h16]
          have SHT := Lib.hid (SHT.out.trans (if_neg h16))
          clear h16
          by_cases h22 : fc = 22
          · have e22 : (fc == 22) = true := by simp [h22]
            have SH2 := Lib.hid (SHT.out.trans (if_pos h22))
            clear h22
            by_cases hl : vn = 2
            · have t1 : ((vn : Int) == 2) = true := by simp [hl]
              have SH3 : Hid (sh = true) := Lib.hid (by rw [SH2.out]; simp [hl])
              clear hl
              go_wp2_with fail
              exact FIN.out _ _ SH3.out.symm B2.out
            · have t1 : ((vn : Int) == 2) = false := by simp [hl] <;> omega
              have SH3 : Hid (sh = false) := Lib.hid (by rw [SH2.out]; simp [hl])
              clear hl
              go_wp2_with fail
              exact FIN.out _ _ SH3.out.symm B2.out
          have e22 : (fc == 22) = false := by simp [h22]
          have SHT := Lib.hid (SHT.out.trans (if_neg h22))
          clear h22
          by_cases h23 : fc = 23
          · have e23 : (fc == 23) = true := by simp [h23]
            have SH2 := Lib.hid (SHT.out.trans (if_pos h23))
            clear h23
            by_cases hl : 1 ≤ vn
            · have t1 : (1 : Int) ≤ (vn : Int) := by omega
              by_cases hm : vn ≤ 121
              · have t2 : (vn : Int) ≤ 121 := by omega
                have SH3 : Hid (sh = true) := Lib.hid (by rw [SH2.out]; simp [hl, hm])
                clear hl hm
                go_wp2_with fail
                exact FIN.out _ _ SH3.out.symm B2.out
              · have t2 : ¬ (vn : Int) ≤ 121 := by omega
                have SH3 : Hid (sh = false) := Lib.hid (by rw [SH2.out]; simp [hm])
                clear hl hm
                go_wp2_with fail
                exact FIN.out _ _ SH3.out.symm B2.out
            · have t1 : ¬ (1 : Int) ≤ (vn : Int) := by omega
              have SH3 : Hid (sh = false) := Lib.hid (by rw [SH2.out]; simp [hl])
              clear hl
              go_wp2_with fail
              exact FIN.out _ _ SH3.out.symm B2.out
          have e23 : (fc == 23) = false := by simp [h23]
          have SHT := Lib.hid (SHT.out.trans (if_neg h23))
          clear h23
          have SH2 := SHT
          by_cases hl : vn = 0
          · have t1 : ((vn : Int) == 0) = true := by simp [hl]
            have SH3 : Hid (sh = true) := Lib.hid (by rw [SH2.out]; simp [hl])
            clear hl
            go_wp2_with fail
            exact FIN.out _ _ SH3.out.symm B2.out
          · have t1 : ((vn : Int) == 0) = false := by simp [hl] <;> omega
            have SH3 : Hid (sh = false) := Lib.hid (by rw [SH2.out]; simp [hl])
            clear hl
            go_wp2_with fail
            exact FIN.out _ _ SH3.out.symm B2.out
  · cases sg with
    | true =>
      by_cases hq : q = 0
      · have t3 : (q != 0) = false := by simp [hq]
        have SHT := Lib.hid ((SH.out.trans (if_neg (by intro e; exact e.2 hq))).trans (if_neg (by intro e; cases e.1)))
        clear hq
        go_upto_region 4 with fail
        go_quiet (first | (go_at_call 66; exact Calls.quiet_of_same (SG.out _)) | (go_at_call 43; exact Calls.quiet_of_same (MO.out _)))
        generalize hW2 : W.drewN _ = W2
        have g2 : Below W.heap.size W W2 := by rw [← hW2]; exact below_drewN (Below.refl _ _) _
        have B2 := Lib.hid (B1.out.trans (g2.mono B1.out.size))
        obtain ⟨c0, c1, c2, c3, c4⟩ := cells5 (low_of g2 X1.out)
        clear hW2 g2
        have BT := Lib.hid (BT.out W2 B2.out)
        by_cases h5 : fc = 5
        · have e5 : (fc == 5) = true := by simp [h5]
          have SH2 := Lib.hid (SHT.out.trans (if_pos h5))
          clear h5
          by_cases hl : vn = 1
          · have t1 : ((vn : Int) == 1) = true := by simp [hl]
            have SH3 : Hid (sh = al) := Lib.hid (by rw [SH2.out]; simp [hl])
            clear hl
            go_wp2_with fail
            refine BT.out.mono ?_
            rintro e w5 ⟨rfl, rfl⟩
            go_wp2_with fail
            exact FIN.out _ _ SH3.out.symm B2.out
          · have t1 : ((vn : Int) == 1) = false := by simp [hl] <;> omega
            have SH3 : Hid (sh = false) := Lib.hid (by rw [SH2.out]; simp [hl])
            clear hl
            go_wp2_with fail
            exact FIN.out _ _ SH3.out.symm B2.out
        have e5 : (fc == 5) = false := by simp [h5]
        have SHT := Lib.hid (SHT.out.trans (if_neg h5))
        clear h5
        by_cases h6 : fc = 6
        · have e6 : (fc == 6) = true := by simp [h6]
          have SH2 := Lib.hid (SHT.out.trans (if_pos h6))
          clear h6
          by_cases hl : vn = 1
          · have t1 : ((vn : Int) == 1) = true := by simp [hl]
            have SH3 : Hid (sh = true) := Lib.hid (by rw [SH2.out]; simp [hl])
            clear hl
            go_wp2_with fail
            exact FIN.out _ _ SH3.out.symm B2.out
          · have t1 : ((vn : Int) == 1) = false := by simp [hl] <;> omega
            have SH3 : Hid (sh = false) := Lib.hid (by rw [SH2.out]; simp [hl])
            clear hl
            go_wp2_with fail
            exact FIN.out _ _ SH3.out.symm B2.out
        have e6 : (fc == 6) = false := by simp [h6]
        have SHT := Lib.hid (SHT.out.trans (if_neg h6))
        clear h6
        by_cases h15 : fc = 15
        · have e15 : (fc == 15) = true := by simp [h15]
          have SH2 := Lib.hid (SHT.out.trans (if_pos h15))
          clear h15
          by_cases hl : (vn : Int) = q
          · have t1 : ((vn : Int) == q) = true := by simp [hl]
            have SH3 : Hid (sh = al) := Lib.hid (by rw [SH2.out]; simp [hl])
            clear hl
            go_wp2_with fail
            refine BT.out.mono ?_
            rintro e w5 ⟨rfl, rfl⟩
            go_wp2_with fail
            exact FIN.out _ _ SH3.out.symm B2.out
          · have t1 : ((vn : Int) == q) = false := by simp [hl] <;> omega
            have SH3 : Hid (sh = false) := Lib.hid (by rw [SH2.out]; simp [hl])
            clear hl
            go_wp2_with fail
            exact FIN.out _ _ SH3.out.symm B2.out
        have e15 : (fc == 15) = false := by simp [h15]
        have SHT := Lib.hid (SHT.out.trans (if_neg h15))
        clear h15
        by_cases h16 : fc = 16
        · have e16 : (fc == 16) = true := by simp [h16]
          have SH2 := Lib.hid (SHT.out.trans (if_pos h16))
          clear h16
          by_cases hl : (vn : Int) = q
          · have t1 : ((vn : Int) == q) = true := by simp [hl]
            have SH3 : Hid (sh = true) := Lib.hid (by rw [SH2.out]; simp [hl])
            clear hl
            go_wp2_with fail
            exact FIN.out _ _ SH3.out.symm B2.out
          · have t1 : ((vn : Int) == q) = false := by simp [hl] <;> omega
            have SH3 : Hid (sh = false) := Lib.hid (by rw [SH2.out]; simp [hl])
            clear hl
            go_wp2_with fail
            exact FIN.out _ _ SH3.out.symm B2.out
        have e16 : (fc == 16) = false := by simp [h16]
        have SHT := Lib.hid (SHT.out.trans (if_neg h16))
        clear h16
        by_cases h22 : fc = 22
        · have e22 : (fc == 22) = true := by simp [h22]
          have SH2 := Lib.hid (SHT.out.trans (if_pos h22))
          clear h22
          by_cases hl : vn = 2
          · have t1 : ((vn : Int) == 2) = true := by simp [hl]
            have SH3 : Hid (sh = true) := Lib.hid (by rw [SH2.out]; simp [hl])
            clear hl
            go_wp2_with fail
            exact FIN.out _ _ SH3.out.symm B2.out
          · have t1 : ((vn : Int) == 2) = false := by simp [hl] <;> omega
            have SH3 : Hid (sh = false) := Lib.hid (by rw [SH2.out]; simp [hl])
            clear hl
            go_wp2_with fail
            exact FIN.out _ _ SH3.out.symm B2.out
        have e22 : (fc == 22) = false := by simp [h22]
        have SHT := Lib.hid (SHT.out.trans (if_neg h22))
        clear h22
        by_cases h23 : fc = 23
        · have e23 : (fc == 23) = true := by simp [h23]
          have SH2 := Lib.hid (SHT.out.trans (if_pos h23))
          clear h23
          by_cases hl : 1 ≤ vn
          · have t1 : (1 : Int) ≤ (vn : Int) := by omega
            by_cases hm : vn ≤ 121
            · have t2 : (vn : Int) ≤ 121 := by omega
              have SH3 : Hid (sh = true) := Lib.hid (by rw [SH2.out]; simp [hl, hm])
              clear hl hm
              go_wp2_with fail
              exact FIN.out _ _ SH3.out.symm B2.out
            · have t2 : ¬ (vn : Int) ≤ 121 := by omega
              have SH3 : Hid (sh = false) := Lib.hid (by rw [SH2.out]; simp [hm])
              clear hl hm
              go_wp2_with fail
              exact FIN.out _ _ SH3.out.symm B2.out
          · have t1 : ¬ (1 : Int) ≤ (vn : Int) := by omega
            have SH3 : Hid (sh = false) := Lib.hid (by rw [SH2.out]; simp [hl])
            clear hl
            go_wp2_with fail
            exact FIN.out _ _ SH3.out.symm B2.out
        have e23 : (fc == 23) = false := by simp [h23]
        have SHT := Lib.hid (SHT.out.trans (if_neg h23))
        clear h23
        have SH2 := SHT
        by_cases hl : vn = 0
        · have t1 : ((vn : Int) == 0) = true := by simp [hl]
          have SH3 : Hid (sh = true) := Lib.hid (by rw [SH2.out]; simp [hl])
          clear hl
          go_wp2_with fail
          exact FIN.out _ _ SH3.out.symm B2.out
        · have t1 : ((vn : Int) == 0) = false := by simp [hl] <;> omega
          have SH3 : Hid (sh = false) := Lib.hid (by rw [SH2.out]; simp [hl])
          clear hl
          go_wp2_with fail
          exact FIN.out _ _ SH3.out.symm B2.out
      · have t3 : (q != 0) = true := by simp [hq]
        have SH1 := Lib.hid (SH.out.trans (if_pos ⟨rfl, hq⟩))
        clear hq
        go_upto_region 4 with fail
        go_quiet (first | (go_at_call 66; exact Calls.quiet_of_same (SG.out _)) | (go_at_call 43; exact Calls.quiet_of_same (MO.out _)))
        generalize hW2 : W.drewN _ = W2
        have g2 : Below W.heap.size W W2 := by rw [← hW2]; exact below_drewN (Below.refl _ _) _
        have B2 := Lib.hid (B1.out.trans (g2.mono B1.out.size))
        obtain ⟨c0, c1, c2, c3, c4⟩ := cells5 (low_of g2 X1.out)
        clear hW2 g2
        go_wp2_with fail
        exact FIN.out _ _ SH1.out.symm B2.out
    | false =>
      have SH := Lib.hid (SH.out.trans (if_neg (by intro e; cases e.1)))
      by_cases hq : q < 1
      · have SH1 := Lib.hid (SH.out.trans (if_pos ⟨rfl, .inl hq⟩))
        have t3 : decide (q < 1) = true := by simp [hq]
        clear hq
        go_upto_region 4 with fail
        go_quiet (first | (go_at_call 66; exact Calls.quiet_of_same (SG.out _)) | (go_at_call 43; exact Calls.quiet_of_same (MO.out _)))
        generalize hW2 : W.drewN _ = W2
        have g2 : Below W.heap.size W W2 := by rw [← hW2]; exact below_drewN (Below.refl _ _) _
        have B2 := Lib.hid (B1.out.trans (g2.mono B1.out.size))
        obtain ⟨c0, c1, c2, c3, c4⟩ := cells5 (low_of g2 X1.out)
        clear hW2 g2
        go_wp2_with fail
        exact FIN.out _ _ SH1.out.symm B2.out
      · have t3 : decide (q < 1) = false := by simp [hq]
        by_cases hm : M < q
        · have SH1 := Lib.hid (SH.out.trans (if_pos ⟨rfl, .inr hm⟩))
          have t4 : decide (M < q) = true := by simp [hm]
          clear hm hq
          go_upto_region 4 with fail
          go_quiet (first | (go_at_call 66; exact Calls.quiet_of_same (SG.out _)) | (go_at_call 43; exact Calls.quiet_of_same (MO.out _)))
          generalize hW2 : W.drewN _ = W2
          have g2 : Below W.heap.size W W2 := by rw [← hW2]; exact below_drewN (Below.refl _ _) _
          have B2 := Lib.hid (B1.out.trans (g2.mono B1.out.size))
          obtain ⟨c0, c1, c2, c3, c4⟩ := cells5 (low_of g2 X1.out)
          clear hW2 g2
          go_wp2_with fail
          exact FIN.out _ _ SH1.out.symm B2.out
        · have t4 : decide (M < q) = false := by simp [hm]
          have SHT := Lib.hid (SH.out.trans (if_neg (by intro e; rcases e.2 with e | e <;> omega)))
          clear hm hq
          go_upto_region 4 with fail
          go_quiet (first | (go_at_call 66; exact Calls.quiet_of_same (SG.out _)) | (go_at_call 43; exact Calls.quiet_of_same (MO.out _)))
          generalize hW2 : W.drewN _ = W2
          have g2 : Below W.heap.size W W2 := by rw [← hW2]; exact below_drewN (Below.refl _ _) _
          have B2 := Lib.hid (B1.out.trans (g2.mono B1.out.size))
          obtain ⟨c0, c1, c2, c3, c4⟩ := cells5 (low_of g2 X1.out)
          clear hW2 g2
          have BT := Lib.hid (BT.out W2 B2.out)
          by_cases h5 : fc = 5
          · have e5 : (fc == 5) = true := by simp [h5]
            have SH2 := Lib.hid (SHT.out.trans (if_pos h5))
            clear h5
            by_cases hl : vn = 1
            · have t1 : ((vn : Int) == 1) = true := by simp [hl]
              have SH3 : Hid (sh = al) := Lib.hid (by rw [SH2.out]; simp [hl])
              clear hl
              go_wp2_with fail
              refine BT.out.mono ?_
              rintro e w5 ⟨rfl, rfl⟩
              go_wp2_with fail
              exact FIN.out _ _ SH3.out.symm B2.out
            · have t1 : ((vn : Int) == 1) = false := by simp [hl] <;> omega
              have SH3 : Hid (sh = false) := Lib.hid (by rw [SH2.out]; simp [hl])
              clear hl
              go_wp2_with fail
              exact FIN.out _ _ SH3.out.symm B2.out
          have e5 : (fc == 5) = false := by simp [h5]
          have SHT := Lib.hid (SHT.out.trans (if_neg h5))
          clear h5
          by_cases h6 : fc = 6
          · have e6 : (fc == 6) = true := by simp [h6]
            have SH2 := Lib.hid (SHT.out.trans (if_pos h6))
            clear h6
            by_cases hl : vn = 1
            · have t1 : ((vn : Int) == 1) = true := by simp [hl]
              have SH3 : Hid (sh = true) := Lib.hid (by rw [SH2.out]; simp [hl])
              clear hl
              go_wp2_with fail
              exact FIN.out _ _ SH3.out.symm B2.out
            · have t1 : ((vn : Int) == 1) = false := by simp [hl] <;> omega
              have SH3 : Hid (sh = false) := Lib.hid (by rw [SH2.out]; simp [hl])
              clear hl
              go_wp2_with fail
              exact FIN.out _ _ SH3.out.symm B2.out
          have e6 : (fc == 6) = false := by simp [h6]
          have SHT := Lib.hid (SHT.out.trans (if_neg h6))
          clear h6
          by_cases h15 : fc = 15
          · have e15 : (fc == 15) = true := by simp [h15]
            have SH2 := Lib.hid (SHT.out.trans (if_pos h15))
            clear h15
            by_cases hl : (vn : Int) = q
            · have t1 : ((vn : Int) == q) = true := by simp [hl]
              have SH3 : Hid (sh = al) := Lib.hid (by rw [SH2.out]; simp [hl])
              clear hl
              go_wp2_with fail
              refine BT.out.mono ?_
              rintro e w5 ⟨rfl, rfl⟩
              go_wp2_with fail
              exact FIN.out _ _ SH3.out.symm B2.out
            · have t1 : ((vn : Int) == q) = false := by simp [hl] <;> omega
              have SH3 : Hid (sh = false) := Lib.hid (by rw [SH2.out]; simp [hl])
              clear hl
              go_wp2_with fail
              exact FIN.out _ _ SH3.out.symm B2.out
          have e15 : (fc == 15) = false := by simp [h15]
          have SHT := Lib.hid (SHT.out.trans (if_neg h15))
          clear h15
          by_cases h16 : fc = 16
          · have e16 : (fc == 16) = true := by simp [h16]
            have SH2 := Lib.hid (SHT.out.trans (if_pos h16))
            clear h16
            by_cases hl : (vn : Int) = q
            · have t1 : ((vn : Int) == q) = true := by simp [hl]
              have SH3 : Hid (sh = true) := Lib.hid (by rw [SH2.out]; simp [hl])
              clear hl
              go_wp2_with fail
              exact FIN.out _ _ SH3.out.symm B2.out
            · have t1 : ((vn : Int) == q) = false := by simp [hl] <;> omega
              have SH3 : Hid (sh = false) := Lib.hid (by rw [SH2.out]; simp [hl])
              clear hl
              go_wp2_with fail
              exact FIN.out _ _ SH3.out.symm B2.out
          have e16 : (fc == 16) = false := by simp [h16]
          have SHT := Lib.hid (SHT.out.trans (if_neg h16))
          clear h16
          by_cases h22 : fc = 22
          · have e22 : (fc == 22) = true := by simp [h22]
            have SH2 := Lib.hid (SHT.out.trans (if_pos h22))
            clear h22
            by_cases hl : vn = 2
            · have t1 : ((vn : Int) == 2) = true := by simp [hl]
              have SH3 : Hid (sh = true) := Lib.hid (by rw [SH2.out]; simp [hl])
              clear hl
              go_wp2_with fail
              exact FIN.out _ _ SH3.out.symm B2.out
            · have t1 : ((vn : Int) == 2) = false := by simp [hl] <;> omega
              have SH3 : Hid (sh = false) := Lib.hid (by rw [SH2.out]; simp [hl])
              clear hl
              go_wp2_with fail
              exact FIN.out _ _ SH3.out.symm B2.out
          have e22 : (fc == 22) = false := by simp [h22]
          have SHT := Lib.hid (SHT.out.trans (if_neg h22))
          clear h22
          by_cases h23 : fc = 23
          · have e23 : (fc == 23) = true := by simp [h23]
            have SH2 := Lib.hid (SHT.out.trans (if_pos h23))
            clear h23
            by_cases hl : 1 ≤ vn
            · have t1 : (1 : Int) ≤ (vn : Int) := by omega
              by_cases hm : vn ≤ 121
              · have t2 : (vn : Int) ≤ 121 := by omega
                have SH3 : Hid (sh = true) := Lib.hid (by rw [SH2.out]; simp [hl, hm])
                clear hl hm
                go_wp2_with fail
                exact FIN.out _ _ SH3.out.symm B2.out
              · have t2 : ¬ (vn : Int) ≤ 121 := by omega
                have SH3 : Hid (sh = false) := Lib.hid (by rw [SH2.out]; simp [hm])
                clear hl hm
                go_wp2_with fail
                exact FIN.out _ _ SH3.out.symm B2.out
            · have t1 : ¬ (1 : Int) ≤ (vn : Int) := by omega
              have SH3 : Hid (sh = false) := Lib.hid (by rw [SH2.out]; simp [hl])
              clear hl
              go_wp2_with fail
              exact FIN.out _ _ SH3.out.symm B2.out
          have e23 : (fc == 23) = false := by simp [h23]
          have SHT := Lib.hid (SHT.out.trans (if_neg h23))
          clear h23
          have SH2 := SHT
          by_cases hl : vn = 0
          · have t1 : ((vn : Int) == 0) = true := by simp [hl]
            have SH3 : Hid (sh = true) := Lib.hid (by rw [SH2.out]; simp [hl])
            clear hl
            go_wp2_with fail
            exact FIN.out _ _ SH3.out.symm B2.out
          · have t1 : ((vn : Int) == 0) = false := by simp [hl] <;> omega
            have SH3 : Hid (sh = false) := Lib.hid (by rw [SH2.out]; simp [hl])
            clear hl
            go_wp2_with fail
            exact FIN.out _ _ SH3.out.symm B2.out
end Go.Proofs.Ytdolgpogjnfpkaa
