/- The walk of QueuePlays. -/
import Derived.Test.YtbonifmhlbakbaaP0
namespace Go.Proofs.Ytbonifmhlbakbaa
set_option linter.unusedVariables false
open Go.ChangeShapes Go.WideShapes Go.ChangeAt Go.RowKit Go.Conc

theorem kept_trans {cu co : Nat} {a b c : World} (h : Kept cu co a b) (h' : Kept cu co b c) : Kept cu co a c := ⟨h'.1.trans h.1, fun k h1 h2 => (h'.2 k h1 h2).trans (h.2 k h1 h2)⟩

theorem take2_n {B : Nat} {w : World} {d cu co n : Nat} (h : Q B w d cu co n [] []) :
    Calls Try.prog 11 #[.pointer (some ⟨d, 0, none⟩)] w fun e w' => e = .returned (.tuple #[.int .i64 0, .bool false]) ∧ w = w' := by
  obtain ⟨s, r, hk⟩ := h.ku
  obtain ⟨s', r', hk'⟩ := h.ko
  refine (take_int_n d cu co n s r s' r' #[] 0 w h.c0 h.c1 hk hk').mono ?_
  rintro e w' ⟨rfl, rfl⟩
  exact ⟨rfl, rfl⟩

set_option maxRecDepth 100000 in
theorem drain2 {B : Nat} {w : World} {d cu co n : Nat} {U O : List Int} (h : Q B w d cu co n (U.map iv) (O.map iv)) (hn : n ≤ 64) :
    Calls Try.prog 13 #[.pointer (some ⟨d, 0, none⟩)] w fun e w' => e = .returned (.int .i64 ((U.length + O.length : Nat))) ∧ Q B w' d cu co n [] [] ∧ Below B w w' ∧ Kept cu co w w' := by
  obtain ⟨t, ht⟩ : ∃ t, t = U.length + O.length := ⟨_, rfl⟩
  have htb : t ≤ 128 := by have := h.lu; have := h.lo; simp at *; omega
  rw [← ht]
  have H := Lib.hid h
  have HT := Lib.hid ht
  clear h ht
  go_enter Try.func13, Try.ntmps13
  go_wp2_with fail
  go_loopw [3] (fun i wr => ∃ (X Y : List Int) (k : Nat), k + (X.length + Y.length) = t ∧ i = .int .i64 k ∧ Q B wr d cu co n (X.map iv) (Y.map iv) ∧ Below B w wr ∧ Kept cu co w wr) (fun i _ => t - (intOf i).toNat)
  case atStart => exact ⟨U, O, 0, by rw [HT.out]; omega, rfl, H.out, Below.refl _ _, kept_refl ..⟩
  case round =>
    obtain ⟨X, Y, k, hk, rfl, hq, hb, hkp⟩ := hrel
    have HB := Lib.hid hb
    have HQ := Lib.hid hq
    have HKP := Lib.hid hkp
    clear hb hq hkp
    cases X with
    | cons x X =>
      have hk' : k + 1 + (X.length + Y.length) = t := by simp at hk; omega
      have hkt : k < t := by omega
      have HK := Lib.hid hk'
      clear hk hk'
      go_wp2_with fail
      refine (take2_u x (h := HQ.out)).mono ?_
      rintro e w1 ⟨rfl, hq1, hb1, hk1⟩
      have HQ1 := Lib.hid hq1
      have HB1 := Lib.hid hb1
      have HK1 := Lib.hid hk1
      clear hq1 hb1 hk1
      go_wp2_with fail
      go_roundw
      case rel => exact ⟨X, Y, k + 1, HK.out, by go_num, HQ1.out, HB.out.trans HB1.out, kept_trans HKP.out HK1.out⟩
      case measure => simp [intOf]; omega
    | nil =>
      cases Y with
      | cons x Y =>
        have hk' : k + 1 + (([] : List Int).length + Y.length) = t := by simp at hk ⊢; omega
        have hkt : k < t := by omega
        have HK := Lib.hid hk'
        clear hk hk'
        go_wp2_with fail
        refine (take2_o x (h := HQ.out)).mono ?_
        rintro e w1 ⟨rfl, hq1, hb1, hk1⟩
        have HQ1 := Lib.hid hq1
        have HB1 := Lib.hid hb1
        have HK1 := Lib.hid hk1
        clear hq1 hb1 hk1
        go_wp2_with fail
        go_roundw
        case rel => exact ⟨[], Y, k + 1, HK.out, by go_num, HQ1.out, HB.out.trans HB1.out, kept_trans HKP.out HK1.out⟩
        case measure => simp [intOf]; omega
      | nil =>
        have hk' : k = t := by simpa using hk
        subst hk'
        clear hk
        go_wp2_with fail
        refine (take2_n (h := HQ.out)).mono ?_
        rintro e w1 ⟨rfl, rfl⟩
        go_wp2_with fail
        go_ret
        exact ⟨rfl, HQ.out, HB.out, HKP.out⟩

/-- What is known between two rounds: both queues have the same. -/
structure Pl (B0 B1 : Nat) (W w : World) (d cu co r m : Nat) (X Y : List Int) : Prop where
  q : Q B0 w d cu co m (X.map iv) (Y.map iv)
  rq : ∃ vu vo, RQ B1 w r m vu vo X Y
  low : Below W.heap.size W w

set_option maxRecDepth 100000 in
set_option maxHeartbeats 8000000 in
theorem plays_walk (most : Int) (a : Option Addr) (len cap : Nat) (g : Nat → Opn) (w : World) (h : Sl w a len g) :
    Calls Try.prog 3 #[.int .i64 most, .slice a len cap] w fun e w' => e = .returned (.bool true) ∧ Below w.heap.size w w' := by
  have hl := h.1.le
  unfold maxLen at hl
  have H := Lib.hid h
  clear h
  go_enter Try.func3, Try.ntmps3
  go_wp2_with fail
  refine (head_any w).mono ?_
  rintro e w0 ⟨rfl, hb⟩
  have B0 := Lib.hid hb
  have hs0 := hb.size
  clear hb
  go_wp2_with fail
  refine (new_int most w0).mono ?_
  rintro e w1 ⟨d, cu, co, rfl, q, b⟩
  have hd1 := q.dlt
  have hu1 := q.ult
  have ho1 := q.olt
  have hs1 : w0.heap.size ≤ w1.heap.size := b.size
  have Q1 := Lib.hid q
  have B1 := Lib.hid (B0.out.trans (b.mono hs0))
  clear q b
  go_wp2_with fail
  refine (rnew most w1).mono ?_
  rintro e w1' ⟨rfl, hr, hb⟩
  obtain ⟨m, hm⟩ : ∃ m, m = cl most := ⟨_, rfl⟩
  have hm64 : m ≤ 64 := by rw [hm]; exact (cl_bd most).2
  have q1 := Q1.out.below hb
  rw [← hm] at hr q1
  clear hm Q1
  have hP0 : Pl w0.heap.size w1.heap.size w w1' d cu co w1.heap.size m [] [] := ⟨q1, ⟨_, _, hr⟩, B1.out.trans (hb.mono B1.out.size)⟩
  have HP0 := Lib.hid hP0
  have hs1' := hb.size
  clear hP0 q1 hr hb
  by_cases h5 : 1000 < len
  · have d1 : decide (1000 < (len : Int)) = true := by simp; omega
    go_wp2_with fail
    go_ret
    exact ⟨rfl, HP0.out.low⟩
  have d1 : decide (1000 < (len : Int)) = false := by simp; omega
  go_wp2_with fail
  generalize hrr : w1.heap.size = r at *
  have hrd : d < r := hd1
  go_loopw [8] (fun i wr => ∃ (k : Nat) (X Y : List Int), k ≤ len ∧ i = .int .i64 k ∧ Pl w0.heap.size r w wr d cu co r m X Y) (fun i _ => len - (intOf i).toNat)
  case atStart => exact ⟨0, [], [], Nat.zero_le _, rfl, HP0.out⟩
  case round =>
    obtain ⟨k, X, Y, hk, rfl, hP⟩ := hrel
    obtain ⟨w2, hw2⟩ : ∃ w2, w2 = wr := ⟨_, rfl⟩
    subst hw2
    have HP := Lib.hid hP
    clear hP
    by_cases hlt : k < len
    · obtain ⟨b, off, rfl, hlt', hcs⟩ := (H.out.1.below HP.out.low).pos (by omega)
      have c0 : w2.cell? ⟨b, off + k * 3, none⟩ = some (.int .i64 (g k).1) := hcs k hlt 0 (by omega)
      have c1 : w2.cell? ⟨b, off + k * 3 + 1, none⟩ = some (.bool (g k).2.1) := hcs k hlt 1 (by omega)
      have c2 : w2.cell? ⟨b, off + k * 3 + 2, none⟩ = some (.int .i64 (g k).2.2) := hcs k hlt 2 (by omega)
      clear hcs
      generalize (g k).1 = wh at c0
      generalize (g k).2.1 = ur at c1
      generalize (g k).2.2 = xx at c2
      obtain ⟨hq, ⟨vu, vo, hrq⟩, hlow⟩ := HP.out
      have hdq := hq.dlt
      have huq := hq.ult
      have hoq := hq.olt
      have HQ : ∀ ob, Q w0.heap.size (w2.alloc ob) d cu co m (X.map iv) (Y.map iv) := fun ob => hq.below ((Below.refl _ _).alloc (Nat.le_refl _) _)
      have HRQ : ∀ ob, RQ r (w2.alloc ob) r m vu vo X Y := fun ob => hrq.below ((Below.refl _ _).alloc (Nat.le_refl _) _)
      have HLW : ∀ ob, Below w.heap.size w (w2.alloc ob) := fun ob => hlow.alloc hlow.size _
      have HQ := Lib.hid HQ
      have HRQ := Lib.hid HRQ
      have HLW := Lib.hid HLW
      clear hq hrq hlow HP
      by_cases h3 : wh = 3
      · subst h3
        cases X with
        | cons x X =>
          go_wp2_with fail
          refine (take2_u x (HQ.out _)).mono ?_
          rintro e w3 ⟨rfl, hq3, hb3, hk3⟩
          have hr3 := (HRQ.out _).kept hk3 hu1 ho1
          have hl3 := (HLW.out _).trans (hb3.mono hs0)
          have HQ3 := Lib.hid hq3
          have HR3 := Lib.hid hr3
          have HL3 := Lib.hid hl3
          clear hq3 hb3 hk3 hr3 hl3 HQ HRQ HLW c0 c1 c2
          go_wp2_with fail
          refine (rtake_u x X HR3.out hm64).mono ?_
          rintro e w4 ⟨rfl, ⟨v4, hr4⟩, hb4⟩
          have HP5 : Hid (Pl w0.heap.size r w w4 d cu co r m X Y) := Lib.hid ⟨HQ3.out.below' hb4 hd1 hu1 ho1, ⟨_, _, hr4⟩, HL3.out.trans (hb4.mono (by omega))⟩
          clear hr4 hb4 HQ3 HR3 HL3
          go_wp2_with fail
          refine (many_int HP5.out.q).mono ?_
          rintro e w6 ⟨rfl, b6⟩
          have hp6 : Pl w0.heap.size r w w6 d cu co r m X Y := by
            obtain ⟨q5, ⟨vu5, vo5, r5⟩, l5⟩ := HP5.out
            exact ⟨q5.below b6, ⟨vu5, vo5, r5.below b6⟩, l5.trans (b6.mono l5.size)⟩
          have HP6 := Lib.hid hp6
          clear hp6 b6 HP5
          try rw [List.length_map, List.length_map]
          obtain ⟨vu6, vo6, hr6⟩ := HP6.out.rq
          have HR6 := Lib.hid hr6
          clear hr6
          go_wp2_with fail
          refine (rmany HR6.out).mono ?_
          rintro e w7 ⟨rfl, b7⟩
          have hp7 : Pl w0.heap.size r w w7 d cu co r m X Y := by
            obtain ⟨q5, ⟨vu5, vo5, r5⟩, l5⟩ := HP6.out
            exact ⟨q5.below b7, ⟨vu5, vo5, r5.below b7⟩, l5.trans (b7.mono l5.size)⟩
          have HP7 := Lib.hid hp7
          clear hp7 b7 HP6 HR6
          go_wp2_with fail
          go_roundw
          case rel => exact ⟨k + 1, X, Y, by omega, by go_num, HP7.out⟩
          case measure => simp [intOf]; omega
        | nil =>
          cases Y with
          | cons x Y =>
            go_wp2_with fail
            refine (take2_o x (HQ.out _)).mono ?_
            rintro e w3 ⟨rfl, hq3, hb3, hk3⟩
            have hr3 := (HRQ.out _).kept hk3 hu1 ho1
            have hl3 := (HLW.out _).trans (hb3.mono hs0)
            have HQ3 := Lib.hid hq3
            have HR3 := Lib.hid hr3
            have HL3 := Lib.hid hl3
            clear hq3 hb3 hk3 hr3 hl3 HQ HRQ HLW c0 c1 c2
            go_wp2_with fail
            refine (rtake_o x Y HR3.out hm64).mono ?_
            rintro e w4 ⟨rfl, ⟨v4, hr4⟩, hb4⟩
            have HP5 : Hid (Pl w0.heap.size r w w4 d cu co r m [] Y) := Lib.hid ⟨HQ3.out.below' hb4 hd1 hu1 ho1, ⟨_, _, hr4⟩, HL3.out.trans (hb4.mono (by omega))⟩
            clear hr4 hb4 HQ3 HR3 HL3
            go_wp2_with fail
            refine (many_int HP5.out.q).mono ?_
            rintro e w6 ⟨rfl, b6⟩
            have hp6 : Pl w0.heap.size r w w6 d cu co r m [] Y := by
              obtain ⟨q5, ⟨vu5, vo5, r5⟩, l5⟩ := HP5.out
              exact ⟨q5.below b6, ⟨vu5, vo5, r5.below b6⟩, l5.trans (b6.mono l5.size)⟩
            have HP6 := Lib.hid hp6
            clear hp6 b6 HP5
            try rw [List.length_map, List.length_map]
            obtain ⟨vu6, vo6, hr6⟩ := HP6.out.rq
            have HR6 := Lib.hid hr6
            clear hr6
            go_wp2_with fail
            refine (rmany HR6.out).mono ?_
            rintro e w7 ⟨rfl, b7⟩
            have hp7 : Pl w0.heap.size r w w7 d cu co r m [] Y := by
              obtain ⟨q5, ⟨vu5, vo5, r5⟩, l5⟩ := HP6.out
              exact ⟨q5.below b7, ⟨vu5, vo5, r5.below b7⟩, l5.trans (b7.mono l5.size)⟩
            have HP7 := Lib.hid hp7
            clear hp7 b7 HP6 HR6
            go_wp2_with fail
            go_roundw
            case rel => exact ⟨k + 1, [], Y, by omega, by go_num, HP7.out⟩
            case measure => simp [intOf]; omega
          | nil =>
            go_wp2_with fail
            refine (take2_n (HQ.out _)).mono ?_
            rintro e w3 ⟨rfl, rfl⟩
            go_wp2_with fail
            refine (rtake_n (HRQ.out _)).mono ?_
            rintro e w4 ⟨rfl, rfl⟩
            have HP5 := Lib.hid (show Pl w0.heap.size r w _ d cu co r m [] [] from ⟨HQ.out _, ⟨_, _, HRQ.out _⟩, HLW.out (.cells #[.int .i64 3, .bool ur, .int .i64 xx] 29 (0, 0))⟩)
            clear HQ HRQ HLW c0 c1 c2
            go_wp2_with fail
            refine (many_int HP5.out.q).mono ?_
            rintro e w6 ⟨rfl, b6⟩
            have hp6 : Pl w0.heap.size r w w6 d cu co r m [] [] := by
              obtain ⟨q5, ⟨vu5, vo5, r5⟩, l5⟩ := HP5.out
              exact ⟨q5.below b6, ⟨vu5, vo5, r5.below b6⟩, l5.trans (b6.mono l5.size)⟩
            have HP6 := Lib.hid hp6
            clear hp6 b6 HP5
            try rw [List.length_map, List.length_map]
            obtain ⟨vu6, vo6, hr6⟩ := HP6.out.rq
            have HR6 := Lib.hid hr6
            clear hr6
            go_wp2_with fail
            refine (rmany HR6.out).mono ?_
            rintro e w7 ⟨rfl, b7⟩
            have hp7 : Pl w0.heap.size r w w7 d cu co r m [] [] := by
              obtain ⟨q5, ⟨vu5, vo5, r5⟩, l5⟩ := HP6.out
              exact ⟨q5.below b7, ⟨vu5, vo5, r5.below b7⟩, l5.trans (b7.mono l5.size)⟩
            have HP7 := Lib.hid hp7
            clear hp7 b7 HP6 HR6
            go_wp2_with fail
            go_roundw
            case rel => exact ⟨k + 1, [], [], by omega, by go_num, HP7.out⟩
            case measure => simp [intOf]; omega
      · have e3 : (wh == 3) = false := by simpa using h3
        by_cases h4 : wh = 4
        · subst h4
          cases X with
          | cons x X =>
            go_wp2_with fail
            refine (take2_u x (HQ.out _)).mono ?_
            rintro e w3 ⟨rfl, hq3, hb3, hk3⟩
            have hr3 := (HRQ.out _).kept hk3 hu1 ho1
            have hl3 := (HLW.out _).trans (hb3.mono hs0)
            have HQ3 := Lib.hid hq3
            have HR3 := Lib.hid hr3
            have HL3 := Lib.hid hl3
            clear hq3 hb3 hk3 hr3 hl3 HQ HRQ HLW c0 c1 c2
            go_wp2_with fail
            refine (rtake_u x X HR3.out hm64).mono ?_
            rintro e w4 ⟨rfl, ⟨v4, hr4⟩, hb4⟩
            have HP5 : Hid (Pl w0.heap.size r w w4 d cu co r m X Y) := Lib.hid ⟨HQ3.out.below' hb4 hd1 hu1 ho1, ⟨_, _, hr4⟩, HL3.out.trans (hb4.mono (by omega))⟩
            clear hr4 hb4 HQ3 HR3 HL3
            go_wp2_with fail
            refine (many_int HP5.out.q).mono ?_
            rintro e w6 ⟨rfl, b6⟩
            have hp6 : Pl w0.heap.size r w w6 d cu co r m X Y := by
              obtain ⟨q5, ⟨vu5, vo5, r5⟩, l5⟩ := HP5.out
              exact ⟨q5.below b6, ⟨vu5, vo5, r5.below b6⟩, l5.trans (b6.mono l5.size)⟩
            have HP6 := Lib.hid hp6
            clear hp6 b6 HP5
            try rw [List.length_map, List.length_map]
            obtain ⟨vu6, vo6, hr6⟩ := HP6.out.rq
            have HR6 := Lib.hid hr6
            clear hr6
            go_wp2_with fail
            refine (rmany HR6.out).mono ?_
            rintro e w7 ⟨rfl, b7⟩
            have hp7 : Pl w0.heap.size r w w7 d cu co r m X Y := by
              obtain ⟨q5, ⟨vu5, vo5, r5⟩, l5⟩ := HP6.out
              exact ⟨q5.below b7, ⟨vu5, vo5, r5.below b7⟩, l5.trans (b7.mono l5.size)⟩
            have HP7 := Lib.hid hp7
            clear hp7 b7 HP6 HR6
            go_wp2_with fail
            go_roundw
            case rel => exact ⟨k + 1, X, Y, by omega, by go_num, HP7.out⟩
            case measure => simp [intOf]; omega
          | nil =>
            cases Y with
            | cons x Y =>
              go_wp2_with fail
              refine (take2_o x (HQ.out _)).mono ?_
              rintro e w3 ⟨rfl, hq3, hb3, hk3⟩
              have hr3 := (HRQ.out _).kept hk3 hu1 ho1
              have hl3 := (HLW.out _).trans (hb3.mono hs0)
              have HQ3 := Lib.hid hq3
              have HR3 := Lib.hid hr3
              have HL3 := Lib.hid hl3
              clear hq3 hb3 hk3 hr3 hl3 HQ HRQ HLW c0 c1 c2
              go_wp2_with fail
              refine (rtake_o x Y HR3.out hm64).mono ?_
              rintro e w4 ⟨rfl, ⟨v4, hr4⟩, hb4⟩
              have HP5 : Hid (Pl w0.heap.size r w w4 d cu co r m [] Y) := Lib.hid ⟨HQ3.out.below' hb4 hd1 hu1 ho1, ⟨_, _, hr4⟩, HL3.out.trans (hb4.mono (by omega))⟩
              clear hr4 hb4 HQ3 HR3 HL3
              go_wp2_with fail
              refine (many_int HP5.out.q).mono ?_
              rintro e w6 ⟨rfl, b6⟩
              have hp6 : Pl w0.heap.size r w w6 d cu co r m [] Y := by
                obtain ⟨q5, ⟨vu5, vo5, r5⟩, l5⟩ := HP5.out
                exact ⟨q5.below b6, ⟨vu5, vo5, r5.below b6⟩, l5.trans (b6.mono l5.size)⟩
              have HP6 := Lib.hid hp6
              clear hp6 b6 HP5
              try rw [List.length_map, List.length_map]
              obtain ⟨vu6, vo6, hr6⟩ := HP6.out.rq
              have HR6 := Lib.hid hr6
              clear hr6
              go_wp2_with fail
              refine (rmany HR6.out).mono ?_
              rintro e w7 ⟨rfl, b7⟩
              have hp7 : Pl w0.heap.size r w w7 d cu co r m [] Y := by
                obtain ⟨q5, ⟨vu5, vo5, r5⟩, l5⟩ := HP6.out
                exact ⟨q5.below b7, ⟨vu5, vo5, r5.below b7⟩, l5.trans (b7.mono l5.size)⟩
              have HP7 := Lib.hid hp7
              clear hp7 b7 HP6 HR6
              go_wp2_with fail
              go_roundw
              case rel => exact ⟨k + 1, [], Y, by omega, by go_num, HP7.out⟩
              case measure => simp [intOf]; omega
            | nil =>
              go_wp2_with fail
              refine (take2_n (HQ.out _)).mono ?_
              rintro e w3 ⟨rfl, rfl⟩
              go_wp2_with fail
              refine (rtake_n (HRQ.out _)).mono ?_
              rintro e w4 ⟨rfl, rfl⟩
              have HP5 := Lib.hid (show Pl w0.heap.size r w _ d cu co r m [] [] from ⟨HQ.out _, ⟨_, _, HRQ.out _⟩, HLW.out (.cells #[.int .i64 4, .bool ur, .int .i64 xx] 29 (0, 0))⟩)
              clear HQ HRQ HLW c0 c1 c2
              go_wp2_with fail
              refine (many_int HP5.out.q).mono ?_
              rintro e w6 ⟨rfl, b6⟩
              have hp6 : Pl w0.heap.size r w w6 d cu co r m [] [] := by
                obtain ⟨q5, ⟨vu5, vo5, r5⟩, l5⟩ := HP5.out
                exact ⟨q5.below b6, ⟨vu5, vo5, r5.below b6⟩, l5.trans (b6.mono l5.size)⟩
              have HP6 := Lib.hid hp6
              clear hp6 b6 HP5
              try rw [List.length_map, List.length_map]
              obtain ⟨vu6, vo6, hr6⟩ := HP6.out.rq
              have HR6 := Lib.hid hr6
              clear hr6
              go_wp2_with fail
              refine (rmany HR6.out).mono ?_
              rintro e w7 ⟨rfl, b7⟩
              have hp7 : Pl w0.heap.size r w w7 d cu co r m [] [] := by
                obtain ⟨q5, ⟨vu5, vo5, r5⟩, l5⟩ := HP6.out
                exact ⟨q5.below b7, ⟨vu5, vo5, r5.below b7⟩, l5.trans (b7.mono l5.size)⟩
              have HP7 := Lib.hid hp7
              clear hp7 b7 HP6 HR6
              go_wp2_with fail
              go_roundw
              case rel => exact ⟨k + 1, [], [], by omega, by go_num, HP7.out⟩
              case measure => simp [intOf]; omega
        · have e4 : (wh == 4) = false := by simpa using h4
          by_cases h5' : wh = 5
          · subst h5'
            go_wp2_with fail
            refine (drain2 (HQ.out _) hm64).mono ?_
            rintro e w3 ⟨rfl, hq3, hb3, hk3⟩
            have hr3 := (HRQ.out _).kept hk3 hu1 ho1
            have hl3 := (HLW.out _).trans (hb3.mono hs0)
            have HQ3 := Lib.hid hq3
            have HR3 := Lib.hid hr3
            have HL3 := Lib.hid hl3
            clear hq3 hb3 hk3 hr3 hl3 HQ HRQ HLW c0 c1 c2
            go_wp2_with fail
            refine (rdrain HR3.out hm64).mono ?_
            rintro e w4 ⟨rfl, hr4, hb4⟩
            have HP5 : Hid (Pl w0.heap.size r w w4 d cu co r m [] []) := Lib.hid ⟨HQ3.out.below' hb4 hd1 hu1 ho1, ⟨_, _, hr4⟩, HL3.out.trans (hb4.mono (by omega))⟩
            clear hr4 hb4 HQ3 HR3 HL3
            go_wp2_with fail
            refine (many_int HP5.out.q).mono ?_
            rintro e w6 ⟨rfl, b6⟩
            have hp6 : Pl w0.heap.size r w w6 d cu co r m [] [] := by
              obtain ⟨q5, ⟨vu5, vo5, r5⟩, l5⟩ := HP5.out
              exact ⟨q5.below b6, ⟨vu5, vo5, r5.below b6⟩, l5.trans (b6.mono l5.size)⟩
            have HP6 := Lib.hid hp6
            clear hp6 b6 HP5
            try rw [List.length_map, List.length_map]
            obtain ⟨vu6, vo6, hr6⟩ := HP6.out.rq
            have HR6 := Lib.hid hr6
            clear hr6
            go_wp2_with fail
            refine (rmany HR6.out).mono ?_
            rintro e w7 ⟨rfl, b7⟩
            have hp7 : Pl w0.heap.size r w w7 d cu co r m [] [] := by
              obtain ⟨q5, ⟨vu5, vo5, r5⟩, l5⟩ := HP6.out
              exact ⟨q5.below b7, ⟨vu5, vo5, r5.below b7⟩, l5.trans (b7.mono l5.size)⟩
            have HP7 := Lib.hid hp7
            clear hp7 b7 HP6 HR6
            go_wp2_with fail
            go_roundw
            case rel => exact ⟨k + 1, [], [], by omega, by go_num, HP7.out⟩
            case measure => simp [intOf]; omega
          · have e5 : (wh == 5) = false := by simpa using h5'
            cases ur
            · go_wp2_with fail
              refine (put2_o xx (HQ.out _)).mono ?_
              rintro e w3 ⟨rfl, hq3, hb3, hk3⟩
              rw [pushM_map] at hq3
              rw [room_map]
              have hr3 := (HRQ.out _).kept hk3 hu1 ho1
              have hl3 := (HLW.out _).trans (hb3.mono hs0)
              have hob := (hk3.2 w2.heap.size (by omega) (by omega)).trans (heap_alloc_new w2 _)
              have o1 : w3.cell? ⟨w2.heap.size, 1, none⟩ = some (.bool false) := by simp [World.cell?, hob]
              have o2 : w3.cell? ⟨w2.heap.size, 2, none⟩ = some (.int .i64 xx) := by simp [World.cell?, hob]
              have HQ3 := Lib.hid hq3
              have HR3 := Lib.hid hr3
              have HL3 := Lib.hid hl3
              clear hq3 hb3 hk3 hr3 hl3 hob HQ HRQ HLW c0 c1 c2
              go_wp2_with fail
              refine (rput_o xx HR3.out hm64).mono ?_
              rintro e w4 ⟨rfl, ⟨v4, hr4⟩, hb4⟩
              have HP5 : Hid (Pl w0.heap.size r w w4 d cu co r m X (pushM m Y xx)) := Lib.hid ⟨HQ3.out.below' hb4 hd1 hu1 ho1, ⟨_, _, hr4⟩, HL3.out.trans (hb4.mono (by omega))⟩
              clear hr4 hb4 HQ3 HR3 HL3 o1 o2
              generalize decide (Y.length < m) = rb
              go_wp2_with fail
              refine (many_int HP5.out.q).mono ?_
              rintro e w6 ⟨rfl, b6⟩
              have hp6 : Pl w0.heap.size r w w6 d cu co r m X (pushM m Y xx) := by
                obtain ⟨q5, ⟨vu5, vo5, r5⟩, l5⟩ := HP5.out
                exact ⟨q5.below b6, ⟨vu5, vo5, r5.below b6⟩, l5.trans (b6.mono l5.size)⟩
              have HP6 := Lib.hid hp6
              clear hp6 b6 HP5
              try rw [List.length_map, List.length_map]
              obtain ⟨vu6, vo6, hr6⟩ := HP6.out.rq
              have HR6 := Lib.hid hr6
              clear hr6
              go_wp2_with fail
              refine (rmany HR6.out).mono ?_
              rintro e w7 ⟨rfl, b7⟩
              have hp7 : Pl w0.heap.size r w w7 d cu co r m X (pushM m Y xx) := by
                obtain ⟨q5, ⟨vu5, vo5, r5⟩, l5⟩ := HP6.out
                exact ⟨q5.below b7, ⟨vu5, vo5, r5.below b7⟩, l5.trans (b7.mono l5.size)⟩
              have HP7 := Lib.hid hp7
              clear hp7 b7 HP6 HR6
              go_wp2_with fail
              go_roundw
              case rel => exact ⟨k + 1, X, (pushM m Y xx), by omega, by go_num, HP7.out⟩
              case measure => simp [intOf]; omega
            · go_wp2_with fail
              refine (put2_u xx (HQ.out _)).mono ?_
              rintro e w3 ⟨rfl, hq3, hb3, hk3⟩
              rw [pushM_map] at hq3
              rw [room_map]
              have hr3 := (HRQ.out _).kept hk3 hu1 ho1
              have hl3 := (HLW.out _).trans (hb3.mono hs0)
              have hob := (hk3.2 w2.heap.size (by omega) (by omega)).trans (heap_alloc_new w2 _)
              have o1 : w3.cell? ⟨w2.heap.size, 1, none⟩ = some (.bool true) := by simp [World.cell?, hob]
              have o2 : w3.cell? ⟨w2.heap.size, 2, none⟩ = some (.int .i64 xx) := by simp [World.cell?, hob]
              have HQ3 := Lib.hid hq3
              have HR3 := Lib.hid hr3
              have HL3 := Lib.hid hl3
              clear hq3 hb3 hk3 hr3 hl3 hob HQ HRQ HLW c0 c1 c2
              go_wp2_with fail
              refine (rput_u xx HR3.out hm64).mono ?_
              rintro e w4 ⟨rfl, ⟨v4, hr4⟩, hb4⟩
              have HP5 : Hid (Pl w0.heap.size r w w4 d cu co r m (pushM m X xx) Y) := Lib.hid ⟨HQ3.out.below' hb4 hd1 hu1 ho1, ⟨_, _, hr4⟩, HL3.out.trans (hb4.mono (by omega))⟩
              clear hr4 hb4 HQ3 HR3 HL3 o1 o2
              generalize decide (X.length < m) = rb
              go_wp2_with fail
              refine (many_int HP5.out.q).mono ?_
              rintro e w6 ⟨rfl, b6⟩
              have hp6 : Pl w0.heap.size r w w6 d cu co r m (pushM m X xx) Y := by
                obtain ⟨q5, ⟨vu5, vo5, r5⟩, l5⟩ := HP5.out
                exact ⟨q5.below b6, ⟨vu5, vo5, r5.below b6⟩, l5.trans (b6.mono l5.size)⟩
              have HP6 := Lib.hid hp6
              clear hp6 b6 HP5
              try rw [List.length_map, List.length_map]
              obtain ⟨vu6, vo6, hr6⟩ := HP6.out.rq
              have HR6 := Lib.hid hr6
              clear hr6
              go_wp2_with fail
              refine (rmany HR6.out).mono ?_
              rintro e w7 ⟨rfl, b7⟩
              have hp7 : Pl w0.heap.size r w w7 d cu co r m (pushM m X xx) Y := by
                obtain ⟨q5, ⟨vu5, vo5, r5⟩, l5⟩ := HP6.out
                exact ⟨q5.below b7, ⟨vu5, vo5, r5.below b7⟩, l5.trans (b7.mono l5.size)⟩
              have HP7 := Lib.hid hp7
              clear hp7 b7 HP6 HR6
              go_wp2_with fail
              go_roundw
              case rel => exact ⟨k + 1, (pushM m X xx), Y, by omega, by go_num, HP7.out⟩
              case measure => simp [intOf]; omega
    · have hk' : k = len := by omega
      subst hk'
      go_wp2_with fail
      go_ret
      exact ⟨rfl, HP.out.low⟩

end Go.Proofs.Ytbonifmhlbakbaa
