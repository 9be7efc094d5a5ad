/- PanelLoads. -/
import Derived.Test.YtedakoihlnokfaaK
namespace Go.Proofs.Ytedakoihlnokfaa
set_option linter.unusedVariables false
set_option linter.unusedSimpArgs false
open Go.ChangeShapes Go.WideShapes Go.ChangeAt Go.RowKit

theorem take_snocI (F : List Int) (k : Nat) (h : k < F.length) : F.take (k + 1) = F.take k ++ [F.getD k 0] := by
  rw [List.take_succ_eq_append_getElem h]
  simp [List.getD, List.getElem?_eq_getElem h]
def fb (m n : Nat) (L : List Int) (k : Nat) : Bool := decide (m = n) && !(L.take k).any badS
theorem fb_succ {m n : Nat} {L : List Int} {k : Nat} (h : k < L.length) : fb m n L (k + 1) = (fb m n L k && !badS (L.getD k 0)) := by
  unfold fb
  rw [take_snocI L k h, List.any_append]
  cases decide (m = n) <;> simp
theorem hornZ_3 (s : Int) : hornZ s = 0 ∨ hornZ s = 1 ∨ hornZ s = 2 := by
  unfold hornZ
  split
  · rename_i h
    rcases of9 h with rfl | rfl | rfl | rfl | rfl | rfl | rfl | rfl | rfl <;> decide
  · exact .inl rfl
def wantP (L : List Int) : Int := hornP false false L
theorem wantP_snoc (T : List Int) (s : Int) : wantP (T ++ [s]) = if hornZ s = 1 ∨ wantP T = 0 then hornZ s else wantP T := by
  unfold wantP hornP
  simp only [Bool.false_eq_true, if_false, List.map_append, List.map_cons, List.map_nil, List.any_append, List.any_cons, List.any_nil, Bool.or_false]
  rcases hornZ_3 s with h | h | h <;> rw [h] <;> cases (T.map hornZ).any (fun x => (1 : Int) == x) <;> cases (T.map hornZ).any (fun x => (2 : Int) == x) <;> decide
def LoadsP (w : World) (e : Ending) (w' : World) : Prop := e = .returned (.bool true) ∧ Below w.heap.size w w'
theorem ir_rep {w : World} {g n : Nat} (h : w.heap[g]? = some (.cells (iv (List.replicate n 0)).toArray 3 (0, 0))) (hn : n ≤ 64) : Ir w (some ⟨g, 0, none⟩) n (List.replicate n 0) := rowP_ir h (by simp) hn (rep_9 n)
set_option maxRecDepth 100000 in
set_option maxHeartbeats 8000000 in
theorem loads_any (a : Option Addr) (n c : Nat) (K : List Int) (la : Option Addr) (m cap : Nat) (L : List Int) (tt : Bool) (w : World) (hK : ArgI w a n c K) (hL : ArgI w la m cap L) :
    Calls Try.prog 4 #[.slice a n c, .slice la m cap, .bool tt] w (LoadsP w) := by
  obtain ⟨P, hP⟩ : ∃ P, P = (LoadsP w : Ending → World → Prop) := ⟨_, rfl⟩
  rw [← hP]
  have HP := Lib.hid hP
  have HK := Lib.hid hK
  have HL := Lib.hid hL
  have hl := hL.row.le
  have hlm := hL.row.ln
  have hn1 := hK.row.le
  unfold maxLen at hl hn1
  have HLN := Lib.hid hK.row.ln
  have HLM := Lib.hid hlm
  clear hP hK hL hlm
  go_enter Try.func4, Try.ntmps4
  go_wp2_with fail
  refine (head_any _).mono ?_
  rintro e w1 ⟨rfl, z1⟩
  have Z1 := Lib.hid z1
  clear z1
  go_wp2_with fail
  refine (new_any a n c K w1 (HK.out.below Z1.out)).mono ?_
  rintro e w2 hn
  rcases hn with ⟨_, rfl, rfl⟩ | ⟨hok, p, sb, ka, kc, rfl, hp, hb⟩
  · go_wp2_with fail
    rw [HP.out]
    exact ⟨rfl, Z1.out⟩
  have PN := Lib.hid (hp.mono Z1.out.size)
  have Z2 := Lib.hid (Z1.out.trans (hb.mono Z1.out.size))
  have hn64 := hp.n64
  clear hp hb hok
  by_cases h3 : 300 < m
  · have t0 : decide ((300 : Int) < (m : Int)) = true := by simp; omega
    go_wp2_with fail
    rw [HP.out]
    exact ⟨rfl, Z2.out⟩
  have t0 : decide ((300 : Int) < (m : Int)) = false := by simp; omega
  have BP := Lib.hid (And.intro PN.out.bp PN.out.bs)
  go_wp2_with fail
  refine (silenceP_any PN.out).mono ?_
  rintro e w3 ⟨rfl, hp, hf⟩
  have Z3 := Lib.hid (fs_bel hf Z2.out BP.out.1 BP.out.2 Z2.out.size)
  have PN := Lib.hid hp
  clear hp hf
  go_wp2_with fail
  refine (testP_any PN.out tt).mono ?_
  rintro e w4 ⟨rfl, hp, hf⟩
  have Z4 := Lib.hid (fs_bel hf Z3.out BP.out.1 BP.out.2 Z3.out.size)
  have PN := Lib.hid hp
  clear hp hf
  go_wp2_with fail
  refine (loadP_any PN.out la m cap L (HL.out.row.below Z4.out)).mono ?_
  rintro e w5 hlo
  have hx : ∃ is : Bool, e = .returned (.bool is) ∧ Below w.heap.size w w5 ∧ is = fb m n L m ∧
      (if is = true then m = n ∧ Pn w.heap.size w5 p sb ka kc n K L false false else Pn w.heap.size w5 p sb ka kc n K (List.replicate n 0) true tt) := by
    have hfull : L.take m = L := List.take_of_length_le (by rw [HLM.out]; exact Nat.le_refl _)
    rcases hlo with ⟨rfl, rfl, hno⟩ | ⟨hmn, hbd, rfl, hp, hf⟩
    · refine ⟨false, rfl, Z4.out, ?_, by simpa using PN.out⟩
      unfold fb
      rw [hfull]
      by_cases hmn : m = n
      · cases hq : L.any badS with
        | true => simp
        | false => exact absurd ⟨hmn, hq⟩ hno
      · simp [hmn]
    · refine ⟨true, rfl, fs_bel hf Z4.out BP.out.1 BP.out.2 Z4.out.size, ?_, by simpa using ⟨hmn, hp⟩⟩
      unfold fb
      rw [hfull, hbd, hmn]
      simp
  obtain ⟨is, rfl, hz5, hisf, hrest⟩ := hx
  have Z5 := Lib.hid hz5
  have HIS := Lib.hid hisf
  have HRE := Lib.hid hrest
  clear hlo hz5 hisf hrest PN
  have hf0 : decide (m = n) = fb m n L 0 := by simp [fb]
  have HF0 := Lib.hid hf0
  clear hf0
  go_wp2_with fail
  go_loopw [10, 11] (fun b i wr => ∃ k : Nat, k ≤ m ∧ b = .bool (fb m n L k) ∧ i = .int .i64 k ∧ wr = w5) (fun _ i _ => m - (intOf i).toNat)
  case atStart =>
    refine ⟨0, Nat.zero_le _, ?_, rfl, rfl⟩
    rw [← HF0.out]
    first | rfl | (congr 1; rw [Bool.eq_iff_iff]; simp only [beq_iff_eq, decide_eq_true_eq]; omega)
  case round =>
    obtain ⟨k, hk, rfl, rfl, rfl⟩ := hrel
    by_cases hkn : k < m
    · obtain ⟨lb, lo, e1, _, hc⟩ := (HL.out.row.below Z5.out).pos (by omega)
      have ck := hc k hkn
      have hsu := fb_succ (m := m) (n := n) (L := L) (k := k) (by rw [HLM.out]; exact hkn)
      generalize L.getD k 0 = s at ck hsu
      have HSU := Lib.hid hsu
      have d0 : (k : Int) < (m : Int) := by omega
      have d1 : (0 : Int) ≤ (k : Int) := by omega
      subst e1
      clear hc hsu
      cases hfk : fb m n L k with
      | false =>
        have HFK := Lib.hid hfk
        clear hfk
        go_wp2_with fail
        go_roundw
        case rel => exact ⟨k + 1, by omega, by rw [HSU.out, HFK.out]; rfl, by go_num, by trivial⟩
        case measure => simp [intOf]; omega
      | true =>
        have HFK := Lib.hid hfk
        clear hfk
        cases h1 : decide (0 ≤ s) with
        | false =>
          have hbd : badS s = true := by unfold badS; simp at h1; simp; omega
          have HBD := Lib.hid hbd
          clear hbd
          go_wp2_with fail
          go_roundw
          case rel => exact ⟨k + 1, by omega, by rw [HSU.out, HFK.out, HBD.out]; rfl, by go_num, by trivial⟩
          case measure => simp [intOf]; omega
        | true =>
          cases h2 : decide (s < 9) with
          | false =>
            have hbd : badS s = true := by unfold badS; simp at h2; simp; omega
            have HBD := Lib.hid hbd
            clear hbd
            go_wp2_with fail
            go_roundw
            case rel => exact ⟨k + 1, by omega, by rw [HSU.out, HFK.out, HBD.out]; rfl, by go_num, by trivial⟩
            case measure => simp [intOf]; omega
          | true =>
            have hbd : badS s = false := by unfold badS; simp at h1 h2; simp; omega
            have HBD := Lib.hid hbd
            clear hbd
            go_wp2_with fail
            go_roundw
            case rel => exact ⟨k + 1, by omega, by rw [HSU.out, HFK.out, HBD.out]; rfl, by go_num, by trivial⟩
            case measure => simp [intOf]; omega
    · have hk' : k = m := by omega
      subst hk'
      rw [← HIS.out]
      have ti : (is != is) = false := by simp
      cases is with
      | false =>
        have PN : Hid (Pn w.heap.size wr p sb ka kc n K (List.replicate n 0) true tt) := Lib.hid (by simpa using HRE.out)
        have mk := make_ir 22 3 Try.underlying22 info3 n (by omega)
        have SB := Lib.hid (fun W (hb : Below wr.heap.size wr W) => statesP_any (PN.out.below hb))
        have s0 := SB.out wr.drew (Below.refl _ _).drew
        have s1 := SB.out (wr.alloc (.cells (iv (List.replicate n 0)).toArray 3 (0, 0))).drew (alloc_b _ _).drew
        have HS := Lib.hid (alloc_b wr (.cells (iv (List.replicate n 0)).toArray 3 (0, 0)))
        have HN := Lib.hid (heap_alloc_new wr (.cells (iv (List.replicate n 0)).toArray 3 (0, 0)))
        cases tt
        all_goals
          go_wp2_with fail
          go_region_with (first
            | (go_at_call 15; refine s0.mono ?_; rintro e w6 ⟨g, rfl, hg, hge, z6⟩; have g6 := Lib.hid hg; have b6 := Lib.hid ((Below.refl wr.heap.size wr).drew.trans z6); have SI := Lib.hid (sameInts_any (some ⟨g, 0, none⟩) (some ⟨w6.heap.size, 0, none⟩) n n n n (List.replicate n 0) (List.replicate n 0) (w6.alloc (.cells (iv (List.replicate n 0)).toArray 3 (0, 0))) (ir_rep (low_of (alloc_b _ _) hg) hn64) (ir_rep (heap_alloc_new _ _) hn64)); have b7 := Lib.hid (b6.out.trans ((alloc_b w6 (.cells (iv (List.replicate n 0)).toArray 3 (0, 0))).mono b6.out.size)); clear hg hge z6)
            | (go_at_call 15; refine s1.mono ?_; rintro e w6 ⟨g, rfl, hg, hge, z6⟩; have b7 := Lib.hid (HS.out.drew.trans (z6.mono HS.out.size)); have SI := Lib.hid (sameInts_any (some ⟨g, 0, none⟩) (some ⟨wr.heap.size, 0, none⟩) n n n n (List.replicate n 0) (List.replicate n 0) w6 (ir_rep hg hn64) (ir_rep (low_of z6 HN.out) hn64)); clear hg hge z6)
            | (go_at_call 17; refine SI.out.mono ?_; rintro e w7 ⟨rfl, z7⟩; rw [decide_eq_true (rfl : List.replicate n (0 : Int) = List.replicate n 0)]; have b8 := Lib.hid (b7.out.trans (z7.mono b7.out.size)); clear z7)
            | (go_at_call 18; refine (horn_panel (PN.out.below b8.out)).mono ?_; rintro e w8 ⟨rfl, z8⟩; simp only [hornP, if_true, Bool.false_eq_true, if_false]; have b9 := Lib.hid (b8.out.trans (z8.mono b8.out.size)); clear z8))
          all_goals
            go_wp2_with fail
            go_ret
            rw [HP.out]
            exact ⟨rfl, Z5.out.trans (b9.out.mono Z5.out.size)⟩
      | true =>
        have hre : k = n ∧ Pn w.heap.size wr p sb ka kc n K L false false := by simpa using HRE.out
        have PN := Lib.hid hre.2
        have hw0 : wantP (L.take 0) = 0 := by simp [wantP, hornP]
        have HW0 := Lib.hid hw0
        clear hw0 hre
        go_wp2_with fail
        go_loopw [12, 13] (fun v i wq => ∃ j : Nat, j ≤ k ∧ v = .int .i64 (wantP (L.take j)) ∧ i = .int .i64 j ∧ wq = wr) (fun _ i _ => k - (intOf i).toNat)
        case atStart => exact ⟨0, Nat.zero_le _, by rw [HW0.out], rfl, rfl⟩
        case round =>
          obtain ⟨j, hj, rfl, rfl, rfl⟩ := hrel
          by_cases hjn : j < k
          · obtain ⟨lb, lo, e1, _, hc⟩ := (HL.out.row.below Z5.out).pos (by omega)
            have ck := hc j hjn
            have hsu := wantP_snoc (L.take j) (L.getD j 0)
            rw [← take_snocI L j (by rw [HLM.out]; exact hjn)] at hsu
            generalize L.getD j 0 = s at ck hsu
            generalize wantP (L.take j) = v at hsu
            have HSU := Lib.hid hsu
            have d0 : (j : Int) < (k : Int) := by omega
            have d1 : (0 : Int) ≤ (j : Int) := by omega
            subst e1
            clear hc hsu
            go_wp2_with fail
            refine (rhorn_any s _).mono ?_
            rintro e w6 ⟨rfl, rfl⟩
            have h3 := hornZ_3 s
            generalize hornZ s = h at h3 HSU
            by_cases hv : v = 0
            · have tv : (v == 0) = true := by simpa using hv
              have hh : wantP (L.take (j + 1)) = h := by rw [HSU.out, if_pos (.inr hv)]
              have HH := Lib.hid hh
              clear hh hv
              rcases h3 with rfl | rfl | rfl
              all_goals
                go_wp2_with fail
                go_roundw
                case rel => exact ⟨j + 1, by omega, by rw [HH.out], by go_num, by trivial⟩
                case measure => simp [intOf]; omega
            · have tv : (v == 0) = false := by simpa using hv
              by_cases hh1 : h = 1
              · have hh : wantP (L.take (j + 1)) = h := by rw [HSU.out, if_pos (.inl hh1)]
                have HH := Lib.hid hh
                subst hh1
                clear hh hv
                go_wp2_with fail
                go_roundw
                case rel => exact ⟨j + 1, by omega, by rw [HH.out], by go_num, by trivial⟩
                case measure => simp [intOf]; omega
              · have th : (h == 1) = false := by simpa using hh1
                have hh : wantP (L.take (j + 1)) = v := by rw [HSU.out, if_neg (by rintro (q | q); exact hh1 q; exact hv q)]
                have HH := Lib.hid hh
                clear hh hv hh1 h3
                go_wp2_with fail
                go_roundw
                case rel => exact ⟨j + 1, by omega, by rw [HH.out], by go_num, by trivial⟩
                case measure => simp [intOf]; omega
          · have hj' : j = k := by omega
            subst hj'
            have hfull : L.take j = L := List.take_of_length_le (by rw [HLM.out]; exact Nat.le_refl _)
            rw [hfull]
            have hq : hornP false false L = wantP L := rfl
            have HQ := Lib.hid hq
            generalize wantP L = v at HQ
            have tv : (v == v) = true := by simp
            clear hq hfull
            go_wp2_with fail
            refine (statesP_any PN.out).mono ?_
            rintro e w6 ⟨g, rfl, hg, hge, z6⟩
            have gi := Lib.hid (rowP_ir hg PN.out.sl hn64 PN.out.s8)
            have Z6 := Lib.hid (Z5.out.trans (z6.mono Z5.out.size))
            have PN6 := Lib.hid (PN.out.below z6)
            clear hg hge z6
            go_wp2_with fail
            refine (sameInts_any _ la n n j cap L L _ gi.out (HL.out.row.below Z6.out)).mono ?_
            rintro e w7 ⟨rfl, z7⟩
            rw [decide_eq_true (rfl : L = L)]
            have Z7 := Lib.hid (Z6.out.trans (z7.mono Z6.out.size))
            have PN7 := Lib.hid (PN6.out.below z7)
            clear z7
            go_wp2_with fail
            refine (horn_panel PN7.out).mono ?_
            rintro e w8 ⟨rfl, z8⟩
            rw [HQ.out]
            have Z8 := Lib.hid (Z7.out.trans (z8.mono Z7.out.size))
            clear z8
            go_wp2_with fail
            rw [HP.out]
            exact ⟨rfl, Z8.out⟩
end Go.Proofs.Ytedakoihlnokfaa
