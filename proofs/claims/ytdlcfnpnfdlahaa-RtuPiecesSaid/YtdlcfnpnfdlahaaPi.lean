/- The walk of RtuPieces. -/
import Derived.Test.YtdlcfnpnfdlahaaTw
import Derived.Test.YtdlcfnpnfdlahaaSized
namespace Go.Proofs.Ytdlcfnpnfdlahaa
set_option linter.unusedVariables false
open Go.ChangeShapes Go.WideShapes Go.ChangeAt Go.RowKit

theorem take_more (L : List Nat) (p n : Nat) : L.take p ++ (L.drop p).take n = L.take (p + n) := by rw [List.take_add]
/-- Where a part of bytes lies, as the walk says it. -/
theorem bys_cut {W : World} {b off len cap : Nat} {L : List Nat} (h : Bys W (some ⟨b, off, none⟩) len L) (p n : Nat) (hp : p + n ≤ len) (hc : len ≤ cap) :
    Bys W (some (if cap = p then (⟨b, off, none⟩ : Addr) else ⟨b, off + p, none⟩)) n ((L.drop p).take n) := by
  by_cases hcp : cap = p
  · have hn : n = 0 := by omega
    subst hn
    simpa using Bys.nil W _
  · rw [if_neg hcp]
    exact h.sub p n hp

theorem getR_by {L : List Nat} {u : Nat} {P : List Nat} (h : getR L = .ok u P) (hb : ∀ b ∈ L, b < 256) : u < 256 ∧ ∀ b ∈ P, b < 256 := by
  unfold getR at h
  (repeat' split at h) <;> cases h
  exact ⟨getD_lt hb 0, fun b hx => hb b (List.mem_of_mem_drop (List.mem_of_mem_take hx))⟩
theorem vint {k : IntKind} {a b : Int} (h : a = b) : Value.int k a = Value.int k b := by rw [h]
/-- To hear a part of bytes. -/
theorem hear_cut {B e : Nat} {w : World} {P : List Nat} {p : Nat} (h : Er B w e (P.take p)) (b : Option Addr) (len2 : Nat) (hb : Bys w b len2 P) (n m : Nat) (x : Option Addr) (cap' : Nat) (hpn : p + n ≤ len2) (hm : m = n) (hx : n = 0 ∨ x = b.map fun ad => ad.add p) (hN : n ≤ 100000000) :
    Calls Try.prog 19 #[.pointer (some ⟨e, 0, none⟩), .slice x m cap'] w (HearP B w e (P.take (p + n))) := by
  subst hm
  rw [← take_more]
  refine hear_any h x m cap' _ ?_ hN
  by_cases h0 : m = 0
  · subst h0; simpa using Bys.nil w x
  · rcases hx with z | rfl
    · exact absurd z h0
    · obtain ⟨bb, off, rfl, _, _⟩ := hb.pos (by omega)
      show Bys w (some (Addr.add ⟨bb, off, none⟩ p)) m _
      rw [addr_add_none]
      exact hb.sub p m hpn

set_option maxRecDepth 100000 in
set_option maxHeartbeats 8000000 in
theorem pieces_walk (a : Option Addr) (len cap : Nat) (A : List Nat) (bb bo : Nat) (bs : Option Nat) (len2 cap2 : Nat) (P : List Nat) (c : Option Addr) (len3 cap3 : Nat) (C : List Nat) (w : World) (h : ArgB w a len cap A) (h2 : ArgB w (some ⟨bb, bo, bs⟩) len2 cap2 P) (h3 : ArgB w c len3 cap3 C) (hr1 : cap ≤ 140737488355328) (hr2 : cap2 ≤ 140737488355328) :
    Calls Try.prog 6 #[.slice a len cap, .slice (some ⟨bb, bo, bs⟩) len2 cap2, .slice c len3 cap3] w fun e w' => e = .returned (.bool true) ∧ Below w.heap.size w w' := by
  have hl := h.le
  have hl2 := h2.le
  have hl3 := h3.row.le
  unfold maxLen at hl3
  have H := Lib.hid h
  have H2 := Lib.hid h2
  have H3 := Lib.hid h3
  clear h h2 h3
  go_enter Try.func6, Try.ntmps6
  go_wp2_with fail
  refine (head_any w).mono ?_
  rintro e w0 ⟨rfl, b0⟩
  have B0 := Lib.hid b0
  have hs0 := b0.size
  have H0 := Lib.hid (H.out.below b0)
  have H02 := Lib.hid (H2.out.below b0)
  have H03 := Lib.hid (H3.out.below b0)
  clear b0 H H2 H3
  go_wp2_with fail
  refine (new_any w0).mono ?_
  rintro e w1 ⟨rfl, e1, b1⟩
  have B1 := Lib.hid (B0.out.trans (b1.mono hs0))
  have E1 := Lib.hid e1
  have H1 := Lib.hid (H0.out.below b1)
  have H12 := Lib.hid (H02.out.below b1)
  have H13 := Lib.hid (H03.out.below b1)
  have hs1 := b1.size
  have hlt1 := e1.lt
  have hA : ∀ bb' off, (some ⟨bb, bo, bs⟩ : Option Addr) = some ⟨bb', off, none⟩ → 0 < len2 → bb' < w0.heap.size := fun bb off e h0 => by
    obtain ⟨b', off', e', h', _⟩ := H02.out.row.pos h0
    rw [e] at e'; simp only [Option.some.injEq, Addr.mk.injEq, and_true] at e'; omega
  have hC : ∀ bb off, c = some ⟨bb, off, none⟩ → 0 < len3 → bb < w0.heap.size := fun bb off e h0 => by
    obtain ⟨b', off', e', h', _⟩ := H03.out.row.pos h0
    rw [e] at e'; simp only [Option.some.injEq, Addr.mk.injEq, and_true] at e'; omega
  have HA := Lib.hid hA
  have HC := Lib.hid hC
  clear b1 e1 H0 H02 H03 hA hC
  by_cases hbig : 9000 < len + len2
  · have d1 : decide (9000 < (len : Int) + (len2 : Int)) = true := by simp; omega
    go_wp2_with fail
    go_ret
    exact ⟨rfl, B1.out⟩
  · have d1 : decide (9000 < (len : Int) + (len2 : Int)) = false := by simp; omega
    by_cases hbig3 : 300 < len3
    · have d2 : decide (300 < (len3 : Int)) = true := by simp; omega
      go_wp2_with fail
      go_ret
      exact ⟨rfl, B1.out⟩
    · have d2 : decide (300 < (len3 : Int)) = false := by simp; omega
      go_wp2_with fail
      refine (hear_any E1.out a len cap A H1.out.row (by omega)).mono ?_
      rintro e w2 ⟨rfl, e2, f2⟩
      have E2 := Lib.hid e2
      have F2 := Lib.hid f2
      have hs2 := f2.size
      clear e2 f2
      go_wp2_with fail
      refine (sil_any E2.out (by omega)).mono ?_
      rintro e w3 ⟨e3, f3, hif⟩
      have hret : ∃ v, e = .returned v := by
        cases hs : sil ([] ++ A) with
        | err c => rw [hs] at hif; exact ⟨_, hif⟩
        | ok u P => rw [hs] at hif; obtain ⟨g, k, he, _⟩ := hif; exact ⟨_, he⟩
      obtain ⟨v, rfl⟩ := hret
      have E3 := Lib.hid (show Er w0.heap.size w3 w0.heap.size (P.take 0) from e3)
      have F3 := Lib.hid (F2.out.trans f3)
      clear e3 f3 hif E2 F2 E1
      go_wp2_with fail
      go_loopw [9, 10] (fun at' i wr => ∃ k p : Nat, k ≤ len3 + 1 ∧ p ≤ len2 ∧ (k = len3 + 1 → p = len2) ∧ at' = .int .i64 p ∧ i = .int .i64 k ∧ Er w0.heap.size wr w0.heap.size (P.take p) ∧ Fr w0.heap.size w1 wr) (fun _ i _ => len3 + 1 - (intOf i).toNat)
      case atStart => exact ⟨0, 0, by omega, by omega, by omega, rfl, rfl, E3.out, F3.out⟩
      case round =>
        clear E3 F3
        obtain ⟨wo, rfl⟩ : ∃ wo : World, wo = wr := ⟨_, rfl⟩
        obtain ⟨k, p, hk, hp, hlast, rfl, rfl, hE, hF⟩ := hrel
        have hso := hF.size
        by_cases hround : k ≤ len3
        · have hb : Bys wo (some ⟨bb, bo, bs⟩) len2 P := H12.out.row.fr hF (fun bb off h0 e => by have := HA.out bb off e h0; omega)
          have hc : Bys wo c len3 C := H13.out.row.fr hF (fun bb off h0 e => by have := HC.out bb off e h0; omega)
          have E := Lib.hid hE
          have F := Lib.hid hF
          have HB := Lib.hid hb
          clear hE hF hlast
          -- how many are heard
          by_cases hk3 : k < len3
          · obtain ⟨cb, co, rfl, _, hcc⟩ := hc.pos (by omega)
            have cc := hc.by'
            have ck := hcc k hk3
            have ckl := getD_lt cc k
            generalize C.getD k 0 = q at ck ckl
            clear hcc hc cc
            clear hb
            by_cases hcp : p = cap2
            · subst hcp
              by_cases hq : q = 0
              · subst hq
                have hq1 : (0 : Int) ≤ (len2 : Int) - (p : Int) := by omega
                go_wp2_with fail
                refine (hear_cut E.out (some ⟨bb, bo, bs⟩) _ HB.out 0 _ _ _ (by omega) (by omega) (.inl rfl) (by omega)).mono ?_
                rintro e w4 ⟨rfl, e4, f4⟩
                have E4 := Lib.hid e4
                have F4 := Lib.hid (F.out.trans f4)
                clear e4 f4
                go_wp2_with fail
                go_roundw
                case rel => exact ⟨k + 1, _ + 0, by omega, by omega, by omega, (by first | rfl | exact vint (by omega)), by go_num, E4.out, F4.out⟩
                case measure => simp [intOf] <;> omega
              · have hq1 : ¬ (q : Int) ≤ (len2 : Int) - (p : Int) := by omega
                go_wp2_with fail
                refine (hear_cut E.out (some ⟨bb, bo, bs⟩) _ HB.out 0 _ _ _ (by omega) (by omega) (.inl rfl) (by omega)).mono ?_
                rintro e w4 ⟨rfl, e4, f4⟩
                have E4 := Lib.hid e4
                have F4 := Lib.hid (F.out.trans f4)
                clear e4 f4
                go_wp2_with fail
                go_roundw
                case rel => exact ⟨k + 1, _ + 0, by omega, by omega, by omega, (by first | rfl | exact vint (by omega)), by go_num, E4.out, F4.out⟩
                case measure => simp [intOf] <;> omega
            · have hcp1 : ¬ cap2 = p := by omega
              by_cases hq : q ≤ len2 - p
              · have hq1 : (q : Int) ≤ (len2 : Int) - (p : Int) := by omega
                go_wp2_with fail
                refine (hear_cut E.out (some ⟨bb, bo, bs⟩) _ HB.out q _ (some (Addr.add ⟨bb, bo, bs⟩ p)) (cap2 - p) (by omega) (by omega) (.inr rfl) (by omega)).mono ?_
                rintro e w4 ⟨rfl, e4, f4⟩
                have E4 := Lib.hid e4
                have F4 := Lib.hid (F.out.trans f4)
                clear e4 f4
                go_wp2_with fail
                go_roundw
                case rel => exact ⟨k + 1, p + q, by omega, by omega, by omega, (by first | exact vint (by omega) | rfl), by go_num, E4.out, F4.out⟩
                case measure => simp [intOf] <;> omega
              · have hq1 : ¬ (q : Int) ≤ (len2 : Int) - (p : Int) := by omega
                go_wp2_with fail
                refine (hear_cut E.out (some ⟨bb, bo, bs⟩) _ HB.out (len2 - p) _ (some (Addr.add ⟨bb, bo, bs⟩ p)) (cap2 - p) (by omega) (by omega) (.inr rfl) (by omega)).mono ?_
                rintro e w4 ⟨rfl, e4, f4⟩
                have E4 := Lib.hid e4
                have F4 := Lib.hid (F.out.trans f4)
                clear e4 f4
                go_wp2_with fail
                go_roundw
                case rel => exact ⟨k + 1, p + (len2 - p), by omega, by omega, by omega, (by first | exact vint (by omega) | rfl), by go_num, E4.out, F4.out⟩
                case measure => simp [intOf] <;> omega
          · obtain rfl : k = len3 := by omega
            clear hc
            clear hb
            by_cases hcp : p = cap2
            · subst hcp
              go_wp2_with fail
              refine (hear_cut E.out (some ⟨bb, bo, bs⟩) _ HB.out 0 _ _ _ (by omega) (by omega) (.inl rfl) (by omega)).mono ?_
              rintro e w4 ⟨rfl, e4, f4⟩
              have E4 := Lib.hid e4
              have F4 := Lib.hid (F.out.trans f4)
              clear e4 f4
              go_wp2_with fail
              go_roundw
              case rel => exact ⟨k + 1, _ + 0, by omega, by omega, by omega, (by first | rfl | exact vint (by omega)), by go_num, E4.out, F4.out⟩
              case measure => simp [intOf] <;> omega
            · have hcp1 : ¬ cap2 = p := by omega
              go_wp2_with fail
              refine (hear_cut E.out (some ⟨bb, bo, bs⟩) _ HB.out (len2 - p) _ (some (Addr.add ⟨bb, bo, bs⟩ p)) (cap2 - p) (by omega) (by omega) (.inr rfl) (by omega)).mono ?_
              rintro e w4 ⟨rfl, e4, f4⟩
              have E4 := Lib.hid e4
              have F4 := Lib.hid (F.out.trans f4)
              clear e4 f4
              go_wp2_with fail
              go_roundw
              case rel => exact ⟨k + 1, p + (len2 - p), by omega, by omega, by omega, (by first | exact vint (by omega) | rfl), by go_num, E4.out, F4.out⟩
              case measure => simp [intOf] <;> omega
        · have hk' : k = len3 + 1 := by omega
          have hp2 : p = len2 := hlast hk'
          have hb : Bys wo (some ⟨bb, bo, bs⟩) len2 P := H12.out.row.fr hF (fun bb off h0 e => by have := HA.out bb off e h0; omega)
          have hA2 : ArgB wo (some ⟨bb, bo, bs⟩) len2 cap2 P := ⟨hb, H12.out.nil, H12.out.le, H12.out.mx⟩
          have hE2 : Er w0.heap.size wo w0.heap.size P := by
            have := hE
            rw [hp2, List.take_of_length_le (by rw [H12.out.row.ln]; exact Nat.le_refl _)] at this
            exact this
          have E := Lib.hid hE2
          have F := Lib.hid hF
          have A2 := Lib.hid hA2
          clear hE hF hb hA2 hE2 hlast hk' hp2
          go_wp2_with fail
          refine (sil_any E.out (by omega)).mono ?_
          rintro e w4 ⟨e4, f4, hif⟩
          have E4 := Lib.hid e4
          have F4 := Lib.hid (F.out.trans f4)
          have A4 := Lib.hid (show ArgB w4 (some ⟨bb, bo, bs⟩) len2 cap2 P from ⟨A2.out.row.fr f4 (fun bb off h0 e => by have := HA.out bb off e h0; omega), A2.out.nil, A2.out.le, A2.out.mx⟩)
          have hs4 := f4.size
          clear e4 f4
          have hn := H12.out.row.ln
          by_cases h0 : len2 = 0
          · subst h0
            have hP0 : P = [] := H12.out.row.of_zero
            subst hP0
            rw [show sil [] = .err 0 from rfl] at hif
            simp only at hif
            subst hif
            go_wp2_with fail
            go_ret
            exact ⟨rfl, B1.out.trans (F4.out.below (by omega) B1.out.size)⟩
          · have d10 : ((len2 : Int) == 0) = false := by simp; omega
            have hP0 : P ≠ [] := by intro e; rw [e] at hn; simp at hn; omega
            have hsil : sil P = getR P := by unfold sil; rw [if_neg hP0]
            have hdec : decide (P ≠ []) = true := by simp [hP0]
            rw [hsil, hdec] at hif
            cases hg : getR P with
            | err cc =>
              rw [hg] at hif
              simp only at hif
              subst hif
              have HG := Lib.hid hg
              clear hg hsil hdec hP0 hn h0
              go_wp2_with fail
              refine (get_any _ len2 cap2 P _ A4.out).mono ?_
              rintro e w5 ⟨b5, hif⟩
              rw [HG.out] at hif
              simp only at hif
              subst hif
              have e5 := E4.out.below b5
              have HB := Lib.hid (B1.out.trans ((F4.out.trans (Fr.of_below (e := w0.heap.size) b5)).below (by omega) B1.out.size))
              have M5 := Lib.hid e5
              have hcn := conv_bys (cap := 0) (Bys.nil w5 none)
              generalize strN [] = SS at hcn
              clear b5 e5
              go_wp2_with fail
              refine (many_any M5.out).mono ?_
              rintro e w6 ⟨rfl, rfl⟩
              go_wp2_with fail
              go_ret
              exact ⟨rfl, HB.out⟩
            | ok u Q =>
              rw [hg] at hif
              simp only at hif
              obtain ⟨g4, k4, rfl, ho4⟩ := hif
              have HG := Lib.hid hg
              have hQb := (getR_by hg H12.out.row.by').2
              have B4 := Lib.hid (ho4.bys hQb)
              have hg4 : wo.heap.size ≤ g4 := by obtain ⟨_, _, h, _⟩ := ho4.at; exact h
              have HQB := Lib.hid hQb
              clear hg hsil hdec hP0 hn h0 ho4 hQb
              go_wp2_with fail
              refine (get_any _ len2 cap2 P _ A4.out).mono ?_
              rintro e w5 ⟨b5, hif⟩
              rw [HG.out] at hif
              simp only at hif
              obtain ⟨g5, k5, rfl, ho5⟩ := hif
              have e5 := E4.out.below b5
              have HB := Lib.hid (B1.out.trans ((F4.out.trans (Fr.of_below (e := w0.heap.size) b5)).below (by omega) B1.out.size))
              have M5 := Lib.hid e5
              have hc4 := conv_bys (cap := k4) (B4.out.below b5)
              have hc5 := conv_bys (cap := k5) (ho5.bys HQB.out)
              generalize strN Q = SS at hc4 hc5
              clear b5 e5 ho5
              go_wp2_with fail
              refine (many_any M5.out).mono ?_
              rintro e w6 ⟨rfl, rfl⟩
              go_wp2_with fail
              go_ret
              exact ⟨rfl, HB.out⟩

set_option maxRecDepth 100000 in
set_option maxHeartbeats 8000000 in
theorem pieces_nil (a : Option Addr) (len cap : Nat) (A : List Nat) (c : Option Addr) (len3 cap3 : Nat) (C : List Nat) (w : World) (h : ArgB w a len cap A) (h3 : ArgB w c len3 cap3 C) (hr1 : cap ≤ 140737488355328) :
    Calls Try.prog 6 #[.slice a len cap, .slice none 0 0, .slice c len3 cap3] w fun e w' => e = .returned (.bool true) ∧ Below w.heap.size w w' := by
  have hl := h.le
  have hl3 := h3.row.le
  unfold maxLen at hl3
  have H := Lib.hid h
  have H3 := Lib.hid h3
  clear h h3
  go_enter Try.func6, Try.ntmps6
  go_wp2_with fail
  refine (head_any w).mono ?_
  rintro e w0 ⟨rfl, b0⟩
  have B0 := Lib.hid b0
  have hs0 := b0.size
  have H0 := Lib.hid (H.out.below b0)
  have H03 := Lib.hid (H3.out.below b0)
  clear b0 H H3
  go_wp2_with fail
  refine (new_any w0).mono ?_
  rintro e w1 ⟨rfl, e1, b1⟩
  have B1 := Lib.hid (B0.out.trans (b1.mono hs0))
  have E1 := Lib.hid e1
  have H1 := Lib.hid (H0.out.below b1)
  have H13 := Lib.hid (H03.out.below b1)
  have hs1 := b1.size
  have hlt1 := e1.lt
  have hC : ∀ bb off, c = some ⟨bb, off, none⟩ → 0 < len3 → bb < w0.heap.size := fun bb off e h0 => by
    obtain ⟨b', off', e', h', _⟩ := H03.out.row.pos h0
    rw [e] at e'; simp only [Option.some.injEq, Addr.mk.injEq, and_true] at e'; omega
  have HC := Lib.hid hC
  clear b1 e1 H0 H03 hC
  by_cases hbig : 9000 < len
  · have d1 : decide (9000 < (len : Int)) = true := by simp; omega
    go_wp2_with fail
    go_ret
    exact ⟨rfl, B1.out⟩
  · have d1 : decide (9000 < (len : Int)) = false := by simp; omega
    by_cases hbig3 : 300 < len3
    · have d2 : decide (300 < (len3 : Int)) = true := by simp; omega
      go_wp2_with fail
      go_ret
      exact ⟨rfl, B1.out⟩
    · have d2 : decide (300 < (len3 : Int)) = false := by simp; omega
      go_wp2_with fail
      refine (hear_any E1.out a len cap A H1.out.row (by omega)).mono ?_
      rintro e w2 ⟨rfl, e2, f2⟩
      have E2 := Lib.hid e2
      have F2 := Lib.hid f2
      have hs2 := f2.size
      clear e2 f2
      go_wp2_with fail
      refine (sil_any E2.out (by omega)).mono ?_
      rintro e w3 ⟨e3, f3, hif⟩
      have hret : ∃ v, e = .returned v := by
        cases hs : sil ([] ++ A) with
        | err c => rw [hs] at hif; exact ⟨_, hif⟩
        | ok u P => rw [hs] at hif; obtain ⟨g, k, he, _⟩ := hif; exact ⟨_, he⟩
      obtain ⟨v, rfl⟩ := hret
      have E3 := Lib.hid (show Er w0.heap.size w3 w0.heap.size [] from e3)
      have F3 := Lib.hid (F2.out.trans f3)
      clear e3 f3 hif E2 F2 E1
      go_wp2_with fail
      go_loopw [9, 10] (fun at' i wr => ∃ k : Nat, k ≤ len3 + 1 ∧ at' = .int .i64 0 ∧ i = .int .i64 k ∧ Er w0.heap.size wr w0.heap.size [] ∧ Fr w0.heap.size w1 wr) (fun _ i _ => len3 + 1 - (intOf i).toNat)
      case atStart => exact ⟨0, by omega, rfl, rfl, E3.out, F3.out⟩
      case round =>
        clear E3 F3
        obtain ⟨wo, rfl⟩ : ∃ wo : World, wo = wr := ⟨_, rfl⟩
        obtain ⟨k, hk, rfl, rfl, hE, hF⟩ := hrel
        have hso := hF.size
        by_cases hround : k ≤ len3
        · have hc : Bys wo c len3 C := H13.out.row.fr hF (fun bb off h0 e => by have := HC.out bb off e h0; omega)
          have E := Lib.hid hE
          have F := Lib.hid hF
          clear hE hF
          by_cases hk3 : k < len3
          · obtain ⟨cb, co, rfl, _, hcc⟩ := hc.pos (by omega)
            have cc := hc.by'
            have ck := hcc k hk3
            have ckl := getD_lt cc k
            generalize C.getD k 0 = q at ck ckl
            clear hcc hc cc
            by_cases hq : q = 0
            · subst hq
              go_wp2_with fail
              refine (hear_any E.out none 0 0 [] (Bys.nil _ _) (by omega)).mono ?_
              rintro e w4 ⟨rfl, e4, f4⟩
              have E4 := Lib.hid (show Er w0.heap.size w4 w0.heap.size [] from e4)
              have F4 := Lib.hid (F.out.trans f4)
              clear e4 f4
              go_wp2_with fail
              go_roundw
              case rel => exact ⟨k + 1, by omega, rfl, by go_num, E4.out, F4.out⟩
              case measure => simp [intOf] <;> omega
            · have hq1 : ¬ (q : Int) ≤ 0 := by omega
              have hq2 : ¬ q = 0 := hq
              go_wp2_with fail
              refine (hear_any E.out none 0 0 [] (Bys.nil _ _) (by omega)).mono ?_
              rintro e w4 ⟨rfl, e4, f4⟩
              have E4 := Lib.hid (show Er w0.heap.size w4 w0.heap.size [] from e4)
              have F4 := Lib.hid (F.out.trans f4)
              clear e4 f4
              go_wp2_with fail
              go_roundw
              case rel => exact ⟨k + 1, by omega, rfl, by go_num, E4.out, F4.out⟩
              case measure => simp [intOf] <;> omega
          · obtain rfl : k = len3 := by omega
            clear hc
            go_wp2_with fail
            refine (hear_any E.out none 0 0 [] (Bys.nil _ _) (by omega)).mono ?_
            rintro e w4 ⟨rfl, e4, f4⟩
            have E4 := Lib.hid (show Er w0.heap.size w4 w0.heap.size [] from e4)
            have F4 := Lib.hid (F.out.trans f4)
            clear e4 f4
            go_wp2_with fail
            go_roundw
            case rel => exact ⟨k + 1, (by first | trivial | omega), rfl, by go_num, E4.out, F4.out⟩
            case measure => simp [intOf] <;> omega
        · have E := Lib.hid hE
          have F := Lib.hid hF
          clear hE hF
          go_wp2_with fail
          refine (sil_any E.out (by omega)).mono ?_
          rintro e w4 ⟨e4, f4, hif⟩
          have HB := Lib.hid (B1.out.trans ((F.out.trans f4).below (by omega) B1.out.size))
          rw [show sil [] = .err 0 from rfl] at hif
          simp only at hif
          subst hif
          clear e4 f4
          go_wp2_with fail
          go_ret
          exact ⟨rfl, HB.out⟩

theorem pieces_all (a : Option Addr) (len cap : Nat) (A : List Nat) (b : Option Addr) (len2 cap2 : Nat) (P : List Nat) (c : Option Addr) (len3 cap3 : Nat) (C : List Nat) (w : World) (h : ArgB w a len cap A) (h2 : ArgB w b len2 cap2 P) (h3 : ArgB w c len3 cap3 C) (hr1 : cap ≤ 140737488355328) (hr2 : cap2 ≤ 140737488355328) :
    Calls Try.prog 6 #[.slice a len cap, .slice b len2 cap2, .slice c len3 cap3] w fun e w' => e = .returned (.bool true) ∧ Below w.heap.size w w' := by
  cases b with
  | some ad =>
    obtain ⟨bb, bo, bs⟩ := ad
    exact pieces_walk a len cap A bb bo bs len2 cap2 P c len3 cap3 C w h h2 h3 hr1 hr2
  | none =>
    obtain ⟨rfl, rfl⟩ := h2.nil rfl
    exact pieces_nil a len cap A c len3 cap3 C w h h3 hr1
end Go.Proofs.Ytdlcfnpnfdlahaa
