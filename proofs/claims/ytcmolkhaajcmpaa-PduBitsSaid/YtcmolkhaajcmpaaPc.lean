/- PduBits. -/
import Derived.Test.YtcmolkhaajcmpaaX
namespace Go.Proofs.Ytcmolkhaajcmpaa
set_option linter.unusedVariables false
set_option linter.unusedSimpArgs false
open Go.ChangeShapes Go.WideShapes Go.ChangeAt Go.RowKit

theorem unb_get (L : List Nat) (n k : Nat) (hk : k < n) : (unb L n).getD k 0 = bt L k := by
  unfold unb
  simp [List.getD, List.getElem?_map, List.getElem?_range hk]
set_option maxRecDepth 100000 in
set_option maxHeartbeats 8000000 in
theorem pbits_any (a : Option Addr) (l c : Nat) (V : List Nat) (b : Option Addr) (m d : Nat) (L : List Nat) (w : World) (h : ArgW w a l c V) (h2 : ArgB w b m d L) : Calls Try.prog 5 #[.slice a l c, .slice b m d] w fun e w' => e = .returned (.bool true) ∧ Below w.heap.size w w' := by
  have hle := h.le
  have hmx := h.mx
  have hle2 := h2.le
  have hmx2 := h2.mx
  unfold maxLen at hmx hmx2
  have hvl : l = V.length := h.row.ln.symm
  have hbl : m = L.length := h2.row.ln.symm
  by_cases c1 : 3000 < l
  · have d1 : decide ((3000 : Int) < (l : Int)) = true := by simp; omega
    go_enter Try.func5, Try.ntmps5
    go_wp2_with fail
    refine (head_any _).mono ?_
    rintro e w1 ⟨rfl, z1⟩
    have Z1 := Lib.hid z1
    clear z1
    go_wp2_with fail
    go_ret
    exact ⟨rfl, Z1.out⟩
  have d1 : decide ((3000 : Int) < (l : Int)) = false := by simp; omega
  by_cases c2 : 3000 < m
  · have d2 : decide ((3000 : Int) < (m : Int)) = true := by simp; omega
    go_enter Try.func5, Try.ntmps5
    go_wp2_with fail
    refine (head_any _).mono ?_
    rintro e w1 ⟨rfl, z1⟩
    have Z1 := Lib.hid z1
    clear z1
    go_wp2_with fail
    go_ret
    exact ⟨rfl, Z1.out⟩
  have d2 : decide ((3000 : Int) < (m : Int)) = false := by simp; omega
  have H := Lib.hid h
  have H2 := Lib.hid h2
  have HL := Lib.hid hvl
  have HM := Lib.hid hbl
  have BA := Lib.hid (fun W (hb : Below w.heap.size w W) => bits_any a l c V W (h.row.below hb) (by omega))
  have hb8 : (bits V).length = (l + 7) / 8 := by rw [bits_len, ← hvl]
  have hl8 : (bits V).length ≤ 1000 := by rw [hb8]; omega
  have HB8 := Lib.hid hb8
  obtain ⟨m8, hm8⟩ : ∃ x, x = (bits V).length := ⟨_, rfl⟩
  have HM8 := Lib.hid hm8
  rw [← hm8] at hb8 hl8
  have e1 : ((l : Int) + 7) / 8 = (m8 : Int) := by omega
  have e1' : ((l : Int) + 7).tdiv 8 = (m8 : Int) := by rw [Int.tdiv_eq_ediv_of_nonneg (by omega)]; exact e1
  clear h h2 hvl hbl hb8 hm8
  go_enter Try.func5, Try.ntmps5
  go_wp2_with fail
  refine (head_any _).mono ?_
  rintro e w1 ⟨rfl, z1⟩
  have Z1 := Lib.hid z1
  clear z1
  go_wp2_with fail
  refine (BA.out _ Z1.out).mono ?_
  rintro e w2 ⟨g1, rfl, hg1, hs1, z2⟩
  have G1 := Lib.hid hg1
  have Z2 := Lib.hid (Z1.out.trans (z2.mono Z1.out.size))
  have U1 := Lib.hid (unb_any (some ⟨g1, 0, none⟩) m8 m8 (bits V) l w2 (by have := bys_block (t := 5) (m := (0, 0)) (bits V) (by unfold maxLen; rw [← HM8.out]; omega) (bits_by V) hg1; rw [← HM8.out] at this; exact this) (by omega) (by omega))
  rw [← HM8.out]
  have S1 := Lib.hid hs1
  clear hg1 z2 hs1
  go_wp2_with fail
  refine U1.out.mono ?_
  rintro e w3 ⟨g2, rfl, hg2, hs2, z3⟩
  rw [unb_len]
  have G2 := Lib.hid hg2
  have Z3 := Lib.hid (Z2.out.trans (z3.mono Z2.out.size))
  have S2 := Lib.hid hs2
  clear hg2 hs2 z3
  go_wp2_with fail
  go_loopw [8] (fun iv wr => ∃ k : Nat, k ≤ l ∧ iv = .int .i64 k ∧ Below w3.heap.size w3 wr) (fun iv _ => l - (intOf iv).toNat)
  case atStart => exact ⟨0, Nat.zero_le _, rfl, Below.refl _ _⟩
  case round =>
    obtain ⟨wo, rfl⟩ : ∃ wo : World, wo = wr := ⟨_, rfl⟩
    obtain ⟨k, hk, rfl, hb⟩ := hrel
    by_cases hkn : k < l
    · have hb' := Z3.out.trans (hb.mono Z3.out.size)
      obtain ⟨b1, o1, rfl, e1⟩ := (H.out.row.below hb').row k hkn
      have hu := unb_get (bits V) l k hkn
      rw [bt_bits V k (by rw [← HL.out]; exact hkn)] at hu
      have hcell : wo.cell? ⟨g2, k, none⟩ = some (.int .u16 (((unb (bits V) l).getD k 0 : Nat) : Int)) := by
        have h1 := low_of hb G2.out
        have := wv_get (unb (bits V) l) k (by rw [unb_len]; exact hkn)
        simp [World.cell?, h1, this]
      rw [hu] at hcell
      have d0 : (k : Int) < (l : Int) := by omega
      have HB := Lib.hid hb
      generalize hv : V.getD k 0 = v at e1 hcell
      have HV := Lib.hid hv
      clear hv hu hb hb'
      by_cases hv0 : v = 0
      · subst hv0
        simp only [bit, if_pos] at hcell
        go_wp2_with fail
        go_region
        all_goals
          go_wp2_with fail
          exact ⟨⟨k + 1, by omega, by go_num, by have := HB.out; first | exact this | exact this.drew⟩, by simp [intOf]; omega⟩
      · simp only [bit, if_neg hv0] at hcell
        have tt : ((v : Int) != 0) = true := by simp; omega
        go_wp2_with fail
        go_region
        all_goals
          go_wp2_with fail
          exact ⟨⟨k + 1, by omega, by go_num, by have := HB.out; first | exact this | exact this.drew⟩, by simp [intOf]; omega⟩
    · have hk' : k = l := by omega
      have d0 : ¬ (k : Int) < (l : Int) := by omega
      have hz4 := Z3.out.trans (hb.mono Z3.out.size)
      have Z4 := Lib.hid hz4
      have hm16 : m ≤ 3000 := by omega
      have KS := Lib.hid (fun (w' : World) (q : Gd wo w') => show (convert 25 9 (.slice b m d)).run Try.prog w' = .ok (.string (strN L)) w' from conv_bys ((H2.out.row.below hz4).below q))
      have U2 := Lib.hid (fun (w' : World) (q : Gd wo w') => show Calls Try.prog 14 #[.slice b m d, .int .i64 (8 * (m : Int))] w' (UnbP w' (unb L (8 * m))) from by
        have := unb_any b m d L (8 * m) w' ((H2.out.row.below hz4).below q) (by omega) (by omega)
        simpa using this)
      have U3 := Lib.hid (fun (w' : World) => unb_no b m d (-1) w' (.inl (by decide)))
      have hbu : bits (unb L (8 * m)) = L := by rw [HM.out]; exact bits_unb L H2.out.row.by'
      have hbw : ∀ v ∈ unb L (8 * m), v < 65536 := fun v hv => by have := unb_by L (8 * m) v hv; omega
      have HBU := Lib.hid hbu
      have HBW := Lib.hid hbw
      have HLM : Hid (L.length = m) := Lib.hid HM.out.symm
      have e2 : ((8 * m : Nat) : Int) = 8 * (m : Int) := by simp
      have g0 : Gd wo wo.drew := (Below.refl _ _).drew
      clear hb hbu hbw hz4
      subst hk'
      have HM16 := Lib.hid hm16
      obtain ⟨SX, hsx⟩ : ∃ x, x = strN L := ⟨_, rfl⟩
      rw [← hsx] at KS
      have HSX := Lib.hid hsx.symm
      obtain ⟨n8, hn8⟩ : ∃ x, x = 8 * m := ⟨_, rfl⟩
      have H8 := Lib.hid hn8
      have h8i : 8 * (m : Int) = (n8 : Int) := by omega
      have C1 : Hid (∀ w', Gd wo w' → Calls Try.prog 14 #[.slice b m d, .int .i64 (n8 : Int)] w' (fun e w5 => ∃ g5, e = .returned (.slice (some ⟨g5, 0, none⟩) n8 n8) ∧ Wds w5 (some ⟨g5, 0, none⟩) n8 (unb L n8) ∧ Below w'.heap.size w' w5)) := Lib.hid (by
        intro w' h
        have := U2.out w' h
        rw [h8i, ← H8.out] at this
        refine this.mono ?_
        rintro e w5 ⟨g5, rfl, hg5, hs5, z5⟩
        rw [unb_len]
        refine ⟨g5, rfl, ?_, z5⟩
        have := wds_block (t := 33) (m := (0, 0)) (unb L n8) (by unfold maxLen; rw [unb_len]; have := HM16.out; omega) (by rw [H8.out]; exact HBW.out) hg5
        rw [unb_len] at this
        exact this)
      have C2 : Hid (∀ g5 w5, Wds w5 (some ⟨g5, 0, none⟩) n8 (unb L n8) → Calls Try.prog 13 #[.slice (some ⟨g5, 0, none⟩) n8 n8] w5 (fun e w6 => ∃ g6, e = .returned (.slice (some ⟨g6, 0, none⟩) m m) ∧ (convert 25 9 (.slice (some ⟨g6, 0, none⟩) m m)).run Try.prog w6 = .ok (.string SX) w6 ∧ Below w5.heap.size w5 w6)) := Lib.hid (by
        intro g5 w5 h
        refine (bits_any (some ⟨g5, 0, none⟩) n8 n8 (unb L n8) w5 h (by have := HM16.out; omega)).mono ?_
        rintro e w6 ⟨g6, rfl, hg6, hs6, z6⟩
        rw [show bits (unb L n8) = L by rw [H8.out]; exact HBU.out] at hg6 ⊢
        rw [HLM.out]
        refine ⟨g6, rfl, ?_, z6⟩
        have h2 := conv_bys (cap := L.length) (bys_block (t := 5) (m := (0, 0)) L (by unfold maxLen; rw [HLM.out]; have := HM16.out; omega) H2.out.row.by' hg6)
        rw [HLM.out, HSX.out] at h2
        exact h2)
      have h0 := KS.out _ g0
      have hw8 : IntKind.i64.wrap (n8 : Int) = (n8 : Int) := by simp [IntKind.wrap, IntKind.bits, IntKind.signed]; have := HM16.out; omega
      clear hsx hn8 KS
      have KS := Lib.hid (fun (w' : World) (q : Gd wo w') => show (convert 25 9 (.slice b m d)).run Try.prog w' = .ok (.string SX) w' from by rw [← HSX.out]; exact conv_bys ((H2.out.row.below Z4.out).below q))
      go_wp2_with fail
      go_region_held (fun w' => (convert 25 9 (.slice b m d)).run Try.prog w' = .ok (.string SX) w') (first | exact h0 | exact s5 | exact s6 | go_keep) (first
        | (go_at_call_of 14 n8; refine (C1.out _ g0).mono ?_; rintro e w5 ⟨g5, rfl, hW5, z5⟩; have q5 : Gd wo w5 := Gd.step g0 z5; have W5 := Lib.hid hW5; have s5 := KS.out w5 q5; clear hW5 z5)
        | (go_at_call 13; refine (C2.out g5 _ W5.out).mono ?_; rintro e w6 ⟨g6, rfl, cv6, z6⟩; have q6 : Gd wo w6 := Gd.step q5 z6; have s6 := KS.out w6 q6; clear z6)
        | (go_at_call 14; refine (U3.out _).mono ?_; rintro e w7 ⟨rfl, rfl⟩))
      all_goals
        go_wp2_with fail
        go_ret
        exact ⟨rfl, Z4.out.trans (Below.mono q6 Z4.out.size)⟩
end Go.Proofs.Ytcmolkhaajcmpaa
