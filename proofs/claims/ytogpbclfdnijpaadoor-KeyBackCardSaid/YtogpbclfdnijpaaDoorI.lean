/- Whether words are alike; the document's key, and its sum. -/
import Derived.Test.YtogpbclfdnijpaaDoorH
namespace Go.Proofs.YtogpbclfdnijpaaDoor
set_option linter.unusedVariables false
set_option linter.unusedSimpArgs false
open Go.ChangeShapes Go.WideShapes Go.ChangeAt Go.RowKit

theorem take_snoc' (V : List Nat) (k : Nat) (h : k < V.length) : V.take (k + 1) = V.take k ++ [V.getD k 0] := by
  rw [List.take_add_one, List.getElem?_eq_getElem h]
  simp [List.getD, List.getElem?_eq_getElem h]
theorem Wds.row {W : World} {a : Option Addr} {len : Nat} {L : List Nat} (h : Wds W a len L) : ∀ k, k < len → ∃ b off, a = some ⟨b, off, none⟩ ∧ W.cell? ⟨b, off + k, none⟩ = some (.int .u16 ((L.getD k 0 : Nat) : Int)) := by
  intro k hk
  obtain ⟨b, off, e, _, hc⟩ := h.pos (by omega)
  exact ⟨b, off, e, hc k hk⟩
set_option maxRecDepth 100000 in
set_option maxHeartbeats 4000000 in
theorem samevals_any (a : Option Addr) (n c : Nat) (V : List Nat) (b : Option Addr) (m d : Nat) (U : List Nat) (w : World) (h : Wds w a n V) (h2 : Wds w b m U) :
    Calls Tryd.prog 12 #[.slice a n c, .slice b m d] w fun e w' => e = .returned (.bool (decide (V = U))) ∧ Below w.heap.size w w' := by
  have hln := h.ln
  have hln2 := h2.ln
  have hle := h.le
  unfold maxLen at hle
  by_cases hnm : n = m
  · subst hnm
    have H := Lib.hid h
    have H2 := Lib.hid h2
    have t1 : ((n : Int) != (n : Int)) = false := by simp
    clear h h2
    go_enter Tryd.func12, Tryd.ntmps12
    go_wp2_with fail
    go_loopw [5] (fun i wr => ∃ k : Nat, k ≤ n ∧ i = .int .i64 k ∧ V.take k = U.take k ∧ Below w.heap.size w wr) (fun i _ => n - (intOf i).toNat)
    case atStart => exact ⟨0, Nat.zero_le _, rfl, rfl, Below.refl _ _⟩
    case round =>
      obtain ⟨wo, rfl⟩ : ∃ wo : World, wo = wr := ⟨_, rfl⟩
      obtain ⟨k, hk, rfl, hz, hb⟩ := hrel
      by_cases hkn : k < n
      · obtain ⟨b1, o1, rfl, e1⟩ := (H.out.below hb).row k hkn
        obtain ⟨b2, o2, rfl, e2⟩ := (H2.out.below hb).row k hkn
        have t1' := take_snoc' V k (by omega)
        have t2' := take_snoc' U k (by omega)
        rw [hz] at t1'
        have d0 : (k : Int) < (n : Int) := by omega
        generalize hv : V.getD k 0 = v at e1 t1'
        generalize hu : U.getD k 0 = u at e2 t2'
        have HV := Lib.hid hv
        have HU := Lib.hid hu
        have T1 := Lib.hid t1'
        have T2 := Lib.hid t2'
        have HB := Lib.hid hb
        clear hv hu t1' t2' hz hb
        by_cases hvu : v = u
        · subst hvu
          have tt : ((v : Int) != (v : Int)) = false := by simp
          go_wp2_with fail
          go_region
          all_goals
            go_wp2_with fail
            go_roundw
            case rel => exact ⟨k + 1, by omega, by go_num, by rw [T1.out, T2.out], HB.out.drew⟩
            case measure => simp [intOf]; omega
        · have tt : ((v : Int) != (u : Int)) = true := by simp; omega
          have hne : decide (V = U) = false := decide_eq_false (fun e => hvu (by rw [← HV.out, ← HU.out, e]))
          have HN := Lib.hid hne
          clear hne
          go_wp2_with fail
          go_region
          all_goals
            go_wp2_with fail
            go_ret
            exact ⟨by rw [HN.out]; rfl, HB.out.drew⟩
      · have hk' : k = n := by omega
        subst hk'
        rw [List.take_of_length_le (by omega), List.take_of_length_le (by omega)] at hz
        have HE : Hid (decide (V = U) = true) := Lib.hid (decide_eq_true hz)
        have HB := Lib.hid hb
        clear hz hb
        go_wp2_with fail
        go_ret
        exact ⟨by rw [HE.out]; rfl, HB.out⟩
  · have t1 : ((n : Int) != (m : Int)) = true := by simp; omega
    have hne : decide (V = U) = false := decide_eq_false (fun e => hnm (by rw [← hln, ← hln2, e]))
    have HN := Lib.hid hne
    clear h h2 hne
    go_enter Tryd.func12, Tryd.ntmps12
    go_wp2_with fail
    go_ret
    exact ⟨by rw [HN.out]; rfl, Below.refl _ _⟩
theorem key_step (s : ByteArray) (k : Nat) (h : k < s.size) : ((sl s).take (k + 1)).all (fun x => decide (x ≠ 0)) = (((sl s).take k).all (fun x => decide (x ≠ 0)) && decide (s[k].toNat ≠ 0)) := by
  rw [sl_take s k h, List.all_append]; simp
set_option maxRecDepth 100000 in
set_option maxHeartbeats 4000000 in
theorem refKey_any (s : ByteArray) (w : World) (hs : s.size ≤ maxLen) : Calls Tryd.prog 17 #[.string s] w fun e w' => e = .returned (.bool (keyB (sl s))) ∧ w' = w := by
  unfold maxLen at hs
  have hkb : keyB (sl s) = (decide (0 < s.size) && decide (s.size ≤ 32) && (sl s).all fun x => decide (x ≠ 0)) := by unfold keyB; rw [sl_len]
  obtain ⟨P, hP⟩ : ∃ P, P = (fun (e : Ending) (w' : World) => e = .returned (.bool (keyB (sl s))) ∧ w' = w) := ⟨_, rfl⟩
  rw [← hP]
  have FIN : Hid (∀ b, b = (decide (0 < s.size) && decide (s.size ≤ 32) && (sl s).all fun x => decide (x ≠ 0)) → P (.returned (.bool b)) w) := Lib.hid (fun b e => by rw [hP, e, hkb]; exact ⟨rfl, rfl⟩)
  clear hkb hP
  go_enter Tryd.func17, Tryd.ntmps17
  go_wp2_with fail
  go_loop [3] (fun iv => ∃ k : Nat, k ≤ s.size ∧ iv = .int .i64 k ∧ ((sl s).take k).all (fun x => decide (x ≠ 0)) = true) (fun iv => s.size - (intOf iv).toNat)
  case atStart => exact ⟨0, Nat.zero_le _, rfl, rfl⟩
  case round =>
    obtain ⟨k, hk, rfl, hz⟩ := hrel
    by_cases hkn : k < s.size
    · have hst := key_step s k hkn
      rw [hz, Bool.true_and] at hst
      have kI : (k : Int) < (s.size : Int) := by omega
      have HZ := Lib.hid hst
      by_cases h0 : s[k].toNat = 0
      · have t0 : (((s[k].toNat : Nat) : Int) == 0) = true := by simp [h0]
        have hf : (sl s).all (fun x => decide (x ≠ 0)) = false := by
          rw [← Bool.not_eq_true]
          intro e
          rw [← List.take_append_drop (k + 1) (sl s), List.all_append, HZ.out] at e
          simp [h0] at e
        have HF := Lib.hid hf
        clear hst hz hf h0
        go_wp2_with fail
        exact FIN.out _ (by rw [HF.out, Bool.and_false])
      · have t0 : (((s[k].toNat : Nat) : Int) == 0) = false := by simp [h0]
        have hst2 : ((sl s).take (k + 1)).all (fun x => decide (x ≠ 0)) = true := by rw [hst]; simp [h0]
        have H2 := Lib.hid hst2
        clear hst hz hst2 h0
        go_wp2_with fail
        go_round
        case rel => exact ⟨k + 1, by omega, by go_num, H2.out⟩
        case measure => simp [intOf]; omega
    · obtain rfl : k = s.size := by omega
      rw [List.take_of_length_le (by rw [sl_len]; exact Nat.le_refl _)] at hz
      have HZ := Lib.hid hz
      clear hz
      by_cases h1 : 0 < s.size
      · have t1 : decide ((1 : Int) ≤ (s.size : Int)) = true := by rw [decide_eq_true_eq]; omega
        have u1 : decide (0 < s.size) = true := by rw [decide_eq_true_eq]; omega
        by_cases h2 : s.size ≤ 32
        · have t2 : decide ((s.size : Int) ≤ 32) = true := by rw [decide_eq_true_eq]; omega
          have u2 : decide (s.size ≤ 32) = true := by rw [decide_eq_true_eq]; omega
          have HE : Hid ((decide (0 < s.size) && decide (s.size ≤ 32) && (sl s).all fun x => decide (x ≠ 0)) = true) := Lib.hid (by rw [u1, u2, HZ.out]; rfl)
          clear u1 u2
          go_wp2_with fail
          exact FIN.out _ (by rw [HE.out])
        · have t2 : decide ((s.size : Int) ≤ 32) = false := by rw [decide_eq_false_iff_not]; omega
          have u2 : decide (s.size ≤ 32) = false := by rw [decide_eq_false_iff_not]; omega
          have HE : Hid ((decide (0 < s.size) && decide (s.size ≤ 32) && (sl s).all fun x => decide (x ≠ 0)) = false) := Lib.hid (by rw [u1, u2]; rfl)
          clear u1 u2
          go_wp2_with fail
          exact FIN.out _ (by rw [HE.out])
      · have t1 : decide ((1 : Int) ≤ (s.size : Int)) = false := by rw [decide_eq_false_iff_not]; omega
        have u1 : decide (0 < s.size) = false := by rw [decide_eq_false_iff_not]; omega
        have HE : Hid ((decide (0 < s.size) && decide (s.size ≤ 32) && (sl s).all fun x => decide (x ≠ 0)) = false) := Lib.hid (by rw [u1]; rfl)
        clear u1
        go_wp2_with fail
        exact FIN.out _ (by rw [HE.out])
/-- The document's digits so far. -/
structure DgR (w W : World) (h u c : Nat) (D : List Nat) : Prop where
  cD : c + D.length = 16
  hx : hexF 16 h = hexF c u ++ D
  by' : ∀ b ∈ D, b < 256
  blk : W.heap[w.heap.size]? = some (.cells (bv (List.replicate c 0 ++ D)).toArray 5 (0, 0))
  bel : Below w.heap.size w W
theorem DgR.next {w W : World} {h u c : Nat} {D : List Nat} (H : DgR w W h u (c + 1) D) : DgR w (W.setCell ⟨w.heap.size, c, none⟩ (.int .u8 ((hexd (u % 16) : Nat) : Int))) h (u / 16) c (hexd (u % 16) :: D) := by
  have := set_bv H.blk c (hexd (u % 16))
  rw [set_rep] at this
  refine ⟨by have := H.cD; simp only [List.length_cons]; omega, ?_, ?_, this, H.bel.setCell (Nat.le_refl _) _⟩
  · rw [H.hx, hexF, List.append_assoc]; rfl
  · intro b hb
    rcases List.mem_cons.1 hb with q | q
    · rw [q]; exact hexd_by _ (by omega)
    · exact H.by' b q
theorem made16 (w : World) : (Instr.makeSlice 30 (.int .i64 16) (.int .i64 16)).run Tryd.prog w = .ok (.slice (some ⟨w.heap.size, 0, none⟩) 16 16) (w.alloc (.cells (bv (List.replicate 16 0)).toArray 5 (0, 0))) := by kernel_rfl
theorem hexd_lo {d : Nat} (h : d < 10) : IntKind.u8.wrap (48 + (d : Int)) = ((hexd d : Nat) : Int) := by
  unfold hexd; rw [if_pos h]
  simp only [IntKind.wrap, IntKind.bits, IntKind.signed]
  simp
  omega
theorem hexd_hi {d : Nat} (h : ¬ d < 10) (h2 : d < 16) : IntKind.u8.wrap (IntKind.u8.wrap (97 + (d : Int)) - 10) = ((hexd d : Nat) : Int) := by
  unfold hexd; rw [if_neg h]
  simp only [IntKind.wrap, IntKind.bits, IntKind.signed]
  simp
  omega
set_option maxRecDepth 100000 in
set_option maxHeartbeats 8000000 in
theorem refSum_any (s : ByteArray) (w : World) (hs : s.size ≤ maxLen) : Calls Tryd.prog 11 #[.string s] w (StrP w (sumS (sl s))) := by
  obtain ⟨P, hP⟩ : ∃ P, P = (StrP w (sumS (sl s)) : Ending → World → Prop) := ⟨_, rfl⟩
  rw [← hP]
  have HP := Lib.hid hP
  have IK := Lib.hid (fun W => refKey_any s W hs)
  cases hb : keyB (sl s) with
  | false =>
    rw [hb] at IK
    have HB := Lib.hid hb
    clear hP hb hs
    go_enter Tryd.func11, Tryd.ntmps11
    go_wp2_with fail
    refine (IK.out _).mono ?_
    rintro e w1 ⟨rfl, e1⟩
    rw [e1]
    go_wp2_with fail
    rw [HP.out]
    unfold sumS
    rw [if_neg (by rw [HB.out]; simp)]
    exact ⟨rfl, Below.refl _ _⟩
  | true =>
    rw [hb] at IK
    have h32 : s.size ≤ 100000 := by
      unfold keyB at hb
      rw [sl_len] at hb
      simp at hb
      omega
    have FIN : Hid (∀ W, Below w.heap.size w W → P (.returned (.string (strN (hexF 16 (sumN (sl s)))))) W) := Lib.hid (fun W h => by rw [HP.out]; unfold sumS; rw [if_pos hb]; exact ⟨rfl, h⟩)
    obtain ⟨z, hz⟩ : ∃ z : Int, z = 14695981039346656037 := ⟨_, rfl⟩
    clear hP hb hs HP hz
    go_enter Tryd.func11, Tryd.ntmps11
    go_wp2_with fail
    refine (IK.out _).mono ?_
    rintro e w1 ⟨rfl, e1⟩
    rw [e1]
    clear e1
    go_wp2_with fail
    go_loop [3, 4] (fun uv iv => ∃ t : Nat, t ≤ 64 ∧ iv = .int .i64 t ∧ uv = .int .u64 ((sumK (sl s) t : Nat) : Int)) (fun _ iv => 64 - (intOf iv).toNat)
    case atStart => exact ⟨0, by omega, rfl, by rw [show sumK (sl s) 0 = startN from rfl, startN_eq]⟩
    case round =>
      obtain ⟨t, ht, rfl, rfl⟩ := hrel
      have hlt := sumK_lt (sl s) t
      by_cases ht64 : t < 64
      · have htI : (t : Int) < 64 := by omega
        obtain ⟨h0, hh0⟩ : ∃ h, h = sumK (sl s) t := ⟨_, rfl⟩
        rw [← hh0] at hlt ⊢
        have HH0 := Lib.hid hh0
        have HLT := Lib.hid hlt
        clear hh0 hlt
        go_wp2_with fail
        go_loop [3, 5] (fun uv iv => ∃ k : Nat, k ≤ s.size ∧ iv = .int .i64 k ∧ uv = .int .u64 ((((sl s).take k).foldl fnv h0 : Nat) : Int)) (fun _ iv => s.size - (intOf iv).toNat)
        case atStart => exact ⟨0, Nat.zero_le _, rfl, by simp⟩
        case round =>
          obtain ⟨k, hk, rfl, rfl⟩ := hrel
          have hl1 := fold_lt ((sl s).take k) h0 HLT.out
          by_cases hkn : k < s.size
          · have htk := sl_take s k hkn
            have hx : s[k].toNat < modN := u8_mod _
            have hfe := fnv_eq hl1 hx
            have hw := wrap_u64 hx
            have kI : (k : Int) < (s.size : Int) := by omega
            have hfo : ((sl s).take (k + 1)).foldl fnv h0 = fnv (((sl s).take k).foldl fnv h0) s[k].toNat := by rw [htk, List.foldl_append, List.foldl_cons, List.foldl_nil]
            have HFO := Lib.hid hfo
            clear htk hx hfo hl1
            go_wp2_with fail
            go_round
            case rel => exact ⟨k + 1, by omega, by go_num, by rw [HFO.out]⟩
            case measure => simp [intOf]; omega
          · obtain rfl : k = s.size := by omega
            have htt : (sl s).take s.size = sl s := List.take_of_length_le (by rw [sl_len]; exact Nat.le_refl _)
            rw [htt] at hl1 ⊢
            have hfe := fnv_eq hl1 (small_mod (x := t) (by omega))
            have hw := wrap_u64 (small_mod (x := t) (by omega))
            have hr : sumK (sl s) (t + 1) = fnv ((sl s).foldl fnv h0) t := by rw [HH0.out]; rfl
            have HR := Lib.hid hr
            clear hl1 hr htt
            go_wp2_with fail
            go_round
            case rel => exact ⟨t + 1, by omega, by go_num, by rw [HR.out]⟩
            case measure => simp [intOf]; omega
      · obtain rfl : t = 64 := by omega
        have hmk := fun W => made16 W
        obtain ⟨Z, hZ⟩ : ∃ Z, Z = (bv (List.replicate 16 0)).toArray := ⟨_, rfl⟩
        rw [← hZ] at hmk
        obtain ⟨H, hH⟩ : ∃ H, H = sumK (sl s) 64 := ⟨_, rfl⟩
        rw [← hH] at hlt ⊢
        have D0 : Hid (DgR w (w.alloc (.cells Z 5 (0, 0))) H H 16 []) := Lib.hid ⟨rfl, by simp, by simp, by rw [hZ]; simpa using heap_alloc_new w _, (Below.refl _ _).alloc (Nat.le_refl _) _⟩
        have HF := Lib.hid (fun W (hb : Below w.heap.size w W) => (by rw [hH]; exact FIN.out W hb : P (.returned (.string (strN (hexF 16 H)))) W))
        have HLT := Lib.hid hlt
        clear hZ hlt hH
        go_wp2_with fail
        clear hmk
        go_loopw [3, 7, 8] (fun uv iv dv wr => ∃ (u c : Nat) (D : List Nat), uv = .int .u64 (u : Int) ∧ iv = .int .i64 ((c : Int) - 1) ∧ u < modN ∧ DgR w wr H u c D) (fun _ iv _ _ => (intOf iv + 1).toNat)
        case atStart => exact ⟨H, 16, [], rfl, rfl, HLT.out, D0.out⟩
        case round =>
          obtain ⟨wo, rfl⟩ : ∃ wo : World, wo = wr := ⟨_, rfl⟩
          obtain ⟨u, c, D, rfl, rfl, hu, hD⟩ := hrel
          rcases Nat.eq_zero_or_pos c with hc | hc
          · subst hc
            have hDD : D = hexF 16 H := by have := hD.hx; rw [this, hexF]; rfl
            have hB := bys_block (hexF 16 H) (by rw [hexF_len]; unfold maxLen; omega) (hexF_by _ _) (by have := hD.blk; rw [hDD] at this; simpa using this)
            rw [hexF_len] at hB
            have hcv := conv_bys (cap := 16) hB
            have FF := Lib.hid (HF.out wo hD.bel)
            clear hD hB hDD hu
            go_wp2_with fail
            exact FF.out
          · obtain ⟨c, rfl⟩ : ∃ k, c = k + 1 := ⟨c - 1, by omega⟩
            have hcD := hD.cD
            have hcell : ∃ v, wo.cell? ⟨w.heap.size, c, none⟩ = some v := by
              have := hD.blk
              simp only [World.cell?, this]
              exact ⟨_, by simpa using bv_get (List.replicate (c + 1) 0 ++ D) c (by simp; omega)⟩
            obtain ⟨v, hcell⟩ := hcell
            have hfz : wo.frozen? ⟨w.heap.size, c, none⟩ = false := by simp [World.frozen?, hD.blk]
            have NX := Lib.hid hD.next
            have c16 : (c : Int) < 16 := by omega
            have c0 : (0 : Int) ≤ (c : Int) := by omega
            have cN : c < 16 := by omega
            have hcc : ((c + 1 : Nat) : Int) - 1 = (c : Int) := by omega
            have hu2 : u / 16 < modN := by omega
            have HU2 := Lib.hid hu2
            have HWU : Hid (IntKind.u64.wrap ((u : Int) / 16) = ((u / 16 : Nat) : Int)) := Lib.hid (by rw [show (u : Int) / 16 = ((u / 16 : Nat) : Int) by omega]; exact wrap_u64 hu2)
            have hw8 : IntKind.u8.wrap (((u % 16 : Nat) : Int)) = ((u % 16 : Nat) : Int) := by
              simp only [IntKind.wrap, IntKind.bits, IntKind.signed]
              simp
              omega
            have hmod : (u : Int) % 16 = ((u % 16 : Nat) : Int) := by omega
            have hd16 : u % 16 < 16 := by omega
            obtain ⟨d, hd⟩ : ∃ d, d = u % 16 := ⟨_, rfl⟩
            rw [← hd] at NX hw8 hmod hd16
            clear hD hu hu2 hcD hd
            by_cases hd10 : d < 10
            · have hlo : ((hexd d : Nat) : Int) = 48 + (d : Int) := by unfold hexd; rw [if_pos hd10]; omega
              rw [hlo] at NX
              clear hlo
              have t0 : decide ((d : Int) < 10) = true := by rw [decide_eq_true_eq]; omega
              go_wp2_with fail
              go_roundw
              case rel => exact ⟨u / 16, c, _, by rw [HWU.out], by go_num, HU2.out, NX.out⟩
              case measure => simp [intOf]
            · have hhi : ((hexd d : Nat) : Int) = 97 + (d : Int) - 10 := by unfold hexd; rw [if_neg hd10]; omega
              rw [hhi] at NX
              clear hhi
              have t0 : decide ((d : Int) < 10) = false := by rw [decide_eq_false_iff_not]; omega
              go_wp2_with fail
              go_roundw
              case rel => exact ⟨u / 16, c, _, by rw [HWU.out], by go_num, HU2.out, NX.out⟩
              case measure => simp [intOf]
end Go.Proofs.YtogpbclfdnijpaaDoor
