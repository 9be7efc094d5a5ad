/- The document's disk: what is written. -/
import Derived.Test.YtpjddinbbglgmaaDc
import Derived.Deep.RegionHeld
import Derived.BigRegion
namespace Go.Proofs.Ytpjddinbbglgmaa
set_option linter.unusedVariables false
set_option linter.unusedSimpArgs false
open Go.ChangeShapes Go.WideShapes Go.ChangeAt Go.RowKit

theorem rwrite_down {B : Nat} {w : World} {p g c m wr : Nat} {ct : Option (Nat × Nat)} {L : List Nat} (i : Int) (a : Option Addr) (len cap : Nat) (h : Rk B w p g c m ct true wr L) :
    Calls Try.prog 19 #[.pointer (some ⟨p, 0, none⟩), .int .i64 i, .slice a len cap] w fun e w' => e = .returned (.int .i64 101) ∧ w = w' := by
  obtain ⟨b, t, wa, me, hpb, h2, h3⟩ := h.pb
  have c1 := (r8 hpb).c1
  clear h hpb h3 h2
  go_enter Try.func19, Try.ntmps19
  go_wp2_with fail
  go_ret
  exact ⟨rfl, rfl⟩
theorem rwrite_arg {B : Nat} {w : World} {p g c m wr : Nat} {ct : Option (Nat × Nat)} {L : List Nat} (i : Int) (a : Option Addr) (len cap : Nat) (hl : len ≤ maxLen) (h : Rk B w p g c m ct false wr L) (hi : hasB m i = false ∨ 64 < len) :
    Calls Try.prog 19 #[.pointer (some ⟨p, 0, none⟩), .int .i64 i, .slice a len cap] w fun e w' => e = .returned (.int .i64 1) ∧ w = w' := by
  obtain ⟨b, t, wa, me, hpb, h2, h3⟩ := h.pb
  have c1 := (r8 hpb).c1
  have c0 := (r8 hpb).c0
  clear h hpb h3 h2
  by_cases h0 : i < 0
  · have d1 : decide (i < 0) = true := by simpa using h0
    clear hi
    go_enter Try.func19, Try.ntmps19
    go_wp2_with fail
    go_ret
    exact ⟨rfl, rfl⟩
  · have d1 : decide (i < 0) = false := by simpa using h0
    by_cases hm : (m : Int) ≤ i
    · have d2 : decide ((m : Int) ≤ i) = true := by simpa using hm
      clear hi
      go_enter Try.func19, Try.ntmps19
      go_wp2_with fail
      go_ret
      exact ⟨rfl, rfl⟩
    · have d2 : decide ((m : Int) ≤ i) = false := by simpa using hm
      have d3 : decide ((64 : Int) < (len : Int)) = true := by
        rcases hi with hi | hi
        · simp [hasB] at hi; have := hi (by omega); omega
        · simp; omega
      clear hi hm
      go_enter Try.func19, Try.ntmps19
      go_wp2_with fail
      go_ret
      exact ⟨rfl, rfl⟩

def RWriteP (B : Nat) (w : World) (p g c m wr i : Nat) (ct : Option (Nat × Nat)) (L f : List Nat) (e : Ending) (w' : World) : Prop :=
  e = .returned (.int .i64 0) ∧ Rk B w' p g c m ct false (wr + 1) (splice L (i * 64) (whole f)) ∧ Fr p g none w w'
def RTornP (B : Nat) (w : World) (p g c m wr i n : Nat) (L f : List Nat) (e : Ending) (w' : World) : Prop :=
  e = .returned (.int .i64 101) ∧ Rk B w' p g c m none true wr (splice L (i * 64) ((whole f).take n)) ∧ Fr p g none w w'
set_option maxRecDepth 100000 in
set_option maxHeartbeats 4000000 in
theorem rwrite_none {B : Nat} {w : World} {p g c m wr : Nat} {L : List Nat}  (i : Nat) (a : Option Addr) (len cap : Nat) (f : List Nat) (h : Rk B w p g c m none false wr L) (hi : i < m) (hf : Bys w a len f) (hl : len ≤ 64) (hw : wr ≤ 1000000000)  :
    Calls Try.prog 19 #[.pointer (some ⟨p, 0, none⟩), .int .i64 (i : Int), .slice a len cap] w (RWriteP B w p g c m wr i none L f) := by
  obtain ⟨P, hP⟩ : ∃ P, P = (RWriteP B w p g c m wr i none L f : Ending → World → Prop) := ⟨_, rfl⟩
  rw [← hP]
  have d1 : decide ((i : Int) < 0) = false := by simp
  have d2 : decide ((m : Int) ≤ (i : Int)) = false := by simp; omega
  have d3 : decide ((64 : Int) < (len : Int)) = false := by simp; omega
  obtain ⟨z, hz⟩ : ∃ z, z = 64 - len := ⟨_, rfl⟩
  have hz2 : (64 : Int) - (len : Int) = (z : Int) := by omega
  have hsub : IntKind.i64.wrap ((64 : Int) - (len : Int)) = (z : Int) := by rw [hz2]; exact IntWalk.i64_in _ (by omega)
  have H := Lib.hid h
  obtain ⟨by', t, wa, me, hpb, h2, h3⟩ := h.pb
  obtain ⟨cur, hgb, hrow⟩ := h.gb
  have HT0 : Hid (Ht p g #[.slice (some ⟨g, 0, none⟩) m c, .bool false, .int .i64 (afV none), .int .i64 (by' : Int), .int .i64 (wr : Int), .int .i64 t, .string wa, .string me] cur w w) := Lib.hid ⟨h.ne, hpb, hgb, Fr.refl ..⟩
  have hne1 : ¬ p = g := h.ne
  have hne2 : ¬ g = p := fun e => h.ne e.symm
  have c1 := (r8 hpb).c1
  have c0 := (r8 hpb).c0
  have HZ := Lib.hid (fun W => zeros_any z (by omega) W)
  obtain ⟨SF, hSF⟩ : ∃ s, s = strN f := ⟨_, rfl⟩
  have hKS : ∀ w', Below w.heap.size w w' → (convert 29 9 (.slice a len cap)).run Try.prog w' = .ok (.string SF) w' := fun w' hb => by rw [hSF]; exact conv_bys (hf.below hb)
  have KS := Lib.hid hKS
  obtain ⟨SZ, hSZ⟩ : ∃ s, s = strN (List.replicate z 0) := ⟨_, rfl⟩
  rw [← hSZ] at HZ
  have hsz1 : SF.size = len := by rw [hSF, strN_size, hf.ln]
  have hsz2 : SZ.size = z := by rw [hSZ, strN_size]; simp
  have hszs : ¬ (9223372036854775807 < SF.size + SZ.size) := by omega
  have hfl : f.length ≤ 64 := by rw [hf.ln]; exact hl
  have SW : Hid (SF ++ SZ = .mk (strN (whole f)).data) := Lib.hid (by rw [hSF, hSZ, strN_app, hz, ← hf.ln]; rfl)
  have hby : ∀ b ∈ whole f, b < 256 := whole_by hf.by'
  have hwl := whole_len hfl
  have HROW := Lib.hid hrow
  have HB3 := Lib.hid h3
  have HB2 := Lib.hid h2
  have HWB := Lib.hid hby
  have HWL := Lib.hid hwl
  obtain ⟨SS, hSS⟩ : ∃ s, s = strN (whole f) := ⟨_, rfl⟩
  have SW : Hid (SF ++ SZ = SS) := Lib.hid (by rw [hSS, hSF, hSZ, strN_app, hz, ← hf.ln]; rfl)
  have HSS := Lib.hid hSS
  have FIN : Hid (∀ W', Ht p g #[.slice (some ⟨g, 0, none⟩) m c, .bool false, .int .i64 (afV none), .int .i64 (by' : Int), .int .i64 ((wr + 1 : Nat) : Int), .int .i64 t, .string wa, .string me] (cur.setIfInBounds i (.string SS)) w W' → P (.returned (.int .i64 0)) W') := Lib.hid (by
    intro W' ht
    rw [hP]
    refine ⟨rfl, ?_, ht.fr⟩
    refine H.out.laid HROW.out hi (whole f) (by rw [HWL.out]; exact Nat.le_refl _) HWB.out h2 (fun x e => by cases e) (by
      rw [HWL.out, List.drop_of_length_le (by rw [sec_len H.out.len hi]; exact Nat.le_refl _), List.append_nil, ← hSS]; exact ht))
  clear hP
  clear hz hz2 h h2 h3 hKS hSF hSZ hf hby hfl hwl hrow hgb hpb hSS
  go_enter Try.func19, Try.ntmps19
  go_upto_region 5 with fail
  have g0 : Below w.heap.size w w.drew := (Below.refl _ _).drew
  have h0 := KS.out _ g0
  go_region_held (fun w' => (convert 29 9 (.slice a len cap)).run Try.prog w' = .ok (.string SF) w') (first | exact h0 | exact s5 | go_keep) (first
    | (go_at_call 27; refine (HZ.out _).mono ?_; rintro e w5 ⟨rfl, z5⟩; have q5 : Below w.heap.size w w5 := g0.trans (z5.mono g0.size); have s5 := KS.out w5 q5; clear z5))
  all_goals
    have HT5 := Lib.hid (HT0.out.below q5)
    clear HT0 hsub g0 h0 s5 c1 c0 hsz1 hsz2 hszs
    rw [SW.out]
    obtain ⟨e0, _⟩ := HT5.out.cellP 0
    obtain ⟨e1, z1⟩ := HT5.out.cellP 1
    obtain ⟨e2, z2⟩ := HT5.out.cellP 2
    obtain ⟨e3, z3⟩ := HT5.out.cellP 3
    obtain ⟨e4, z4⟩ := HT5.out.cellP 4
    obtain ⟨e5, z5⟩ := HT5.out.cellP 5
    obtain ⟨e6, z6⟩ := HT5.out.cellP 6
    obtain ⟨e7, z7⟩ := HT5.out.cellP 7
    obtain ⟨k0, zg⟩ := HT5.out.cellG i
    rw [HROW.out i hi] at k0
    simp only [List.getElem?_toArray, List.getElem?_cons_zero, List.getElem?_cons_succ] at e0 e1 e2 e3 e4 e5 e6 e7
    have i1 : (i : Int) < (m : Int) := by omega
    have d5 : (afV none : Int) = -1 := rfl
    rw [d5] at e2
    have s1 : IntKind.i64.wrap ((wr : Int) + 1) = ((wr + 1 : Nat) : Int) := by rw [show ((wr : Int) + 1) = ((wr + 1 : Nat) : Int) by omega]; exact IntWalk.i64_in _ (by omega)
    go_wp2_with fail
    rw [show ((wr : Int) + 1) = ((wr + 1 : Nat) : Int) by omega]
    exact FIN.out _ ((HT5.out.setG i _).setP 4 _)
set_option maxRecDepth 100000 in
set_option maxHeartbeats 4000000 in
theorem rwrite_some {B : Nat} {w : World} {p g c m wr : Nat} {L : List Nat} {x1 x2 : Nat} (i : Nat) (a : Option Addr) (len cap : Nat) (f : List Nat) (h : Rk B w p g c m (some (x1, x2)) false wr L) (hi : i < m) (hf : Bys w a len f) (hl : len ≤ 64) (hw : wr ≤ 1000000000) (hx1 : 0 < x1) (hx1b : x1 ≤ 9223372036854775807) :
    Calls Try.prog 19 #[.pointer (some ⟨p, 0, none⟩), .int .i64 (i : Int), .slice a len cap] w (RWriteP B w p g c m wr i (some (x1 - 1, x2)) L f) := by
  obtain ⟨P, hP⟩ : ∃ P, P = (RWriteP B w p g c m wr i (some (x1 - 1, x2)) L f : Ending → World → Prop) := ⟨_, rfl⟩
  rw [← hP]
  have d1 : decide ((i : Int) < 0) = false := by simp
  have d2 : decide ((m : Int) ≤ (i : Int)) = false := by simp; omega
  have d3 : decide ((64 : Int) < (len : Int)) = false := by simp; omega
  obtain ⟨z, hz⟩ : ∃ z, z = 64 - len := ⟨_, rfl⟩
  have hz2 : (64 : Int) - (len : Int) = (z : Int) := by omega
  have hsub : IntKind.i64.wrap ((64 : Int) - (len : Int)) = (z : Int) := by rw [hz2]; exact IntWalk.i64_in _ (by omega)
  have H := Lib.hid h
  obtain ⟨by', t, wa, me, hpb, h2, h3⟩ := h.pb
  obtain ⟨cur, hgb, hrow⟩ := h.gb
  have HT0 : Hid (Ht p g #[.slice (some ⟨g, 0, none⟩) m c, .bool false, .int .i64 (afV (some (x1, x2))), .int .i64 (by' : Int), .int .i64 (wr : Int), .int .i64 t, .string wa, .string me] cur w w) := Lib.hid ⟨h.ne, hpb, hgb, Fr.refl ..⟩
  have hne1 : ¬ p = g := h.ne
  have hne2 : ¬ g = p := fun e => h.ne e.symm
  have c1 := (r8 hpb).c1
  have c0 := (r8 hpb).c0
  have HZ := Lib.hid (fun W => zeros_any z (by omega) W)
  obtain ⟨SF, hSF⟩ : ∃ s, s = strN f := ⟨_, rfl⟩
  have hKS : ∀ w', Below w.heap.size w w' → (convert 29 9 (.slice a len cap)).run Try.prog w' = .ok (.string SF) w' := fun w' hb => by rw [hSF]; exact conv_bys (hf.below hb)
  have KS := Lib.hid hKS
  obtain ⟨SZ, hSZ⟩ : ∃ s, s = strN (List.replicate z 0) := ⟨_, rfl⟩
  rw [← hSZ] at HZ
  have hsz1 : SF.size = len := by rw [hSF, strN_size, hf.ln]
  have hsz2 : SZ.size = z := by rw [hSZ, strN_size]; simp
  have hszs : ¬ (9223372036854775807 < SF.size + SZ.size) := by omega
  have hfl : f.length ≤ 64 := by rw [hf.ln]; exact hl
  have SW : Hid (SF ++ SZ = .mk (strN (whole f)).data) := Lib.hid (by rw [hSF, hSZ, strN_app, hz, ← hf.ln]; rfl)
  have hby : ∀ b ∈ whole f, b < 256 := whole_by hf.by'
  have hwl := whole_len hfl
  have HROW := Lib.hid hrow
  have HB3 := Lib.hid h3
  have HB2 := Lib.hid h2
  have HWB := Lib.hid hby
  have HWL := Lib.hid hwl
  obtain ⟨SS, hSS⟩ : ∃ s, s = strN (whole f) := ⟨_, rfl⟩
  have SW : Hid (SF ++ SZ = SS) := Lib.hid (by rw [hSS, hSF, hSZ, strN_app, hz, ← hf.ln]; rfl)
  have HSS := Lib.hid hSS
  have FIN : Hid (∀ W', Ht p g #[.slice (some ⟨g, 0, none⟩) m c, .bool false, .int .i64 (afV (some (x1 - 1, x2))), .int .i64 (by' : Int), .int .i64 ((wr + 1 : Nat) : Int), .int .i64 t, .string wa, .string me] (cur.setIfInBounds i (.string SS)) w W' → P (.returned (.int .i64 0)) W') := Lib.hid (by
    intro W' ht
    rw [hP]
    refine ⟨rfl, ?_, ht.fr⟩
    refine H.out.laid HROW.out hi (whole f) (by rw [HWL.out]; exact Nat.le_refl _) HWB.out h2 (fun x e => by cases e; exact HB3.out (x1, x2) rfl) (by
      rw [HWL.out, List.drop_of_length_le (by rw [sec_len H.out.len hi]; exact Nat.le_refl _), List.append_nil, ← hSS]; exact ht))
  clear hP
  clear hz hz2 h h2 h3 hKS hSF hSZ hf hby hfl hwl hrow hgb hpb hSS
  go_enter Try.func19, Try.ntmps19
  go_upto_region 5 with fail
  have g0 : Below w.heap.size w w.drew := (Below.refl _ _).drew
  have h0 := KS.out _ g0
  go_region_held (fun w' => (convert 29 9 (.slice a len cap)).run Try.prog w' = .ok (.string SF) w') (first | exact h0 | exact s5 | go_keep) (first
    | (go_at_call 27; refine (HZ.out _).mono ?_; rintro e w5 ⟨rfl, z5⟩; have q5 : Below w.heap.size w w5 := g0.trans (z5.mono g0.size); have s5 := KS.out w5 q5; clear z5))
  all_goals
    have HT5 := Lib.hid (HT0.out.below q5)
    clear HT0 hsub g0 h0 s5 c1 c0 hsz1 hsz2 hszs
    rw [SW.out]
    obtain ⟨e0, _⟩ := HT5.out.cellP 0
    obtain ⟨e1, z1⟩ := HT5.out.cellP 1
    obtain ⟨e2, z2⟩ := HT5.out.cellP 2
    obtain ⟨e3, z3⟩ := HT5.out.cellP 3
    obtain ⟨e4, z4⟩ := HT5.out.cellP 4
    obtain ⟨e5, z5⟩ := HT5.out.cellP 5
    obtain ⟨e6, z6⟩ := HT5.out.cellP 6
    obtain ⟨e7, z7⟩ := HT5.out.cellP 7
    obtain ⟨k0, zg⟩ := HT5.out.cellG i
    rw [HROW.out i hi] at k0
    simp only [List.getElem?_toArray, List.getElem?_cons_zero, List.getElem?_cons_succ] at e0 e1 e2 e3 e4 e5 e6 e7
    have i1 : (i : Int) < (m : Int) := by omega
    have d5 : (afV (some (x1, x2)) : Int) = (x1 : Int) := rfl
    rw [d5] at e2
    have s1 : IntKind.i64.wrap ((wr : Int) + 1) = ((wr + 1 : Nat) : Int) := by rw [show ((wr : Int) + 1) = ((wr + 1 : Nat) : Int) by omega]; exact IntWalk.i64_in _ (by omega)
    have s2 : IntKind.i64.wrap ((x1 : Int) - 1) = ((x1 - 1 : Nat) : Int) := by rw [show ((x1 : Int) - 1) = ((x1 - 1 : Nat) : Int) by omega]; exact IntWalk.i64_in _ (by omega)
    have d6 : ((x1 : Int) == 0) = false := by simp; omega
    have d7 : decide ((0 : Int) < (x1 : Int)) = true := by simp; omega
    go_wp2_with fail
    rw [show ((wr : Int) + 1) = ((wr + 1 : Nat) : Int) by omega]
    exact FIN.out _ (((HT5.out.setG i _).setP 4 _).setP 2 _)
set_option maxRecDepth 100000 in
set_option maxHeartbeats 4000000 in
theorem rwrite_torn {B : Nat} {w : World} {p g c m wr : Nat} {L : List Nat} {n : Nat} (i : Nat) (a : Option Addr) (len cap : Nat) (f : List Nat) (h : Rk B w p g c m (some (0, n)) false wr L) (hi : i < m) (hf : Bys w a len f) (hl : len ≤ 64) (hw : wr ≤ 1000000000)  :
    Calls Try.prog 19 #[.pointer (some ⟨p, 0, none⟩), .int .i64 (i : Int), .slice a len cap] w (RTornP B w p g c m wr i n L f) := by
  obtain ⟨P, hP⟩ : ∃ P, P = (RTornP B w p g c m wr i n L f : Ending → World → Prop) := ⟨_, rfl⟩
  rw [← hP]
  have d1 : decide ((i : Int) < 0) = false := by simp
  have d2 : decide ((m : Int) ≤ (i : Int)) = false := by simp; omega
  have d3 : decide ((64 : Int) < (len : Int)) = false := by simp; omega
  obtain ⟨z, hz⟩ : ∃ z, z = 64 - len := ⟨_, rfl⟩
  have hz2 : (64 : Int) - (len : Int) = (z : Int) := by omega
  have hsub : IntKind.i64.wrap ((64 : Int) - (len : Int)) = (z : Int) := by rw [hz2]; exact IntWalk.i64_in _ (by omega)
  have H := Lib.hid h
  obtain ⟨by', t, wa, me, hpb, h2, h3⟩ := h.pb
  obtain ⟨cur, hgb, hrow⟩ := h.gb
  have HT0 : Hid (Ht p g #[.slice (some ⟨g, 0, none⟩) m c, .bool false, .int .i64 (afV (some (0, n))), .int .i64 (by' : Int), .int .i64 (wr : Int), .int .i64 t, .string wa, .string me] cur w w) := Lib.hid ⟨h.ne, hpb, hgb, Fr.refl ..⟩
  have hne1 : ¬ p = g := h.ne
  have hne2 : ¬ g = p := fun e => h.ne e.symm
  have c1 := (r8 hpb).c1
  have c0 := (r8 hpb).c0
  have HZ := Lib.hid (fun W => zeros_any z (by omega) W)
  obtain ⟨SF, hSF⟩ : ∃ s, s = strN f := ⟨_, rfl⟩
  have hKS : ∀ w', Below w.heap.size w w' → (convert 29 9 (.slice a len cap)).run Try.prog w' = .ok (.string SF) w' := fun w' hb => by rw [hSF]; exact conv_bys (hf.below hb)
  have KS := Lib.hid hKS
  obtain ⟨SZ, hSZ⟩ : ∃ s, s = strN (List.replicate z 0) := ⟨_, rfl⟩
  rw [← hSZ] at HZ
  have hsz1 : SF.size = len := by rw [hSF, strN_size, hf.ln]
  have hsz2 : SZ.size = z := by rw [hSZ, strN_size]; simp
  have hszs : ¬ (9223372036854775807 < SF.size + SZ.size) := by omega
  have hfl : f.length ≤ 64 := by rw [hf.ln]; exact hl
  have SW : Hid (SF ++ SZ = .mk (strN (whole f)).data) := Lib.hid (by rw [hSF, hSZ, strN_app, hz, ← hf.ln]; rfl)
  have hby : ∀ b ∈ whole f, b < 256 := whole_by hf.by'
  have hwl := whole_len hfl
  have HROW := Lib.hid hrow
  have HB3 := Lib.hid h3
  have HB2 := Lib.hid h2
  have HWB := Lib.hid hby
  have HWL := Lib.hid hwl
  obtain ⟨SS, hSS⟩ : ∃ s, s = strN (whole f) := ⟨_, rfl⟩
  have SW : Hid (SF ++ SZ = SS) := Lib.hid (by rw [hSS, hSF, hSZ, strN_app, hz, ← hf.ln]; rfl)
  have HSS := Lib.hid hSS
  have FIN : Hid (∀ W' Z, Z = strN ((whole f).take n ++ (sec L i).drop n) → Ht p g #[.slice (some ⟨g, 0, none⟩) m c, .bool true, .int .i64 (-1), .int .i64 (by' : Int), .int .i64 (wr : Int), .int .i64 (i : Int), .string (strN (sec L i)), .string SS] (cur.setIfInBounds i (.string Z)) w W' → P (.returned (.int .i64 101)) W') := Lib.hid (by
    intro W' Z hZ ht
    rw [hP]
    refine ⟨rfl, ?_, ht.fr⟩
    have hn : n ≤ 64 := by have := h3 _ rfl; omega
    have hl' : ((whole f).take n).length = n := by rw [List.length_take, HWL.out]; omega
    refine H.out.laid HROW.out hi ((whole f).take n) (by rw [hl']; exact hn) (fun b hb => HWB.out b (List.mem_of_mem_take hb)) h2 (fun x e => by cases e) (by
      rw [hl', ← hZ]; exact ht))
  clear hP
  clear hz hz2 h h2 h3 hKS hSF hSZ hf hby hfl hwl hrow hgb hpb hSS
  go_enter Try.func19, Try.ntmps19
  go_upto_region 5 with fail
  have g0 : Below w.heap.size w w.drew := (Below.refl _ _).drew
  have h0 := KS.out _ g0
  go_region_held (fun w' => (convert 29 9 (.slice a len cap)).run Try.prog w' = .ok (.string SF) w') (first | exact h0 | exact s5 | go_keep) (first
    | (go_at_call 27; refine (HZ.out _).mono ?_; rintro e w5 ⟨rfl, z5⟩; have q5 : Below w.heap.size w w5 := g0.trans (z5.mono g0.size); have s5 := KS.out w5 q5; clear z5))
  all_goals
    have HT5 := Lib.hid (HT0.out.below q5)
    clear HT0 hsub g0 h0 s5 c1 c0 hsz1 hsz2 hszs
    rw [SW.out]
    obtain ⟨e0, _⟩ := HT5.out.cellP 0
    obtain ⟨e1, z1⟩ := HT5.out.cellP 1
    obtain ⟨e2, z2⟩ := HT5.out.cellP 2
    obtain ⟨e3, z3⟩ := HT5.out.cellP 3
    obtain ⟨e4, z4⟩ := HT5.out.cellP 4
    obtain ⟨e5, z5⟩ := HT5.out.cellP 5
    obtain ⟨e6, z6⟩ := HT5.out.cellP 6
    obtain ⟨e7, z7⟩ := HT5.out.cellP 7
    obtain ⟨k0, zg⟩ := HT5.out.cellG i
    rw [HROW.out i hi] at k0
    simp only [List.getElem?_toArray, List.getElem?_cons_zero, List.getElem?_cons_succ] at e0 e1 e2 e3 e4 e5 e6 e7
    have i1 : (i : Int) < (m : Int) := by omega
    have d5 : (afV (some (0, n)) : Int) = 0 := rfl
    rw [d5] at e2
    obtain rfl : by' = n := HB3.out _ rfl
    have hn : by' ≤ 64 := HB2.out
    have hsz : SS.size = 64 := by rw [HSS.out, strN_size]; exact HWL.out
    have hsq : (strN (sec L i)).size = 64 := by rw [strN_size]; exact sec_len H.out.len hi
    obtain ⟨SQ, hSQ⟩ : ∃ s, s = strN (sec L i) := ⟨_, rfl⟩
    rw [← hSQ] at k0 hsq FIN
    have HSQ := Lib.hid hSQ
    obtain ⟨T1, hT1⟩ : ∃ s, s = SS.extract 0 by' := ⟨_, rfl⟩
    obtain ⟨T2, hT2⟩ : ∃ s, s = SQ.extract by' 64 := ⟨_, rfl⟩
    have hs1 : T1.size = by' := by rw [hT1, HSS.out, strN_to, strN_size, List.length_take, HWL.out]; omega
    have hs2 : T2.size = 64 - by' := by rw [hT2, hSQ, strN_from _ _ _ (by rw [sec_len H.out.len hi]; exact Nat.le_refl _), strN_size, List.length_drop, sec_len H.out.len hi]
    have hsl1 : ∀ W, (Instr.slice 9 (.string SS) none (some (.int .i64 (by' : Int))) none).run Try.prog W = .ok (.string T1) W := fun W => by
      rw [run_slice_string_to_if W 9 SS .i64 (by' : Int) Try.underlying9, if_pos ⟨by omega, by rw [hsz]; omega⟩, hT1]
      simp
    have hsl2 : ∀ W, (Instr.slice 9 (.string SQ) (some (.int .i64 (by' : Int))) none none).run Try.prog W = .ok (.string T2) W := fun W => by
      rw [run_slice_string_from_if W 9 SQ .i64 (by' : Int) Try.underlying9, if_pos ⟨by omega, by rw [hsq]; omega⟩, hT2, hsq]
      simp
    obtain ⟨TT, hTT⟩ : ∃ s, s = T1 ++ T2 := ⟨_, rfl⟩
    have hadd : ∀ W, (Op.stringOp .add T1 T2).run Try.prog W = .ok (.string TT) W := fun W => by rw [hTT]; exact run_string_add_sum W T1 T2 (by omega)
    have HZZ : Hid (TT = strN ((whole f).take by' ++ (sec L i).drop by')) := Lib.hid (by
      rw [hTT, hT1, hT2, HSS.out, hSQ, strN_to, strN_from _ _ _ (by rw [sec_len H.out.len hi]; exact Nat.le_refl _), strN_app])
    clear hSQ hT1 hT2 hTT hs1 hs2 hsz hsq hn
    go_upto_region 10 with fail
    obtain ⟨W, hW⟩ : ∃ W, W = ((w5.setCell ⟨p, 5, none⟩ (.int .i64 (i : Int))).setCell ⟨p, 6, none⟩ (.string SQ)).setCell ⟨p, 7, none⟩ (.string SS) := ⟨_, rfl⟩
    rw [← hW]
    have HTA : Ht p g #[.slice (some ⟨g, 0, none⟩) m c, .bool false, .int .i64 0, .int .i64 (by' : Int), .int .i64 (wr : Int), .int .i64 (i : Int), .string SQ, .string SS] cur w W := by rw [hW]; exact ((HT5.out.setP 5 _).setP 6 _).setP 7 _
    have HTW := Lib.hid HTA
    clear HT5 HTA hW e0 e1 e2 e3 e4 e5 e6 e7 k0 zg z1 z2 z3 z4 z5 z6 z7
    obtain ⟨e0, _⟩ := HTW.out.cellP 0
    obtain ⟨e1, z1⟩ := HTW.out.cellP 1
    obtain ⟨e2, z2⟩ := HTW.out.cellP 2
    obtain ⟨e3, z3⟩ := HTW.out.cellP 3
    obtain ⟨k0, zg⟩ := HTW.out.cellG i
    rw [HROW.out i hi, ← HSQ.out] at k0
    simp only [List.getElem?_toArray, List.getElem?_cons_zero, List.getElem?_cons_succ] at e0 e1 e2 e3
    go_region
    all_goals
      go_wp2_with fail
      exact FIN.out _ TT HZZ.out (((HTW.out.setG i _).drew.setP 1 _).setP 2 _)
end Go.Proofs.Ytpjddinbbglgmaa
