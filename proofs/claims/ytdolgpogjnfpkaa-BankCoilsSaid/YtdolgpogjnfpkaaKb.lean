/- Places: some of a kind, one of them, and something put there. -/
import Derived.Test.YtdolgpogjnfpkaaKa
namespace Go.Proofs.Ytdolgpogjnfpkaa
set_option linter.unusedVariables false
set_option linter.unusedSimpArgs false
open Go.ChangeShapes Go.WideShapes Go.ChangeAt Go.RowKit

/-- Are so many there? -/
def plB (R : Nat → List Nat) (k f : Int) (m : Nat) : Bool := decide (0 ≤ k ∧ k < 4 ∧ 0 ≤ f ∧ f < ((R k.toNat).length : Int) ∧ (m : Int) ≤ ((R k.toNat).length : Int) - f)
def PlP (w : World) (s : Nat → Nat) (R : Nat → List Nat) (k f : Int) (m : Nat) (e : Ending) (w' : World) : Prop :=
  e = .returned (.tuple #[if plB R k f m = true then .slice (some ⟨s k.toNat, f.toNat, none⟩) m m else .slice none 0 0, .bool (plB R k f m)]) ∧ w' = w
set_option maxRecDepth 100000 in
set_option maxHeartbeats 2000000 in
theorem places_any {B : Nat} {w : World} {p : Nat} {s : Nat → Nat} {R : Nat → List Nat} (h : Bn B w p s R) (k f : Int) (m : Nat) (hm1 : 1 ≤ m) (hm : m ≤ 70000) (hf : f ≤ 9223372036854775807) :
    Calls Try.prog 32 #[.pointer (some ⟨p, 0, none⟩), .int .i64 k, .int .i64 f, .int .i64 (m : Int)] w (PlP w s R k f m) := by
  obtain ⟨P, hP⟩ : ∃ P, P = (PlP w s R k f m : Ending → World → Prop) := ⟨_, rfl⟩
  rw [← hP]
  have HNO : Hid (plB R k f m = false → P (.returned (.tuple #[.slice none 0 0, .bool false])) w) := Lib.hid (fun e => by rw [hP]; unfold PlP; rw [e]; exact ⟨rfl, rfl⟩)
  have HYES : Hid (plB R k f m = true → P (.returned (.tuple #[.slice (some ⟨s k.toNat, f.toNat, none⟩) m m, .bool true])) w) := Lib.hid (fun e => by rw [hP]; unfold PlP; rw [e]; exact ⟨rfl, rfl⟩)
  have SZ := size_any h k
  have hsz : szB R k ≤ 256 := by
    unfold szB
    split
    · exact h.len _ (by omega)
    · omega
  have hpl : plB R k f m = decide (0 ≤ f ∧ f < (szB R k : Int) ∧ (m : Int) ≤ (szB R k : Int) - f) := by
    unfold plB szB
    split
    · rename_i h1; apply decide_eq_decide.2; omega
    · rename_i h1; apply decide_eq_decide.2; omega
  have hk4 : 0 < szB R k → 0 ≤ k ∧ k < 4 := by unfold szB; split <;> intro q <;> omega
  have hsk : 0 ≤ k ∧ k < 4 → szB R k = (R k.toNat).length := by intro q; unfold szB; rw [if_pos q]
  clear hP
  by_cases h0 : f < 0
  · have d0 : decide (f < 0) = true := by simpa using h0
    have F := Lib.hid (HNO.out (by rw [hpl]; simp; omega))
    clear hpl hk4 hsk h h0
    go_enter Try.func32, Try.ntmps32
    go_wp2_with fail
    exact F.out
  have d0 : decide (f < 0) = false := by simpa using h0
  obtain ⟨f, rfl⟩ : ∃ j : Nat, f = (j : Int) := ⟨f.toNat, by omega⟩
  rw [Int.toNat_natCast] at HYES
  obtain ⟨n, hn⟩ : ∃ n, n = szB R k := ⟨_, rfl⟩
  rw [← hn] at SZ hsz hpl hk4 hsk
  by_cases h1 : n ≤ f
  · have d1 : decide ((n : Int) ≤ (f : Int)) = true := by simpa using h1
    have F := Lib.hid (HNO.out (by rw [hpl]; simp; omega))
    clear hpl hk4 hsk h hn h0
    go_enter Try.func32, Try.ntmps32
    go_wp2_with fail
    refine SZ.mono ?_
    rintro e w1 ⟨rfl, rfl⟩
    go_wp2_with fail
    exact F.out
  have d1 : decide ((n : Int) ≤ (f : Int)) = false := by simpa using h1
  have s1 : IntKind.i64.wrap ((n : Int) - (f : Int)) = (n : Int) - (f : Int) := IntWalk.i64_in _ (by omega)
  by_cases h2 : n - f < m
  · have d2 : decide ((n : Int) - (f : Int) < (m : Int)) = true := by simp; omega
    have F := Lib.hid (HNO.out (by rw [hpl]; simp; omega))
    have SZ2 := SZ
    clear hpl hk4 hsk h hn h0
    go_enter Try.func32, Try.ntmps32
    go_wp2_with fail
    refine SZ.mono ?_
    rintro e w1 ⟨rfl, rfl⟩
    go_wp2_with fail
    refine SZ2.mono ?_
    rintro e w1 ⟨rfl, rfl⟩
    go_wp2_with fail
    exact F.out
  · have d2 : decide ((n : Int) - (f : Int) < (m : Int)) = false := by simp; omega
    have F := Lib.hid (HYES.out (by rw [hpl]; simp; omega))
    obtain ⟨k, rfl⟩ : ∃ j : Nat, k = (j : Int) := ⟨k.toNat, by have := hk4 (by omega); omega⟩
    have hk : k < 4 := by have := hk4 (by omega); omega
    have c := h.cell hk
    unfold slB at c
    rw [show (R k).length = n by rw [hsk (by omega)]; simp] at c
    rw [Int.toNat_natCast] at F
    have SZ2 := SZ
    have i0 : (k : Int) < 4 := by omega
    have s2 : IntKind.i64.wrap ((f : Int) + (m : Int)) = ((f + m : Nat) : Int) := by rw [show ((f : Int) + (m : Int)) = ((f + m : Nat) : Int) by omega]; exact IntWalk.i64_in _ (by omega)
    have b1 : ((f + m : Nat) : Int) ≤ (n : Int) := by omega
    have b2 : (f : Int) ≤ ((f + m : Nat) : Int) := by omega
    have b3 : f + m - f = m := by omega
    clear hpl hk4 hsk h hn h0
    go_enter Try.func32, Try.ntmps32
    go_wp2_with fail
    refine SZ.mono ?_
    rintro e w1 ⟨rfl, rfl⟩
    go_wp2_with fail
    refine SZ2.mono ?_
    rintro e w1 ⟨rfl, rfl⟩
    go_wp2_with fail
    rw [b3]
    exact F.out

/-! ## One place -/
def atB (R : Nat → List Nat) (k i : Int) : Nat := if plB R k i 1 = true then (R k.toNat).getD i.toNat 0 else 0
theorem plB_one {R : Nat → List Nat} {k i : Int} (h : plB R k i 1 = true) : ∃ (a b : Nat), k = (a : Int) ∧ i = (b : Int) ∧ a < 4 ∧ b < (R a).length := by
  unfold plB at h
  simp only [decide_eq_true_eq] at h
  obtain ⟨h1, h2, h3, h4, h5⟩ := h
  exact ⟨k.toNat, i.toNat, by omega, by omega, by omega, by omega⟩
def AtP (w : World) (R : Nat → List Nat) (k i : Int) (e : Ending) (w' : World) : Prop := e = .returned (.tuple #[.int .u16 (atB R k i : Nat), .bool (plB R k i 1)]) ∧ w' = w
set_option maxRecDepth 100000 in
theorem at_any {B : Nat} {w : World} {p : Nat} {s : Nat → Nat} {R : Nat → List Nat} (h : Bn B w p s R) (k i : Int) (hi : i ≤ 9223372036854775807) :
    Calls Try.prog 21 #[.pointer (some ⟨p, 0, none⟩), .int .i64 k, .int .i64 i] w (AtP w R k i) := by
  obtain ⟨P, hP⟩ : ∃ P, P = (AtP w R k i : Ending → World → Prop) := ⟨_, rfl⟩
  rw [← hP]
  have PL := places_any h k i 1 (by omega) (by omega) hi
  unfold PlP at PL
  cases hb : plB R k i 1 with
  | false =>
    rw [hb] at PL
    have F : Hid (P (.returned (.tuple #[.int .u16 0, .bool false])) w) := Lib.hid (by rw [hP]; unfold AtP atB; rw [hb]; exact ⟨rfl, rfl⟩)
    clear hP h hb
    go_enter Try.func21, Try.ntmps21
    go_wp2_with fail
    refine PL.mono ?_
    rintro e w1 ⟨rfl, rfl⟩
    go_wp2_with fail
    exact F.out
  | true =>
    rw [hb] at PL
    obtain ⟨a, b, rfl, rfl, ha, hbl⟩ := plB_one hb
    have c := (h.at ha hbl).1
    have F : Hid (P (.returned (.tuple #[.int .u16 (((R a).getD b 0 : Nat) : Int), .bool true])) w) := Lib.hid (by rw [hP]; unfold AtP atB; rw [hb]; simp)
    simp only [Int.toNat_natCast] at PL
    generalize (R a).getD b 0 = x at c F
    clear hP h hb
    go_enter Try.func21, Try.ntmps21
    go_wp2_with fail
    refine PL.mono ?_
    rintro e w1 ⟨rfl, rfl⟩
    go_wp2_with fail
    exact F.out

/-- What comes to stand there: of coils and inputs 0 or 1. -/
def capV (k : Int) (v : Nat) : Nat := if k = 0 ∨ k = 1 then min v 1 else v
def putB (R : Nat → List Nat) (k i : Int) (v : Nat) : Nat → List Nat := if plB R k i 1 = true then upR R k.toNat ((R k.toNat).set i.toNat (capV k v)) else R
def PutB (B : Nat) (w : World) (p : Nat) (s : Nat → Nat) (R : Nat → List Nat) (k i : Int) (v : Nat) (e : Ending) (w' : World) : Prop :=
  e = .returned (.bool (plB R k i 1)) ∧ Bn B w' p s (putB R k i v) ∧ Fw (bl s) w w'
theorem wv_setB (L : List Nat) (i x : Nat) : (wv L).set i (.int .u16 (x : Int)) = wv (L.set i x) := by simp [wv, List.map_set]
theorem Bn.put {B : Nat} {w : World} {p : Nat} {s : Nat → Nat} {R : Nat → List Nat} (h : Bn B w p s R) {a b : Nat} (ha : a < 4) (x : Nat) (hx : x < 65536) :
    Bn B (w.setCell ⟨s a, b, none⟩ (.int .u16 (x : Int))) p s (upR R a ((R a).set b x)) ∧ Fw (bl s) w (w.setCell ⟨s a, b, none⟩ (.int .u16 (x : Int))) := by
  refine ⟨h.set ha (by simp) (fun v hv => ?_) (Fw.set w (s a) b _) ?_, (Fw.set w (s a) b _).mono (by intro y hy; simp at hy; subst hy; exact bl_mem ha)⟩
  · rcases List.mem_or_eq_of_mem_set hv with q | q
    · exact h.wd a ha v q
    · omega
  · rw [← wv_setB]
    simp [World.setCell, Array.getElem?_modify, h.row a ha]
set_option maxRecDepth 100000 in
theorem putb_any {B : Nat} {w : World} {p : Nat} {s : Nat → Nat} {R : Nat → List Nat} (h : Bn B w p s R) (k i : Int) (v : Nat) (hi : i ≤ 9223372036854775807) (hv : v < 65536) :
    Calls Try.prog 15 #[.pointer (some ⟨p, 0, none⟩), .int .i64 k, .int .i64 i, .int .u16 (v : Int)] w (PutB B w p s R k i v) := by
  obtain ⟨P, hP⟩ : ∃ P, P = (PutB B w p s R k i v : Ending → World → Prop) := ⟨_, rfl⟩
  rw [← hP]
  have PL := places_any h k i 1 (by omega) (by omega) hi
  unfold PlP at PL
  cases hb : plB R k i 1 with
  | false =>
    rw [hb] at PL
    have F : Hid (P (.returned (.bool false)) w) := Lib.hid (by rw [hP]; unfold PutB putB; rw [hb]; exact ⟨rfl, h, Fw.refl _ _⟩)
    clear hP h hb
    go_enter Try.func15, Try.ntmps15
    go_wp2_with fail
    refine PL.mono ?_
    rintro e w1 ⟨rfl, rfl⟩
    go_wp2_with fail
    exact F.out
  | true =>
    rw [hb] at PL
    obtain ⟨a, b, rfl, rfl, ha, hbl⟩ := plB_one hb
    obtain ⟨c, fz⟩ := h.at ha hbl
    have F : Hid (∀ x : Nat, x = capV (a : Int) v → P (.returned (.bool true)) (w.setCell ⟨s a, b, none⟩ (.int .u16 (x : Int)))) := Lib.hid (by
      intro x hx
      have hx2 : x < 65536 := by rw [hx]; unfold capV; split <;> omega
      have := h.put ha (b := b) x hx2
      rw [hP]; unfold PutB putB; rw [hb, ← hx]; simpa using this)
    simp only [Int.toNat_natCast] at PL
    generalize (R a).getD b 0 = y at c
    clear hP hb
    by_cases h01 : a = 0 ∨ a = 1
    · have F1 := Lib.hid (F.out (min v 1) (by unfold capV; rw [if_pos (by omega)]))
      have hd : ((a : Int) == 0) = true ∨ (((a : Int) == 0) = false ∧ ((a : Int) == 1) = true) := by simp; omega
      by_cases hv1 : v < 1
      · obtain rfl : v = 0 := by omega
        have F2 : Hid (P (.returned (.bool true)) (w.setCell ⟨s a, b, none⟩ (.int .u16 0))) := Lib.hid (by simpa using F1.out)
        clear h F1 F hv1
        rcases h01 with rfl | rfl
        all_goals
          go_enter Try.func15, Try.ntmps15
          go_wp2_with fail
          refine PL.mono ?_
          rintro e w1 ⟨rfl, rfl⟩
          go_wp2_with fail
          exact F2.out
      · have F2 : Hid (P (.returned (.bool true)) (w.setCell ⟨s a, b, none⟩ (.int .u16 1))) := Lib.hid (by
          have := F1.out
          rw [Nat.min_eq_right (by omega)] at this
          simpa using this)
        have hv2 : ¬ (v : Int) < 1 := by omega
        clear h F1 F
        rcases h01 with rfl | rfl
        all_goals
          go_enter Try.func15, Try.ntmps15
          go_wp2_with fail
          refine PL.mono ?_
          rintro e w1 ⟨rfl, rfl⟩
          go_wp2_with fail
          all_goals first | exact F2.out | (exfalso; omega) | (have e1 : v = 1 := (by omega); subst e1; exact F2.out)
    · have F1 := Lib.hid (F.out v (by unfold capV; rw [if_neg (by omega)]))
      have d0 : ((a : Int) == 0) = false := by simp; omega
      have d1 : ((a : Int) == 1) = false := by simp; omega
      clear h F h01
      go_enter Try.func15, Try.ntmps15
      go_wp2_with fail
      refine PL.mono ?_
      rintro e w1 ⟨rfl, rfl⟩
      go_wp2_with fail
      exact F1.out
/-! ## Which places -/
def kdB (fc : Int) : Int := if fc = 1 ∨ fc = 5 ∨ fc = 15 then 0 else if fc = 2 then 1 else if fc = 4 then 3 else 2
theorem kind_any (fc : Int) (w : World) : Calls Try.prog 35 #[.int .i64 fc] w fun e w' => e = .returned (.int .i64 (kdB fc)) ∧ w' = w := by
  obtain ⟨P, hP⟩ : ∃ P, P = (fun (e : Ending) (w' : World) => e = .returned (.int .i64 (kdB fc)) ∧ w' = w) := ⟨_, rfl⟩
  rw [← hP]
  have F : Hid (∀ z, z = kdB fc → P (.returned (.int .i64 z)) w) := Lib.hid (fun z hz => by rw [hP, hz]; exact ⟨rfl, rfl⟩)
  clear hP
  by_cases h1 : fc = 1
  · subst h1; go_enter Try.func35, Try.ntmps35; go_wp2_with fail; exact F.out _ (by decide)
  by_cases h2 : fc = 5
  · subst h2; go_enter Try.func35, Try.ntmps35; go_wp2_with fail; exact F.out _ (by decide)
  by_cases h3 : fc = 15
  · subst h3; go_enter Try.func35, Try.ntmps35; go_wp2_with fail; exact F.out _ (by decide)
  by_cases h4 : fc = 2
  · subst h4; go_enter Try.func35, Try.ntmps35; go_wp2_with fail; exact F.out _ (by decide)
  by_cases h5 : fc = 4
  · subst h5; go_enter Try.func35, Try.ntmps35; go_wp2_with fail; exact F.out _ (by decide)
  have d1 : (fc == 1) = false := by simpa using h1
  have d2 : (fc == 5) = false := by simpa using h2
  have d3 : (fc == 15) = false := by simpa using h3
  have d4 : (fc == 2) = false := by simpa using h4
  have d5 : (fc == 4) = false := by simpa using h5
  have G := Lib.hid (F.out 2 (by unfold kdB; simp [h1, h2, h3, h4, h5]))
  clear h1 h2 h3 h4 h5 F
  go_enter Try.func35, Try.ntmps35
  go_wp2_with fail
  exact G.out
end Go.Proofs.Ytdolgpogjnfpkaa
