/- Reset. -/
import Derived.Test.YteakbijlcccnnaaE
namespace Go.Proofs.Yteakbijlcccnnaa
set_option linter.unusedVariables false
open Go.ChangeShapes Go.WideShapes Go.ChangeAt Go.RowKit

theorem Mb.reset {w : World} {mb n k : Nat} {G : List Int} {S : List La} (h : Mb w mb n G S) (hok : Ok G S) (hl : G.length = n) (hk : k < n) : Mb (set3 w mb (k * 4) La.z) mb n G (S.set k La.z) := by
  obtain ⟨arr, h1, h2⟩ := h
  have hs : k * 4 + 2 < arr.size := by
    have := h2 k hk 2 (by omega)
    simp [mc] at this
    exact (Array.getElem?_eq_some_iff.1 this).1
  refine ⟨_, set3_block h1, fun i hi j hj => ?_⟩
  rw [set3_at hs]
  have hki : k < G.length := by omega
  have q := h2 i hi j hj
  by_cases e : i = k
  · subst e
    have hsg : mc G (S.set i La.z) i = [.bool false, .int .i64 0, .bool false, .int .i64 (gg G i)] := by
      unfold mc; rw [reset_sg hok hki, if_pos rfl]; rfl
    rw [hsg]
    match j, hj with
    | 0, _ => rw [if_pos (by omega)]; rfl
    | 1, _ => rw [if_neg (by omega), if_pos (by omega)]; rfl
    | 2, _ => rw [if_neg (by omega), if_neg (by omega), if_pos (by omega)]; rfl
    | 3, _ => rw [if_neg (by omega), if_neg (by omega), if_neg (by omega), q]; rfl
  · have hsg : mc G (S.set k La.z) i = mc G S i := by
      unfold mc
      rw [reset_sg hok hki, if_neg e]
    rw [if_neg (by omega), if_neg (by omega), if_neg (by omega), hsg]
    exact q
theorem reset_Fm {G : List Int} {S : List La} (h : Ok G S) {k : Nat} (hk : k < G.length) (g : Int) : Fm G (S.set k La.z) g = if (sg S k).fi = true ∧ g = gg G k then none else Fm G S g := by
  unfold Fm
  rw [reset_fo h hk]
  split <;> rfl
theorem reset_wt {G : List Int} {S : List La} (h : Ok G S) {k : Nat} (hk : k < G.length) (wt : ∀ i, (Lit.int .i64 (sg S i).tm).wf = true) (i : Nat) : (Lit.int .i64 (sg (S.set k La.z) i).tm).wf = true := by
  rw [reset_sg h hk]
  split
  · decide
  · exact wt i
theorem field2 (a b : Value) (x : Bool) (w : World) : (Instr.field 37 (.agg #[a, b, .bool x]) 2).run Try.prog w = .ok (.bool x) w := by kernel_rfl
def rsB (S : List La) (n : Nat) (i : Int) : Bool := (decide (0 ≤ i) && decide (i < (n : Int))) && (sg S i.toNat).st
def rsS (S : List La) (n : Nat) (i : Int) : List La := if rsB S n i = true then S.set i.toNat La.z else S
def ResetP (B : Nat) (w : World) (t m mb cn n : Nat) (G : List Int) (S : List La) (i : Int) (e : Ending) (w' : World) : Prop :=
  e = .returned (.bool (rsB S n i)) ∧ Lt B w' t m mb cn n G (rsS S n i) ∧ Fs [m, mb] w w'
theorem reset_same {B t m mb cn n : Nat} {w w' : World} {G : List Int} {S : List La} (h : Lt B w t m mb cn n G S) (i : Int) (hb : rsB S n i = false) (b : Below w.heap.size w w') : ResetP B w t m mb cn n G S i (.returned (.bool false)) w' := by
  refine ⟨by rw [hb], ?_, Fs.of_below b⟩
  unfold rsS
  rw [hb]
  exact h.below b
theorem reset_none {B t m mb cn n : Nat} {w : World} {G : List Int} {S : List La} (h : Lt B w t m mb cn n G S) (i : Int) (hi : ¬ (0 ≤ i ∧ i < (n : Int))) :
    Calls Try.prog 10 #[.pointer (some ⟨t, 0, none⟩), .int .i64 i] w (ResetP B w t m mb cn n G S i) := by
  have hb : (decide (0 ≤ i) && decide (i < (n : Int))) = false := by simp; omega
  have HP := Lib.hid (reset_same h i (by unfold rsB; rw [hb]; rfl) (Below.refl _ _))
  have HB := Lib.hid hb
  have H := Lib.hid h
  clear h hb hi
  go_enter Try.func10, Try.ntmps10
  go_wp2_with fail
  refine (has_any H.out i).mono ?_
  rintro e w1 ⟨rfl, rfl⟩
  rw [HB.out]
  go_wp2_with fail
  go_ret
  exact HP.out
theorem reset_un {B t m mb cn n : Nat} {w : World} {G : List Int} {S : List La} (h : Lt B w t m mb cn n G S) (k : Nat) (hk : k < n) (hs : (sg S k).st = false) :
    Calls Try.prog 10 #[.pointer (some ⟨t, 0, none⟩), .int .i64 (k : Int)] w (ResetP B w t m mb cn n G S (k : Int)) := by
  have hb : (decide (0 ≤ (k : Int)) && decide ((k : Int) < (n : Int))) = true := by simp; omega
  have HP := Lib.hid (reset_same h (k : Int) (by unfold rsB; rw [hb, Int.toNat_natCast, hs]; rfl) (Below.refl _ _))
  obtain ⟨c, c0, c1, f0, f1, h1, h2, h3, q0, q1, q2, q3, g0, g1, g2⟩ := h.mem hk
  rw [hs] at q0
  have HB := Lib.hid hb
  have H := Lib.hid h
  clear h hb hs
  go_enter Try.func10, Try.ntmps10
  go_wp2_with fail
  refine (has_any H.out (k : Int)).mono ?_
  rintro e w1 ⟨rfl, rfl⟩
  rw [HB.out]
  go_wp2_with fail
  go_ret
  exact HP.out
set_option maxRecDepth 100000 in
set_option maxHeartbeats 2000000 in
theorem reset_yes {B t m mb cn n : Nat} {w : World} {G : List Int} {S : List La} (h : Lt B w t m mb cn n G S) (k : Nat) (hk : k < n) (hs : (sg S k).st = true) :
    Calls Try.prog 10 #[.pointer (some ⟨t, 0, none⟩), .int .i64 (k : Int)] w (ResetP B w t m mb cn n G S (k : Int)) := by
  have hb : (decide (0 ≤ (k : Int)) && decide ((k : Int) < (n : Int))) = true := by simp; omega
  have hkg : k < G.length := by rw [h.ln]; exact hk
  have htr : rsB S n (k : Int) = true := by unfold rsB; rw [hb, Int.toNat_natCast, hs]; rfl
  have hfin : ∀ w', Lt B w' t m mb cn n G (S.set k La.z) → Fs [m, mb] w w' → ResetP B w t m mb cn n G S (k : Int) (.returned (.bool true)) w' := by
    intro w' q1 q2
    refine ⟨by rw [htr], ?_, q2⟩
    unfold rsS
    rw [if_pos htr, Int.toNat_natCast]
    exact q1
  have FIN := Lib.hid hfin
  have HB := Lib.hid hb
  have H := Lib.hid h
  obtain ⟨c, c0, c1, f0, f1, h1, h2, h3, q0, q1, q2, q3, g0, g1, g2⟩ := h.mem hk
  rw [hs] at q0
  have KN := Lib.hid hkg
  clear q1 q2 q3 g0 g1 g2 h hb hs htr hfin hkg c1 f0 f1
  go_enter Try.func10, Try.ntmps10
  go_wp2_with fail
  refine (has_any H.out (k : Int)).mono ?_
  rintro e w1 ⟨rfl, rfl⟩
  rw [HB.out]
  go_wp2_with fail
  refine (at_any H.out (k : Int)).mono ?_
  rintro e w1 ⟨rfl, b1⟩
  rw [atS_nat]
  unfold lv
  have L1 := H.out.below b1
  have B1 := Lib.hid b1
  obtain ⟨c', c0', c1', f0', f1', h1', h2', h3', q0, q1, q2, q3, g0, g1, g2⟩ := L1.mem hk
  have hap := L1.apart.2 (by omega)
  have hfl := field2 (.bool (sg S k).st) (.int .i64 (sg S k).tm)
  clear c0 h1 h2 h3 b1
  cases hl : (sg S k).fi with
  | false =>
    have hmap : IMap Try.prog 3 w1 m cn (Fm G (S.set k La.z)) := L1.map.congr fun j => by rw [reset_Fm H.out.ok KN.out, hl]; simp
    have f3 : Fs [m, mb] w1 (set3 w1 mb (k * 4) La.z) := (set3_fs w1 mb (k * 4) La.z).mono (by simp)
    have L2 := L1.upd (by omega) f3 (reset_ok H.out.ok KN.out) (reset_wt H.out.ok KN.out H.out.wt) ((L1.row (by omega)).reset H.out.ok H.out.ln hk) (hmap.same ((set3_fs w1 mb (k * 4) La.z).block m L1.lt.2.1 (by simp; omega)))
    have HP := Lib.hid (FIN.out _ L2 ((Fs.of_below B1.out).trans f3))
    clear hmap hl L1 L2 f3
    go_wp2_with fail
    go_ret
    exact HP.out
  | true =>
    have L1d := L1.below (Below.refl _ _).drew
    have hdrop := L1d.map.drop (t := 45) (e := 3) Try.underlying45 Try.underlying3 (H.out.wg k) 0
    obtain ⟨w2, hrun, him, htu⟩ := hdrop
    have f2 := Fs.turned htu
    have m2 : Mb w2 mb n G S := (L1d.row (by omega)).same (f2.block mb (L1d.lt.2.2 (by omega)) (by simp; omega))
    have t2 : w2.heap[t]? = w1.drew.heap[t]? := f2.block t L1d.lt.1 (by simp; exact L1.apart.1)
    have d0 : w2.cell? ⟨t, 0, none⟩ = some (.slice (some ⟨mb, 0, none⟩) n c') := (World.cell?_of_block (a := ⟨t, 0, none⟩) t2).trans c0'
    obtain ⟨p0, p1, p2, p3, z0, z1, z2⟩ := m2.cells hk
    have f3 : Fs [m, mb] w2 (set3 w2 mb (k * 4) La.z) := (set3_fs w2 mb (k * 4) La.z).mono (by simp)
    have f4 : Fs [m, mb] w1.drew (set3 w2 mb (k * 4) La.z) := (f2.mono (by simp)).trans f3
    have hmap : IMap Try.prog 3 (set3 w2 mb (k * 4) La.z) m cn (Fm G (S.set k La.z)) := by
      refine (him.congr fun j => ?_).same ((set3_fs w2 mb (k * 4) La.z).block m him.lt (by simp; omega))
      rw [reset_Fm H.out.ok KN.out, hl]; simp
    have L2 := L1d.upd (by omega) f4 (reset_ok H.out.ok KN.out) (reset_wt H.out.ok KN.out H.out.wt) (m2.reset H.out.ok H.out.ln hk) hmap
    have HP := Lib.hid (FIN.out _ L2 ((Fs.of_below (B1.out.drew)).trans f4))
    clear hmap hl L1 L2 L1d him htu f2 m2 t2 f3 f4
    go_wp2_with fail
    go_region
    all_goals
      go_wp2_with fail
      go_ret
      exact HP.out
theorem reset_any {B t m mb cn n : Nat} {w : World} {G : List Int} {S : List La} (h : Lt B w t m mb cn n G S) (i : Int) :
    Calls Try.prog 10 #[.pointer (some ⟨t, 0, none⟩), .int .i64 i] w (ResetP B w t m mb cn n G S i) := by
  by_cases hi : 0 ≤ i ∧ i < (n : Int)
  · obtain ⟨k, rfl⟩ := Int.eq_ofNat_of_zero_le hi.1
    cases hs : (sg S k).st with
    | true => exact reset_yes h k (by omega) hs
    | false => exact reset_un h k (by omega) hs
  · exact reset_none h i hi
end Go.Proofs.Yteakbijlcccnnaa
