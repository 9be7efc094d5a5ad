/- Trip. -/
import Derived.Test.YteakbijlcccnnaaD
namespace Go.Proofs.Yteakbijlcccnnaa
set_option linter.unusedVariables false
open Go.ChangeShapes Go.WideShapes Go.ChangeAt Go.RowKit

theorem Lt.upd {B t m mb cn cn' n : Nat} {w w' : World} {G : List Int} {S S' : List La} (h : Lt B w t m mb cn n G S) (h0 : 0 < n) (f : Fs [m, mb] w w') (ok : Ok G S') (wt : ∀ i, (Lit.int .i64 (sg S' i).tm).wf = true) (row : Mb w' mb n G S') (map : IMap Try.prog 3 w' m cn' (Fm G S')) : Lt B w' t m mb cn' n G S' := by
  obtain ⟨ma, c, q1, q2⟩ := h.blk
  have ha := h.apart
  exact ⟨h.ht, h.hm, h.hb, h.ln, h.le, h.wg, wt, ok, ⟨ma, c, (f.block t h.lt.1 (by simp; exact ⟨ha.1, (ha.2 h0).1⟩)).trans q1, q2⟩, fun _ => row, map⟩
theorem two_a {arr : Array Value} {o j : Nat} {a b : Value} (ho : o + 1 < arr.size) : ((arr.setIfInBounds o a).setIfInBounds (o + 1) b)[j]? = if j = o then some a else if j = o + 1 then some b else arr[j]? := by
  simp only [Array.getElem?_setIfInBounds, Array.size_setIfInBounds]
  by_cases e0 : j = o
  · subst e0; rw [if_neg (by omega), if_pos rfl, if_pos (by omega), if_pos rfl]
  · by_cases e1 : j = o + 1
    · subst e1; rw [if_pos rfl, if_pos (by omega), if_neg (by omega), if_pos rfl]
    · rw [if_neg (by omega), if_neg (by omega), if_neg e0, if_neg e1]
theorem two_b {arr : Array Value} {o j : Nat} {a b : Value} (ho : o + 1 < arr.size) : ((arr.setIfInBounds (o + 1) b).setIfInBounds o a)[j]? = if j = o then some a else if j = o + 1 then some b else arr[j]? := by
  simp only [Array.getElem?_setIfInBounds, Array.size_setIfInBounds]
  by_cases e0 : j = o
  · subst e0; rw [if_pos rfl, if_pos (by omega), if_pos rfl]
  · by_cases e1 : j = o + 1
    · subst e1; rw [if_neg (by omega), if_pos rfl, if_pos (by omega), if_neg (by omega), if_pos rfl]
    · rw [if_neg (by omega), if_neg (by omega), if_neg e0, if_neg e1]
theorem Mb.trip_of {w w' : World} {mb n k : Nat} {G : List Int} {S : List La} {now : Int} (h : Mb w mb n G S) (hok : Ok G S) (hl : G.length = n) (hk : k < n)
    (hw : ∀ arr : Array Value, w.heap[mb]? = some (.cells arr 50 (0, 0)) → k * 4 + 1 < arr.size → ∃ arr', w'.heap[mb]? = some (.cells arr' 50 (0, 0)) ∧ ∀ j : Nat, arr'[j]? = if j = k * 4 then some (.bool true) else if j = k * 4 + 1 then some (.int .i64 now) else arr[j]?) : Mb w' mb n G (tripS G S k now) := by
  obtain ⟨arr, h1, h2⟩ := h
  have hs : k * 4 + 1 < arr.size := by
    have := h2 k hk 1 (by omega)
    simp [mc] at this
    exact (Array.getElem?_eq_some_iff.1 this).1
  obtain ⟨arr', a1, a2⟩ := hw arr h1 hs
  refine ⟨arr', a1, fun i hi j hj => ?_⟩
  rw [a2]
  have hki : k < G.length := by omega
  have q := h2 i hi j hj
  by_cases e : i = k
  · subst e
    have hsg : mc G (tripS G S i now) i = [.bool true, .int .i64 now, .bool false, .int .i64 (gg G i)] := by
      unfold mc; rw [tripS_sg hok hki, if_pos rfl]
    rw [hsg]
    match j, hj with
    | 0, _ => rw [if_pos (by omega)]; rfl
    | 1, _ => rw [if_neg (by omega), if_pos (by omega)]; rfl
    | 2, _ => rw [if_neg (by omega), if_neg (by omega), q]; rfl
    | 3, _ => rw [if_neg (by omega), if_neg (by omega), q]; rfl
  · have hsg : mc G (tripS G S k now) i = mc G S i := by
      unfold mc
      rw [tripS_sg hok hki, if_neg e]
      split <;> rfl
    rw [if_neg (by omega), if_neg (by omega), hsg]
    exact q
theorem Mb.trip_a {w : World} {mb n k : Nat} {G : List Int} {S : List La} (h : Mb w mb n G S) (hok : Ok G S) (hl : G.length = n) (hk : k < n) (now : Int) : Mb ((w.setCell ⟨mb, k * 4, none⟩ (.bool true)).setCell ⟨mb, k * 4 + 1, none⟩ (.int .i64 now)) mb n G (tripS G S k now) :=
  h.trip_of hok hl hk fun arr h1 hs => ⟨_, set_block (set_block h1 _ _) _ _, fun j => two_a hs⟩
theorem Mb.trip_b {w : World} {mb n k : Nat} {G : List Int} {S : List La} (h : Mb w mb n G S) (hok : Ok G S) (hl : G.length = n) (hk : k < n) (now : Int) : Mb ((w.setCell ⟨mb, k * 4 + 1, none⟩ (.int .i64 now)).setCell ⟨mb, k * 4, none⟩ (.bool true)) mb n G (tripS G S k now) :=
  h.trip_of hok hl hk fun arr h1 hs => ⟨_, set_block (set_block h1 _ _) _ _, fun j => two_b hs⟩
theorem trip_wt {G : List Int} {S : List La} (h : Ok G S) {k : Nat} (hk : k < G.length) {now : Int} (hn : (Lit.int .i64 now).wf = true) (wt : ∀ i, (Lit.int .i64 (sg S i).tm).wf = true) (i : Nat) : (Lit.int .i64 (sg (tripS G S k now) i).tm).wf = true := by
  rw [tripS_sg h hk]
  split
  · exact hn
  · split
    · exact wt i
    · exact wt i
theorem trip_Fm {G : List Int} {S : List La} (h : Ok G S) {k : Nat} (hk : k < G.length) (hs : (sg S k).st = false) (now g : Int) : Fm G (tripS G S k now) g = if lead G S k now = true ∧ g = gg G k then some (.int .i64 (k : Int)) else Fm G S g := by
  unfold Fm
  rw [trip_fo h hk hs]
  split <;> rfl

/-- What Trip answers, and leaves. -/
def trB (S : List La) (n : Nat) (i : Int) : Bool := (decide (0 ≤ i) && decide (i < (n : Int))) && !(sg S i.toNat).st
def trS (G : List Int) (S : List La) (n : Nat) (i now : Int) : List La := if trB S n i = true then tripS G S i.toNat now else S
def TripP (B : Nat) (w : World) (t m mb cn n : Nat) (G : List Int) (S : List La) (i now : Int) (e : Ending) (w' : World) : Prop :=
  e = .returned (.bool (trB S n i)) ∧ Lt B w' t m mb (cn + 1) n G (trS G S n i now) ∧ Fs [m, mb] w w'
theorem trip_same {B t m mb cn n : Nat} {w w' : World} {G : List Int} {S : List La} (h : Lt B w t m mb cn n G S) (i now : Int) (hb : trB S n i = false) (b : Below w.heap.size w w') : TripP B w t m mb cn n G S i now (.returned (.bool false)) w' := by
  refine ⟨by rw [hb], ?_, Fs.of_below b⟩
  unfold trS
  rw [hb]
  exact (h.below b).mono (by omega)
theorem trip_none {B t m mb cn n : Nat} {w : World} {G : List Int} {S : List La} (h : Lt B w t m mb cn n G S) (i now : Int) (hi : ¬ (0 ≤ i ∧ i < (n : Int))) :
    Calls Try.prog 14 #[.pointer (some ⟨t, 0, none⟩), .int .i64 i, .int .i64 now] w (TripP B w t m mb cn n G S i now) := by
  have hb : (decide (0 ≤ i) && decide (i < (n : Int))) = false := by simp; omega
  have HP := Lib.hid (trip_same h i now (by unfold trB; rw [hb]; rfl) (Below.refl _ _))
  have HB := Lib.hid hb
  have H := Lib.hid h
  clear h hb hi
  go_enter Try.func14, Try.ntmps14
  go_wp2_with fail
  refine (has_any H.out i).mono ?_
  rintro e w1 ⟨rfl, rfl⟩
  rw [HB.out]
  go_wp2_with fail
  go_ret
  exact HP.out
theorem trip_set {B t m mb cn n : Nat} {w : World} {G : List Int} {S : List La} (h : Lt B w t m mb cn n G S) (k : Nat) (now : Int) (hk : k < n) (hs : (sg S k).st = true) :
    Calls Try.prog 14 #[.pointer (some ⟨t, 0, none⟩), .int .i64 (k : Int), .int .i64 now] w (TripP B w t m mb cn n G S (k : Int) now) := by
  have hb : (decide (0 ≤ (k : Int)) && decide ((k : Int) < (n : Int))) = true := by simp; omega
  have HP := Lib.hid (trip_same h (k : Int) now (by unfold trB; rw [hb, Int.toNat_natCast, hs]; rfl) (Below.refl _ _))
  obtain ⟨c, c0, c1, f0, f1, h1, h2, h3, q0, q1, q2, q3, g0, g1, g2⟩ := h.mem hk
  rw [hs] at q0
  have HB := Lib.hid hb
  have H := Lib.hid h
  clear h hb hs
  go_enter Try.func14, Try.ntmps14
  go_wp2_with fail
  refine (has_any H.out (k : Int)).mono ?_
  rintro e w1 ⟨rfl, rfl⟩
  rw [HB.out]
  go_wp2_with fail
  go_ret
  exact HP.out
set_option maxRecDepth 100000 in
set_option maxHeartbeats 2000000 in
theorem trip_yes {B t m mb cn n : Nat} {w : World} {G : List Int} {S : List La} (h : Lt B w t m mb cn n G S) (hcn : cn < maxLen) (k : Nat) (now : Int) (hnow : (Lit.int .i64 now).wf = true) (hk : k < n) (hs : (sg S k).st = false) :
    Calls Try.prog 14 #[.pointer (some ⟨t, 0, none⟩), .int .i64 (k : Int), .int .i64 now] w (TripP B w t m mb cn n G S (k : Int) now) := by
  have hb : (decide (0 ≤ (k : Int)) && decide ((k : Int) < (n : Int))) = true := by simp; omega
  have hkg : k < G.length := by rw [h.ln]; exact hk
  have htr : trB S n (k : Int) = true := by unfold trB; rw [hb, Int.toNat_natCast, hs]; rfl
  have hfin : ∀ w', Lt B w' t m mb (cn + 1) n G (tripS G S k now) → Fs [m, mb] w w' → TripP B w t m mb cn n G S (k : Int) now (.returned (.bool true)) w' := by
    intro w' q1 q2
    refine ⟨by rw [htr], ?_, q2⟩
    unfold trS
    rw [if_pos htr, Int.toNat_natCast]
    exact q1
  have FIN := Lib.hid hfin
  have hwk : (Lit.int .i64 (k : Int)).wf = true := by
    have := h.le; unfold maxLen at this
    exact wf_i64 (by omega) (by omega)
  have HB := Lib.hid hb
  have H := Lib.hid h
  have SS := Lib.hid hs
  obtain ⟨c, c0, c1, f0, f1, h1, h2, h3, q0, q1, q2, q3, g0, g1, g2⟩ := h.mem hk
  have hs0 := q0
  rw [hs] at hs0
  have KN := Lib.hid hkg
  clear q0 q1 q2 q3 g0 g1 g2 h hb hs htr hfin hkg c1 f0 f1
  go_enter Try.func14, Try.ntmps14
  go_wp2_with fail
  refine (has_any H.out (k : Int)).mono ?_
  rintro e w1 ⟨rfl, rfl⟩
  rw [HB.out]
  go_wp2_with fail
  refine (leads_any H.out k hk now).mono ?_
  rintro e w1 ⟨rfl, b1⟩
  have L1 := H.out.below b1
  have B1 := Lib.hid b1
  obtain ⟨c', c0', c1', f0', f1', h1', h2', h3', q0, q1, q2, q3, g0, g1, g2⟩ := L1.mem hk
  have hap := L1.apart.2 (by omega)
  have HL1 := Lib.hid L1
  clear c0 hs0 h1 h2 h3 b1
  cases hl : lead G S k now with
  | false =>
    have hmap : IMap Try.prog 3 w1 m (cn + 1) (Fm G (tripS G S k now)) := (L1.map.mono (by omega)).congr fun j => by rw [trip_Fm H.out.ok KN.out SS.out, hl]; simp
    have L2 := (L1.upd (by omega) (((Fs.set w1 mb (k * 4) (.bool true)).trans (Fs.set _ mb (k * 4 + 1) (.int .i64 now))).mono (by simp)) (trip_ok H.out.ok KN.out SS.out now) (trip_wt H.out.ok KN.out hnow H.out.wt) ((L1.row (by omega)).trip_a H.out.ok H.out.ln hk now) (hmap.same (((Fs.set w1 mb (k * 4) (.bool true)).trans (Fs.set _ mb (k * 4 + 1) (.int .i64 now))).block m L1.lt.2.1 (by simp; omega))))
    have HP := Lib.hid (FIN.out _ (L2.below (Below.refl _ _).drew) (((Fs.of_below B1.out).trans (((Fs.set w1 mb (k * 4) (.bool true)).trans (Fs.set _ mb (k * 4 + 1) (.int .i64 now))).mono (by simp))).trans (Fs.of_below (Below.refl _ _).drew)))
    clear hmap hl L1 L2
    go_wp2_with fail
    go_region
    all_goals
      go_wp2_with fail
      go_ret
      exact HP.out
  | true =>
    have L1d := L1.below (Below.refl _ _).drew
    have hput := L1d.map.put (t := 45) (e := 3) Try.underlying45 Try.underlying3 hcn (H.out.wg k) (.int .i64 (k : Int))
    obtain ⟨w2, hrun, him, htu⟩ := hput
    have f2 := Fs.turned htu
    have m2 : Mb w2 mb n G S := (L1d.row (by omega)).same (f2.block mb (L1d.lt.2.2 (by omega)) (by simp; omega))
    have t2 : w2.heap[t]? = w1.drew.heap[t]? := f2.block t L1d.lt.1 (by simp; exact L1.apart.1)
    have d0 : w2.cell? ⟨t, 0, none⟩ = some (.slice (some ⟨mb, 0, none⟩) n c') := (World.cell?_of_block (a := ⟨t, 0, none⟩) t2).trans c0'
    obtain ⟨p0, p1, p2, p3, z0, z1, z2⟩ := m2.cells hk
    have f3 : Fs [m, mb] w2 ((w2.setCell ⟨mb, k * 4, none⟩ (.bool true)).setCell ⟨mb, k * 4 + 1, none⟩ (.int .i64 now)) := ((Fs.set w2 mb (k * 4) (.bool true)).trans (Fs.set _ mb (k * 4 + 1) (.int .i64 now))).mono (by simp)
    have f4 : Fs [m, mb] w1.drew ((w2.setCell ⟨mb, k * 4, none⟩ (.bool true)).setCell ⟨mb, k * 4 + 1, none⟩ (.int .i64 now)) := (f2.mono (by simp)).trans f3
    have hmap : IMap Try.prog 3 ((w2.setCell ⟨mb, k * 4, none⟩ (.bool true)).setCell ⟨mb, k * 4 + 1, none⟩ (.int .i64 now)) m (cn + 1) (Fm G (tripS G S k now)) := by
      refine (him.congr fun j => ?_).same (((Fs.set w2 mb (k * 4) (.bool true)).trans (Fs.set _ mb (k * 4 + 1) (.int .i64 now))).block m him.lt (by simp; omega))
      rw [trip_Fm H.out.ok KN.out SS.out, hl]; simp
    have L2 := L1d.upd (by omega) f4 (trip_ok H.out.ok KN.out SS.out now) (trip_wt H.out.ok KN.out hnow H.out.wt) (m2.trip_a H.out.ok H.out.ln hk now) hmap
    have HP := Lib.hid (FIN.out _ (L2.below (Below.refl _ _).drew) (((Fs.of_below (B1.out.drew)).trans f4).trans (Fs.of_below (Below.refl _ _).drew)))
    clear hmap hl L1 L2 L1d him htu f2 m2 t2 f3 f4
    go_wp2_with fail
    go_region
    all_goals
      go_wp2_with fail
      go_region
    all_goals
      go_wp2_with fail
      go_ret
      exact HP.out
theorem trip_any {B t m mb cn n : Nat} {w : World} {G : List Int} {S : List La} (h : Lt B w t m mb cn n G S) (hcn : cn < maxLen) (i now : Int) (hnow : (Lit.int .i64 now).wf = true) :
    Calls Try.prog 14 #[.pointer (some ⟨t, 0, none⟩), .int .i64 i, .int .i64 now] w (TripP B w t m mb cn n G S i now) := by
  by_cases hi : 0 ≤ i ∧ i < (n : Int)
  · obtain ⟨k, rfl⟩ := Int.eq_ofNat_of_zero_le hi.1
    cases hs : (sg S k).st with
    | true => exact trip_set h k now (by omega) hs
    | false => exact trip_yes h hcn k now hnow (by omega) hs
  · exact trip_none h i now hi
end Go.Proofs.Yteakbijlcccnnaa
