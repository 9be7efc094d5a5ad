/- The document's own table. -/
import Derived.Test.YtfloceoopjokcaaS
namespace Go.Proofs.Ytfloceoopjokcaa
set_option linter.unusedVariables false
open Go.ChangeShapes Go.WideShapes Go.ChangeAt Go.RowKit

/-- The document's table t: limits Lm, ends E in block eb; all of it lies at C or behind. -/
structure Rt (C : Nat) (w : World) (t eb : Nat) (Lm E : List Int) : Prop where
  ht : C ≤ t
  he : C ≤ eb
  ne : t ≠ eb
  ln : E.length = Lm.length
  bd : ∀ x ∈ E, 0 ≤ x ∧ x ≤ 2199023255552
  blk : ∃ la lc ec, w.heap[t]? = some (.cells #[.slice la Lm.length lc, .slice (some ⟨eb, 0, none⟩) Lm.length ec] 54 (0, 0)) ∧ Ir w la Lm.length Lm ∧ (∀ b off, la = some ⟨b, off, none⟩ → 0 < Lm.length → C ≤ b ∧ b ≠ eb ∧ b ≠ t) ∧ Lm.length ≤ ec ∧ ec ≤ maxLen
  row : ∃ arr : Array Value, w.heap[eb]? = some (.cells arr 2 (0, 0)) ∧ ∀ i, i < Lm.length → arr[i]? = some (.int .i64 (E.getD i 0))
section
variable {C t eb : Nat} {w w' : World} {Lm E : List Int}
theorem Rt.lt (h : Rt C w t eb Lm E) : t < w.heap.size ∧ eb < w.heap.size := by
  obtain ⟨la, lc, ec, h1, _⟩ := h.blk
  obtain ⟨arr, h2, _⟩ := h.row
  exact ⟨blk_lt h1, blk_lt h2⟩
theorem Rt.below (h : Rt C w t eb Lm E) (hb : Below w.heap.size w w') : Rt C w' t eb Lm E := by
  obtain ⟨la, lc, ec, h1, h2, h3⟩ := h.blk
  obtain ⟨arr, h4, h5⟩ := h.row
  exact ⟨h.ht, h.he, h.ne, h.ln, h.bd, ⟨la, lc, ec, (hb.block t h.lt.1).trans h1, h2.below hb, h3⟩, ⟨arr, (hb.block eb h.lt.2).trans h4, h5⟩⟩
theorem Rt.fr {m : Nat} (h : Rt C w t eb Lm E) (hf : Fr m w w') (hm : m < C) : Rt C w' t eb Lm E := by
  obtain ⟨la, lc, ec, h1, h2, h3⟩ := h.blk
  obtain ⟨arr, h4, h5⟩ := h.row
  have q1 := h.ht
  have q2 := h.he
  exact ⟨h.ht, h.he, h.ne, h.ln, h.bd, ⟨la, lc, ec, (hf.block t h.lt.1 (by omega)).trans h1, h2.fr hf (fun b off e h0 => by have := (h3.1 b off e h0).1; omega), h3⟩, ⟨arr, (hf.block eb h.lt.2 (by omega)).trans h4, h5⟩⟩
/-- The cells that a call reads. -/
theorem Rt.ends (h : Rt C w t eb Lm E) : ∃ ec, w.cell? ⟨t, 1, none⟩ = some (.slice (some ⟨eb, 0, none⟩) Lm.length ec) ∧ Lm.length ≤ ec ∧ ec ≤ maxLen ∧ ∀ i, i < Lm.length → w.cell? ⟨eb, i, none⟩ = some (.int .i64 (E.getD i 0)) ∧ w.frozen? ⟨eb, i, none⟩ = false := by
  obtain ⟨la, lc, ec, h1, _, _, q1, q2⟩ := h.blk
  obtain ⟨arr, h4, h5⟩ := h.row
  refine ⟨ec, by simp [World.cell?, h1], q1, q2, fun i hi => ⟨?_, by simp [World.frozen?, h4]⟩⟩
  simp [World.cell?, h4, h5 i hi]
/-- One end turned. -/
theorem Rt.set (h : Rt C w t eb Lm E) (k : Nat) (v : Int) (hv : 0 ≤ v ∧ v ≤ 2199023255552) (hk : k < Lm.length) : Rt C (w.setCell ⟨eb, k, none⟩ (.int .i64 v)) t eb Lm (E.set k v) := by
  obtain ⟨la, lc, ec, h1, h2, h3⟩ := h.blk
  obtain ⟨arr, h4, h5⟩ := h.row
  have hfr : Fr eb w (w.setCell ⟨eb, k, none⟩ (.int .i64 v)) := ⟨rfl, rfl, rfl, by simp [World.setCell], fun j _ hj => Below.heap_setCell _ _ _ _ hj⟩
  refine ⟨h.ht, h.he, h.ne, by simp [h.ln], set_bd h.bd k v hv, ⟨la, lc, ec, (hfr.block t h.lt.1 h.ne).trans h1, h2.fr hfr (fun b off e h0 => (h3.1 b off e h0).2.1), h3⟩, ⟨_, set_block h4 k _, fun i hi => ?_⟩⟩
  rw [getD_set E k i v (by rw [h.ln]; exact hk), Array.getElem?_setIfInBounds]
  have hs := (Array.getElem?_eq_some_iff.1 (h5 k hk)).1
  by_cases e : k = i
  · subst e; rw [if_pos rfl, if_pos hs, if_pos rfl]
  · rw [if_neg e, if_neg (fun q => e q.symm), h5 i hi]
end

theorem runtil_any {C t eb : Nat} {w : World} {Lm E : List Int} (h : Rt C w t eb Lm E) (i : Int) :
    Calls Try.prog 21 #[.pointer (some ⟨t, 0, none⟩), .int .i64 i] w fun e w' => e = .returned (.int .i64 (unt E i)) ∧ w = w' := by
  obtain ⟨ec, c1, hle, hmx, hc⟩ := h.ends
  unfold maxLen at hmx
  have hln := h.ln
  clear h
  by_cases h0 : i < 0
  · have d1 : decide (i < 0) = true := by simpa using h0
    have hu : unt E i = 0 := by unfold unt; rw [if_neg (by omega)]
    have HU := Lib.hid hu
    clear hu hc
    go_enter Try.func21, Try.ntmps21
    go_wp2_with fail
    go_ret
    exact ⟨by rw [HU.out]; rfl, rfl⟩
  · have d1 : decide (i < 0) = false := by simpa using h0
    obtain ⟨k, rfl⟩ := Int.eq_ofNat_of_zero_le (by omega : 0 ≤ i)
    by_cases hk : k < Lm.length
    · obtain ⟨cc, _⟩ := hc k hk
      have HU := Lib.hid (unt_nat E k)
      generalize E.getD k 0 = u at cc HU
      generalize Lm.length = n at *
      have d2 : decide ((n : Int) ≤ (k : Int)) = false := by simp; omega
      have hkn : (k : Int) < (n : Int) := by omega
      clear hc hln h0
      go_enter Try.func21, Try.ntmps21
      go_wp2_with fail
      go_ret
      exact ⟨by rw [HU.out]; rfl, rfl⟩
    · have hu : unt E (k : Int) = 0 := by
        rw [unt_nat]; simp only [List.getD]; rw [List.getElem?_eq_none (by omega)]; rfl
      have HU := Lib.hid hu
      generalize Lm.length = n at *
      have d2 : decide ((n : Int) ≤ (k : Int)) = true := by simp; omega
      clear hu hc hln h0
      go_enter Try.func21, Try.ntmps21
      go_wp2_with fail
      go_ret
      exact ⟨by rw [HU.out]; rfl, rfl⟩

theorem ris_any {C t eb : Nat} {w : World} {Lm E : List Int} (h : Rt C w t eb Lm E) (i now : Int) :
    Calls Try.prog 23 #[.pointer (some ⟨t, 0, none⟩), .int .i64 i, .int .i64 now] w fun e w' => e = .returned (.bool (isB E i now)) ∧ w = w' := by
  have H := Lib.hid h
  clear h
  unfold isB
  go_enter Try.func23, Try.ntmps23
  go_wp2_with fail
  refine (runtil_any H.out i).mono ?_
  rintro e w1 ⟨rfl, rfl⟩
  cases hu : decide (0 < unt E i) with
  | false =>
    go_wp2_with fail
    go_ret
    exact ⟨by rw [hu]; rfl, rfl⟩
  | true =>
    go_wp2_with fail
    refine (runtil_any H.out i).mono ?_
    rintro e w1 ⟨rfl, rfl⟩
    go_wp2_with fail
    go_ret
    exact ⟨by rw [hu]; rfl, rfl⟩

theorem dropE_zero {E : List Int} {i : Int} (h : unt E i = 0) : dropE E i = E := by
  unfold dropE
  split
  · rename_i h0
    apply List.ext_getElem (by simp)
    intro j h1 h2
    rw [List.getElem_set]
    split
    · rename_i e
      unfold unt at h
      rw [if_pos h0, e] at h
      simp only [List.getD, List.getElem?_eq_getElem h2, Option.getD_some] at h
      exact h.symm
    · rfl
  · rfl
theorem unt_in {E : List Int} {i : Int} (h : unt E i ≠ 0) : 0 ≤ i ∧ i.toNat < E.length := by
  unfold unt at h
  split at h
  · rename_i h0
    refine ⟨h0, ?_⟩
    rcases Nat.lt_or_ge i.toNat E.length with q | q
    · exact q
    · exfalso; apply h; simp only [List.getD]; rw [List.getElem?_eq_none q]; rfl
  · exact absurd rfl h
/-- Nothing but blocks p and q has turned. -/
structure F2 (p q : Nat) (w w' : World) : Prop where
  os : w'.os = w.os
  tape : w'.tape = w.tape
  output : w'.output = w.output
  size : w.heap.size ≤ w'.heap.size
  block : ∀ k, k < w.heap.size → k ≠ p → k ≠ q → w'.heap[k]? = w.heap[k]?
theorem F2.refl (p q : Nat) (w : World) : F2 p q w w := ⟨rfl, rfl, rfl, Nat.le_refl _, fun _ _ _ _ => rfl⟩
theorem F2.of_q {p q : Nat} {w w' : World} (h : Fr q w w') : F2 p q w w' := ⟨h.os, h.tape, h.output, h.size, fun k hk _ h2 => h.block k hk h2⟩
theorem F2.of_p {p q : Nat} {w w' : World} (h : Fr p w w') : F2 p q w w' := ⟨h.os, h.tape, h.output, h.size, fun k hk h1 _ => h.block k hk h1⟩
theorem F2.below {p q B : Nat} {w w' : World} (h : F2 p q w w') (hp : B ≤ p) (hq : B ≤ q) (hs : B ≤ w.heap.size) : Below B w w' := ⟨h.os, h.tape, h.output, h.size, fun k hk => h.block k (by omega) (by omega) (by omega)⟩
theorem F2.set {p q : Nat} {w : World} (k : Nat) (v : Value) : F2 p q w (w.setCell ⟨q, k, none⟩ v) := F2.of_q ⟨rfl, rfl, rfl, by simp [World.setCell], fun j _ hj => Below.heap_setCell _ _ _ _ hj⟩
def RP (C : Nat) (w : World) (t eb : Nat) (Lm E' : List Int) (v : Value) (e : Ending) (w' : World) : Prop := e = .returned v ∧ Rt C w' t eb Lm E' ∧ F2 t eb w w'
theorem Rt.size {C t eb : Nat} {w : World} {Lm E : List Int} (h : Rt C w t eb Lm E) : C ≤ w.heap.size := by have := h.lt; have := h.ht; omega
theorem rdrop_any {C t eb : Nat} {w : World} {Lm E : List Int} (h : Rt C w t eb Lm E) (i : Int) :
    Calls Try.prog 12 #[.pointer (some ⟨t, 0, none⟩), .int .i64 i] w (RP C w t eb Lm (dropE E i) (.bool (decide (0 < unt E i)))) := by
  have hnn := (unt_bd h.bd i).1
  by_cases hz : unt E i = 0
  · have HP : Hid (RP C w t eb Lm (dropE E i) (.bool (decide (0 < unt E i))) (.returned (.bool false)) w) := Lib.hid ⟨by rw [hz]; rfl, by rw [dropE_zero hz]; exact h, F2.refl _ _ _⟩
    have H := Lib.hid h
    have HZ := Lib.hid hz
    clear h hz hnn
    go_enter Try.func12, Try.ntmps12
    go_wp2_with fail
    refine (runtil_any H.out i).mono ?_
    rintro e w1 ⟨rfl, rfl⟩
    rw [HZ.out]
    go_wp2_with fail
    go_ret
    exact HP.out
  · obtain ⟨h0, hl⟩ := unt_in hz
    obtain ⟨k, rfl⟩ := Int.eq_ofNat_of_zero_le h0
    have hk : k < Lm.length := by have := h.ln; simp at hl; omega
    have HP : Hid (RP C w t eb Lm (dropE E (k : Int)) (.bool (decide (0 < unt E (k : Int)))) (.returned (.bool true)) (w.setCell ⟨eb, k, none⟩ (.int .i64 0))) := Lib.hid ⟨by rw [decide_eq_true (by omega)], by unfold dropE; rw [if_pos h0]; exact h.set k 0 (by omega) hk, F2.set _ _⟩
    obtain ⟨ec, c1, hle, hmx, hc⟩ := h.ends
    obtain ⟨cc, cz⟩ := hc k hk
    have hq : (unt E (k : Int) == 0) = false := by simpa using hz
    have hq' : decide (unt E (k : Int) = 0) = false := by simpa using hz
    have H := Lib.hid h
    unfold maxLen at hmx
    clear hc hnn h0 hl h
    generalize Lm.length = n at c1 hk hle
    have hkn : (k : Int) < (n : Int) := by omega
    go_enter Try.func12, Try.ntmps12
    go_wp2_with fail
    refine (runtil_any H.out (k : Int)).mono ?_
    rintro e w1 ⟨rfl, rfl⟩
    generalize unt E (k : Int) = u at *
    go_wp2_with fail
    go_ret
    exact HP.out
end Go.Proofs.Ytfloceoopjokcaa
