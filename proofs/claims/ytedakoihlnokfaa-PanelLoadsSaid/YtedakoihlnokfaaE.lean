/- A panel as it lies; what each state comes to. -/
import Derived.Test.YtedakoihlnokfaaD
import Derived.Deep.RegionHeld
import Derived.Deep.RegionHeld3
namespace Go.Proofs.Ytedakoihlnokfaa
set_option linter.unusedVariables false
set_option linter.unusedSimpArgs false
open Go.ChangeShapes Go.WideShapes Go.ChangeAt Go.RowKit

theorem cells4 {w : World} {b : Nat} {t : TypeId} {x y z u : Value} (h : w.heap[b]? = some (.cells #[x, y, z, u] t (0, 0))) :
    w.cell? ⟨b, 0, none⟩ = some x ∧ w.cell? ⟨b, 1, none⟩ = some y ∧ w.cell? ⟨b, 2, none⟩ = some z ∧ w.cell? ⟨b, 3, none⟩ = some u ∧ w.frozen? ⟨b, 2, none⟩ = false ∧ w.frozen? ⟨b, 3, none⟩ = false := by
  simp [World.cell?, World.frozen?, h]
def Gd (W w' : World) : Prop := Below W.heap.size W w'
theorem Gd.step {W a b : World} (h : Gd W a) (hb : Below a.heap.size a b) : Gd W b := Below.trans h (hb.mono (Below.size h))
/-- A panel: its block p, its states' block sb, its kinds K (at ka), its states S. -/
structure Pn (B : Nat) (w : World) (p sb : Nat) (ka : Option Addr) (kc n : Nat) (K S : List Int) (si te : Bool) : Prop where
  bp : B ≤ p
  bs : B ≤ sb
  ne : p ≠ sb
  kl : K.length = n
  sl : S.length = n
  n64 : n ≤ 64
  k6 : ∀ k ∈ K, 1 ≤ k ∧ k ≤ 6
  s8 : ∀ s ∈ S, 0 ≤ s ∧ s < 9
  blk : w.heap[p]? = some (.cells #[.slice ka n kc, .slice (some ⟨sb, 0, none⟩) n n, .bool si, .bool te] 46 (0, 0))
  st : w.heap[sb]? = some (.cells (iv S).toArray 3 (0, 0))
  ks : Ir w ka n K
  kne : ∀ b off, ka = some ⟨b, off, none⟩ → 0 < n → b ≠ p ∧ b ≠ sb
section
variable {B : Nat} {w w' : World} {p sb : Nat} {ka : Option Addr} {kc n : Nat} {K S : List Int} {si te : Bool}
theorem Pn.lt (h : Pn B w p sb ka kc n K S si te) : p < w.heap.size ∧ sb < w.heap.size := ⟨blk_lt h.blk, blk_lt h.st⟩
theorem Pn.below (h : Pn B w p sb ka kc n K S si te) (hb : Below w.heap.size w w') : Pn B w' p sb ka kc n K S si te :=
  ⟨h.bp, h.bs, h.ne, h.kl, h.sl, h.n64, h.k6, h.s8, low_of hb h.blk, low_of hb h.st, h.ks.below hb, h.kne⟩
theorem Pn.mono {C : Nat} (h : Pn B w p sb ka kc n K S si te) (hC : C ≤ B) : Pn C w p sb ka kc n K S si te :=
  ⟨Nat.le_trans hC h.bp, Nat.le_trans hC h.bs, h.ne, h.kl, h.sl, h.n64, h.k6, h.s8, h.blk, h.st, h.ks, h.kne⟩
theorem s8_wf (h : ∀ s ∈ S, 0 ≤ s ∧ s < 9) : ∀ s ∈ S, (Lit.int .i64 s).wf = true := fun s hs => wf_i64 (by have := h s hs; omega) (by have := h s hs; omega)
theorem getD_9 (h : ∀ s ∈ S, 0 ≤ s ∧ s < 9) (i : Nat) : 0 ≤ S.getD i 0 ∧ S.getD i 0 < 9 := by
  simp only [List.getD]
  by_cases hi : i < S.length
  · rw [List.getElem?_eq_getElem hi]; exact h _ (List.getElem_mem hi)
  · rw [List.getElem?_eq_none (by omega)]; simp
/-- The states turned. -/
theorem Pn.turn {S' : List Int} (h : Pn B w p sb ka kc n K S si te) (hf : Fs [sb] w w') (hl : S'.length = n) (h8 : ∀ s ∈ S', 0 ≤ s ∧ s < 9) (hs : w'.heap[sb]? = some (.cells (iv S').toArray 3 (0, 0))) : Pn B w' p sb ka kc n K S' si te :=
  ⟨h.bp, h.bs, h.ne, h.kl, hl, h.n64, h.k6, h8, (hf.block p h.lt.1 (by simp; exact h.ne)).trans h.blk, hs, h.ks.hop hf.size (fun b off e h0 => by
    have hlt : b < w.heap.size := by
      obtain ⟨b', off', e', hb', _⟩ := h.ks.pos h0
      rw [e] at e'; simp only [Option.some.injEq, Addr.mk.injEq, and_true] at e'; omega
    exact hf.block b hlt (by simp; exact (h.kne b off e h0).2)), h.kne⟩
/-- The horn's silence, and the test, set. -/
theorem Pn.flag2 (h : Pn B w p sb ka kc n K S si te) (b : Bool) : Pn B (w.setCell ⟨p, 2, none⟩ (.bool b)) p sb ka kc n K S b te :=
  ⟨h.bp, h.bs, h.ne, h.kl, h.sl, h.n64, h.k6, h.s8, by simpa using set_block h.blk 2 (.bool b), (Below.heap_setCell _ _ _ _ (fun e => h.ne (by simpa using e.symm))).trans h.st, h.ks.hop (by simp [World.setCell]) (fun b' off e h0 => Below.heap_setCell _ _ _ _ (fun q => (h.kne b' off e h0).1 (by simpa using q))), h.kne⟩
theorem Pn.flag3 (h : Pn B w p sb ka kc n K S si te) (b : Bool) : Pn B (w.setCell ⟨p, 3, none⟩ (.bool b)) p sb ka kc n K S si b :=
  ⟨h.bp, h.bs, h.ne, h.kl, h.sl, h.n64, h.k6, h.s8, by simpa using set_block h.blk 3 (.bool b), (Below.heap_setCell _ _ _ _ (fun e => h.ne (by simpa using e.symm))).trans h.st, h.ks.hop (by simp [World.setCell]) (fun b' off e h0 => Below.heap_setCell _ _ _ _ (fun q => (h.kne b' off e h0).1 (by simpa using q))), h.kne⟩
end
def eL (f : Int → Int) (S : List Int) (k : Nat) : List Int := (List.range S.length).map fun i => if i < k then f (S.getD i 0) else 0
theorem eL_len (f : Int → Int) (S : List Int) (k : Nat) : (eL f S k).length = S.length := by simp [eL]
theorem eL_zero (f : Int → Int) (S : List Int) : eL f S 0 = List.replicate S.length 0 := by
  apply List.ext_getElem
  · simp [eL]
  · intro i h1 h2; simp [eL]
theorem eL_set (f : Int → Int) (S : List Int) (k : Nat) (hk : k < S.length) : (eL f S k).set k (f (S.getD k 0)) = eL f S (k + 1) := by
  apply List.ext_getElem
  · simp [eL]
  · intro i h1 h2
    rw [List.getElem_set]
    simp only [eL, List.getElem_map, List.getElem_range]
    by_cases e : k = i
    · subst e; rw [if_pos rfl, if_pos (by omega)]
    · rw [if_neg e]
      by_cases h : i < k
      · rw [if_pos h, if_pos (by omega)]
      · rw [if_neg h, if_neg (by omega)]
theorem eL_full (f : Int → Int) (S : List Int) : eL f S S.length = S.map f := by
  apply List.ext_getElem
  · simp [eL]
  · intro i h1 h2
    have hi : i < S.length := by simpa [eL] using h1
    simp only [eL, List.getElem_map, List.getElem_range, if_pos hi]
    simp [List.getD, List.getElem?_eq_getElem hi]
def RowP (w : World) (n : Nat) (L : List Int) (e : Ending) (w' : World) : Prop := ∃ g, e = .returned (.slice (some ⟨g, 0, none⟩) n n) ∧ w'.heap[g]? = some (.cells (iv L).toArray 3 (0, 0)) ∧ w.heap.size ≤ g ∧ Below w.heap.size w w'
theorem cl_states (s : Int) (w : World) : Calls Try.prog 33 #[.int .i64 s] w (IntB w s) := by
  go_enter Try.func33, Try.ntmps33
  go_wp2_with fail
  go_ret
  exact ⟨rfl, Below.refl _ _⟩
theorem cl_on (s : Int) (w : World) : Calls Try.prog 37 #[.int .i64 s] w (IntB w 1) := by
  go_enter Try.func37, Try.ntmps37
  go_wp2_with fail
  go_ret
  exact ⟨rfl, Below.refl _ _⟩
set_option maxRecDepth 100000 in
set_option maxHeartbeats 2000000 in
theorem each_states {B : Nat} {w : World} {p sb : Nat} {ka : Option Addr} {kc n : Nat} {K S : List Int} {si te : Bool} (h : Pn B w p sb ka kc n K S si te) :
    Calls Try.prog 32 #[.pointer (some ⟨p, 0, none⟩), .func (.func 33) #[] #[]] w (RowP w n (S.map (fun s => s))) := by
  obtain ⟨P, hP⟩ : ∃ P, P = (RowP w n (S.map (fun s => s)) : Ending → World → Prop) := ⟨_, rfl⟩
  rw [← hP]
  have HP := Lib.hid hP
  have H := Lib.hid h
  have n64 := h.n64
  obtain ⟨c0, c1, c2, c3, _, _⟩ := cells4 h.blk
  have mk := make_ir 22 3 Try.underlying22 info3 n (by omega) w
  have HSL := Lib.hid h.sl
  clear h hP
  go_enter Try.func32, Try.ntmps32
  go_wp2_with fail
  clear mk c0 c1 c2 c3
  go_loopw [15] (fun i wr => ∃ k : Nat, k ≤ n ∧ i = .int .i64 k ∧ wr.heap[w.heap.size]? = some (.cells (iv (eL (fun s => s) S k)).toArray 3 (0, 0)) ∧ Below w.heap.size w wr) (fun i _ => n - (intOf i).toNat)
  case atStart => exact ⟨0, Nat.zero_le _, rfl, by rw [eL_zero, HSL.out]; exact heap_alloc_new _ _, alloc_b _ _⟩
  case round =>
    obtain ⟨wo, rfl⟩ : ∃ wo : World, wo = wr := ⟨_, rfl⟩
    obtain ⟨k, hk, rfl, hg, hb⟩ := hrel
    by_cases hkn : k < n
    · have hpn := H.out.below hb
      obtain ⟨c0, c1, c2, c3, _, _⟩ := cells4 hpn.blk
      have cs := (iv_cell hpn.st (k := k) (by rw [HSL.out]; exact hkn)).1
      have hset := eL_set (fun s => s) S k (by rw [HSL.out]; exact hkn)
      obtain ⟨s, hs⟩ : ∃ s, s = S.getD k 0 := ⟨_, rfl⟩
      rw [← hs] at cs
      try rw [← hs] at hset
      have HG := Lib.hid hg
      have HB := Lib.hid hb
      have HSET := Lib.hid hset
      have d0 : (k : Int) < (n : Int) := by omega
      clear hg hb hset hs hpn
      go_wp2_with fail
      refine (cl_states s wo).mono ?_
      rintro e w2 ⟨rfl, q2⟩
      have hg2 := low_of q2 HG.out
      obtain ⟨ce, fe⟩ := iv_cell hg2 (k := k) (by rw [eL_len, HSL.out]; exact hkn)
      have hst := set_block hg2 k (.int .i64 (s))
      rw [iv_set, show ((eL (fun s => s) S k).set k (s)) = eL (fun s => s) S (k + 1) from HSET.out] at hst
      have HST := Lib.hid hst
      have HB2 := Lib.hid ((HB.out.trans (q2.mono HB.out.size)).setCell (p := ⟨w.heap.size, k, none⟩) (Nat.le_refl _) (.int .i64 (s)))
      have d1 : (0 : Int) ≤ (k : Int) := by omega
      clear hg2 hst q2 c0 c1 c2 c3 cs
      go_wp2_with fail
      go_roundw
      case rel => exact ⟨k + 1, by omega, by go_num, HST.out, HB2.out⟩
      case measure => simp [intOf]; omega
    · have hk' : k = n := by omega
      subst hk'
      have e := eL_full (fun s => s) S
      rw [HSL.out] at e
      rw [e] at hg
      have HG := Lib.hid hg
      have HB := Lib.hid hb
      clear hg hb e
      go_wp2_with fail
      rw [HP.out]
      exact ⟨_, rfl, HG.out, Nat.le_refl _, HB.out⟩
set_option maxRecDepth 100000 in
set_option maxHeartbeats 2000000 in
theorem each_on {B : Nat} {w : World} {p sb : Nat} {ka : Option Addr} {kc n : Nat} {K S : List Int} {si te : Bool} (h : Pn B w p sb ka kc n K S si te) :
    Calls Try.prog 32 #[.pointer (some ⟨p, 0, none⟩), .func (.func 37) #[] #[]] w (RowP w n (S.map (fun _ => 1))) := by
  obtain ⟨P, hP⟩ : ∃ P, P = (RowP w n (S.map (fun _ => 1)) : Ending → World → Prop) := ⟨_, rfl⟩
  rw [← hP]
  have HP := Lib.hid hP
  have H := Lib.hid h
  have n64 := h.n64
  obtain ⟨c0, c1, c2, c3, _, _⟩ := cells4 h.blk
  have mk := make_ir 22 3 Try.underlying22 info3 n (by omega) w
  have HSL := Lib.hid h.sl
  clear h hP
  go_enter Try.func32, Try.ntmps32
  go_wp2_with fail
  clear mk c0 c1 c2 c3
  go_loopw [15] (fun i wr => ∃ k : Nat, k ≤ n ∧ i = .int .i64 k ∧ wr.heap[w.heap.size]? = some (.cells (iv (eL (fun _ => 1) S k)).toArray 3 (0, 0)) ∧ Below w.heap.size w wr) (fun i _ => n - (intOf i).toNat)
  case atStart => exact ⟨0, Nat.zero_le _, rfl, by rw [eL_zero, HSL.out]; exact heap_alloc_new _ _, alloc_b _ _⟩
  case round =>
    obtain ⟨wo, rfl⟩ : ∃ wo : World, wo = wr := ⟨_, rfl⟩
    obtain ⟨k, hk, rfl, hg, hb⟩ := hrel
    by_cases hkn : k < n
    · have hpn := H.out.below hb
      obtain ⟨c0, c1, c2, c3, _, _⟩ := cells4 hpn.blk
      have cs := (iv_cell hpn.st (k := k) (by rw [HSL.out]; exact hkn)).1
      have hset := eL_set (fun _ => 1) S k (by rw [HSL.out]; exact hkn)
      obtain ⟨s, hs⟩ : ∃ s, s = S.getD k 0 := ⟨_, rfl⟩
      rw [← hs] at cs
      try rw [← hs] at hset
      have HG := Lib.hid hg
      have HB := Lib.hid hb
      have HSET := Lib.hid hset
      have d0 : (k : Int) < (n : Int) := by omega
      clear hg hb hset hs hpn
      go_wp2_with fail
      refine (cl_on s wo).mono ?_
      rintro e w2 ⟨rfl, q2⟩
      have hg2 := low_of q2 HG.out
      obtain ⟨ce, fe⟩ := iv_cell hg2 (k := k) (by rw [eL_len, HSL.out]; exact hkn)
      have hst := set_block hg2 k (.int .i64 (1))
      rw [iv_set, show ((eL (fun _ => 1) S k).set k (1)) = eL (fun _ => 1) S (k + 1) from HSET.out] at hst
      have HST := Lib.hid hst
      have HB2 := Lib.hid ((HB.out.trans (q2.mono HB.out.size)).setCell (p := ⟨w.heap.size, k, none⟩) (Nat.le_refl _) (.int .i64 (1)))
      have d1 : (0 : Int) ≤ (k : Int) := by omega
      clear hg2 hst q2 c0 c1 c2 c3 cs
      go_wp2_with fail
      go_roundw
      case rel => exact ⟨k + 1, by omega, by go_num, HST.out, HB2.out⟩
      case measure => simp [intOf]; omega
    · have hk' : k = n := by omega
      subst hk'
      have e := eL_full (fun _ => 1) S
      rw [HSL.out] at e
      rw [e] at hg
      have HG := Lib.hid hg
      have HB := Lib.hid hb
      clear hg hb e
      go_wp2_with fail
      rw [HP.out]
      exact ⟨_, rfl, HG.out, Nat.le_refl _, HB.out⟩
set_option maxRecDepth 100000 in
set_option maxHeartbeats 2000000 in
theorem each_horn {B : Nat} {w : World} {p sb : Nat} {ka : Option Addr} {kc n : Nat} {K S : List Int} {si te : Bool} (h : Pn B w p sb ka kc n K S si te) :
    Calls Try.prog 32 #[.pointer (some ⟨p, 0, none⟩), .func (.func 35) #[] #[]] w (RowP w n (S.map hornZ)) := by
  obtain ⟨P, hP⟩ : ∃ P, P = (RowP w n (S.map hornZ) : Ending → World → Prop) := ⟨_, rfl⟩
  rw [← hP]
  have HP := Lib.hid hP
  have H := Lib.hid h
  have n64 := h.n64
  obtain ⟨c0, c1, c2, c3, _, _⟩ := cells4 h.blk
  have mk := make_ir 22 3 Try.underlying22 info3 n (by omega) w
  have HSL := Lib.hid h.sl
  clear h hP
  go_enter Try.func32, Try.ntmps32
  go_wp2_with fail
  clear mk c0 c1 c2 c3
  go_loopw [15] (fun i wr => ∃ k : Nat, k ≤ n ∧ i = .int .i64 k ∧ wr.heap[w.heap.size]? = some (.cells (iv (eL hornZ S k)).toArray 3 (0, 0)) ∧ Below w.heap.size w wr) (fun i _ => n - (intOf i).toNat)
  case atStart => exact ⟨0, Nat.zero_le _, rfl, by rw [eL_zero, HSL.out]; exact heap_alloc_new _ _, alloc_b _ _⟩
  case round =>
    obtain ⟨wo, rfl⟩ : ∃ wo : World, wo = wr := ⟨_, rfl⟩
    obtain ⟨k, hk, rfl, hg, hb⟩ := hrel
    by_cases hkn : k < n
    · have hpn := H.out.below hb
      obtain ⟨c0, c1, c2, c3, _, _⟩ := cells4 hpn.blk
      have cs := (iv_cell hpn.st (k := k) (by rw [HSL.out]; exact hkn)).1
      have hset := eL_set hornZ S k (by rw [HSL.out]; exact hkn)
      obtain ⟨s, hs⟩ : ∃ s, s = S.getD k 0 := ⟨_, rfl⟩
      rw [← hs] at cs
      try rw [← hs] at hset
      have HG := Lib.hid hg
      have HB := Lib.hid hb
      have HSET := Lib.hid hset
      have d0 : (k : Int) < (n : Int) := by omega
      clear hg hb hset hs hpn
      go_wp2_with fail
      refine (horn_any s wo).mono ?_
      rintro e w2 ⟨rfl, q2⟩
      have hg2 := low_of q2 HG.out
      obtain ⟨ce, fe⟩ := iv_cell hg2 (k := k) (by rw [eL_len, HSL.out]; exact hkn)
      have hst := set_block hg2 k (.int .i64 (hornZ s))
      rw [iv_set, show ((eL hornZ S k).set k (hornZ s)) = eL hornZ S (k + 1) from HSET.out] at hst
      have HST := Lib.hid hst
      have HB2 := Lib.hid ((HB.out.trans (q2.mono HB.out.size)).setCell (p := ⟨w.heap.size, k, none⟩) (Nat.le_refl _) (.int .i64 (hornZ s)))
      have d1 : (0 : Int) ≤ (k : Int) := by omega
      clear hg2 hst q2 c0 c1 c2 c3 cs
      go_wp2_with fail
      go_roundw
      case rel => exact ⟨k + 1, by omega, by go_num, HST.out, HB2.out⟩
      case measure => simp [intOf]; omega
    · have hk' : k = n := by omega
      subst hk'
      have e := eL_full hornZ S
      rw [HSL.out] at e
      rw [e] at hg
      have HG := Lib.hid hg
      have HB := Lib.hid hb
      clear hg hb e
      go_wp2_with fail
      rw [HP.out]
      exact ⟨_, rfl, HG.out, Nat.le_refl _, HB.out⟩
set_option maxRecDepth 100000 in
set_option maxHeartbeats 2000000 in
theorem each_look {B : Nat} {w : World} {p sb : Nat} {ka : Option Addr} {kc n : Nat} {K S : List Int} {si te : Bool} (h : Pn B w p sb ka kc n K S si te) :
    Calls Try.prog 32 #[.pointer (some ⟨p, 0, none⟩), .func (.func 38) #[] #[]] w (RowP w n (S.map lookZ)) := by
  obtain ⟨P, hP⟩ : ∃ P, P = (RowP w n (S.map lookZ) : Ending → World → Prop) := ⟨_, rfl⟩
  rw [← hP]
  have HP := Lib.hid hP
  have H := Lib.hid h
  have n64 := h.n64
  obtain ⟨c0, c1, c2, c3, _, _⟩ := cells4 h.blk
  have mk := make_ir 22 3 Try.underlying22 info3 n (by omega) w
  have HSL := Lib.hid h.sl
  clear h hP
  go_enter Try.func32, Try.ntmps32
  go_wp2_with fail
  clear mk c0 c1 c2 c3
  go_loopw [15] (fun i wr => ∃ k : Nat, k ≤ n ∧ i = .int .i64 k ∧ wr.heap[w.heap.size]? = some (.cells (iv (eL lookZ S k)).toArray 3 (0, 0)) ∧ Below w.heap.size w wr) (fun i _ => n - (intOf i).toNat)
  case atStart => exact ⟨0, Nat.zero_le _, rfl, by rw [eL_zero, HSL.out]; exact heap_alloc_new _ _, alloc_b _ _⟩
  case round =>
    obtain ⟨wo, rfl⟩ : ∃ wo : World, wo = wr := ⟨_, rfl⟩
    obtain ⟨k, hk, rfl, hg, hb⟩ := hrel
    by_cases hkn : k < n
    · have hpn := H.out.below hb
      obtain ⟨c0, c1, c2, c3, _, _⟩ := cells4 hpn.blk
      have cs := (iv_cell hpn.st (k := k) (by rw [HSL.out]; exact hkn)).1
      have hset := eL_set lookZ S k (by rw [HSL.out]; exact hkn)
      obtain ⟨s, hs⟩ : ∃ s, s = S.getD k 0 := ⟨_, rfl⟩
      rw [← hs] at cs
      try rw [← hs] at hset
      have HG := Lib.hid hg
      have HB := Lib.hid hb
      have HSET := Lib.hid hset
      have d0 : (k : Int) < (n : Int) := by omega
      clear hg hb hset hs hpn
      go_wp2_with fail
      refine (look_any s wo).mono ?_
      rintro e w2 ⟨rfl, q2⟩
      have hg2 := low_of q2 HG.out
      obtain ⟨ce, fe⟩ := iv_cell hg2 (k := k) (by rw [eL_len, HSL.out]; exact hkn)
      have hst := set_block hg2 k (.int .i64 (lookZ s))
      rw [iv_set, show ((eL lookZ S k).set k (lookZ s)) = eL lookZ S (k + 1) from HSET.out] at hst
      have HST := Lib.hid hst
      have HB2 := Lib.hid ((HB.out.trans (q2.mono HB.out.size)).setCell (p := ⟨w.heap.size, k, none⟩) (Nat.le_refl _) (.int .i64 (lookZ s)))
      have d1 : (0 : Int) ≤ (k : Int) := by omega
      clear hg2 hst q2 c0 c1 c2 c3 cs
      go_wp2_with fail
      go_roundw
      case rel => exact ⟨k + 1, by omega, by go_num, HST.out, HB2.out⟩
      case measure => simp [intOf]; omega
    · have hk' : k = n := by omega
      subst hk'
      have e := eL_full lookZ S
      rw [HSL.out] at e
      rw [e] at hg
      have HG := Lib.hid hg
      have HB := Lib.hid hb
      clear hg hb e
      go_wp2_with fail
      rw [HP.out]
      exact ⟨_, rfl, HG.out, Nat.le_refl _, HB.out⟩
end Go.Proofs.Ytedakoihlnokfaa
