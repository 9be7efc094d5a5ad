/- What bytes would answer: the words of bytes. -/
import Derived.Test.YthcfmfkdglmkmaaT
namespace Go.Proofs.Ythcfmfkdglmkmaa
set_option linter.unusedVariables false
set_option linter.unusedSimpArgs false
open Go.ChangeShapes Go.WideShapes Go.ChangeAt Go.RowKit

theorem below_drewN {B : Nat} {w w' : World} (h : Below B w w') (n : Nat) : Below B w (w'.drewN n) := ⟨h.os, h.tape, h.output, h.size, h.block⟩
def wat (L : List Nat) (i : Nat) : Nat := 256 * L.getD (2 * i) 0 + L.getD (2 * i + 1) 0
def wds (L : List Nat) (n : Nat) : List Nat := (List.range n).map (wat L)
def wx (L : List Nat) (n k : Nat) : List Nat := (List.range n).map fun i => if i < k then wat L i else 0
theorem wx_len (L : List Nat) (n k : Nat) : (wx L n k).length = n := by simp [wx]
theorem wds_len (L : List Nat) (n : Nat) : (wds L n).length = n := by simp [wds]
theorem wx_zero (L : List Nat) (n : Nat) : wx L n 0 = List.replicate n 0 := by
  apply List.ext_getElem
  · simp [wx]
  · intro i h1 h2; simp [wx]
theorem wx_set (L : List Nat) (n k : Nat) (hk : k < n) : wx L n (k + 1) = (wx L n k).set k (wat L k) := by
  apply List.ext_getElem
  · simp [wx]
  · intro i h1 h2
    rw [List.getElem_set]
    simp only [wx, List.getElem_map, List.getElem_range]
    by_cases e : k = i
    · subst e; rw [if_pos (by omega), if_pos rfl]
    · rw [if_neg e]
      by_cases h : i < k
      · rw [if_pos (by omega), if_pos h]
      · rw [if_neg (by omega), if_neg h]
theorem wx_full (L : List Nat) (n : Nat) : wx L n n = wds L n := by
  unfold wx wds
  apply List.map_congr_left
  intro i hi
  rw [if_pos (List.mem_range.1 hi)]
theorem wat_lt {L : List Nat} (h : ∀ b ∈ L, b < 256) (i : Nat) : wat L i < 65536 := by
  have h0 := getD_lt h (2 * i)
  have h1 := getD_lt h (2 * i + 1)
  unfold wat
  omega
theorem wds_lt {L : List Nat} (h : ∀ b ∈ L, b < 256) (n : Nat) : ∀ v ∈ wds L n, v < 65536 := by
  intro v hv
  obtain ⟨i, _, rfl⟩ := List.mem_map.1 hv
  exact wat_lt h i
theorem or16 (x y : Nat) (hx : x < 256) (hy : y < 256) : Go.bits .or .u16 ((x : Int) * 256) (y : Int) = ((256 * x + y : Nat) : Int) := by
  have h1 : (256 * x) ||| y = 256 * x + y := by
    have := Nat.two_pow_add_eq_or_of_lt (i := 8) (b := y) (by omega) x
    simpa using this.symm
  have e : (x : Int) * 256 = ((256 * x : Nat) : Int) := by omega
  rw [e]
  have g1 : (BitVec.ofInt 16 ((256 * x : Nat) : Int)).toNat = 256 * x := by
    rw [BitVec.ofInt_natCast, BitVec.toNat_ofNat]; exact Nat.mod_eq_of_lt (by omega)
  have g2 : (BitVec.ofInt 16 (y : Int)).toNat = y := by
    rw [BitVec.ofInt_natCast, BitVec.toNat_ofNat]; exact Nat.mod_eq_of_lt (by omega)
  show IntKind.u16.wrap ((BitVec.ofInt 16 ((256 * x : Nat) : Int) ||| BitVec.ofInt 16 (y : Int)).toNat : Int) = _
  rw [BitVec.toNat_or, g1, g2, h1]
  simp [IntKind.wrap, IntKind.bits, IntKind.signed]
  omega
def IntU (w : World) (x : Nat) (e : Ending) (w' : World) : Prop := e = .returned (.int .u16 (x : Int)) ∧ Below w.heap.size w w'
set_option maxRecDepth 100000 in
set_option maxHeartbeats 4000000 in
theorem at_any (k c : Nat) (a : Option Addr) (n cap : Nat) (D : List Nat) (w : World) (h1 : w.cell? ⟨c, 0, none⟩ = some (.slice a n cap)) (h : Bys w a n D) (hk : 2 * k + 1 < n) :
    Calls Try.prog 36 #[.int .i64 (k : Int), .pointer (some ⟨c, 0, none⟩)] w (IntU w (wat D k)) := by
  obtain ⟨P, hP⟩ : ∃ P, P = (IntU w (wat D k) : Ending → World → Prop) := ⟨_, rfl⟩
  rw [← hP]
  have HP := Lib.hid hP
  have hln := h.ln
  have hle := h.le
  unfold maxLen at hle
  obtain ⟨b, off, rfl, hbl, hc⟩ := h.pos (by omega)
  have c0 : w.cell? ⟨b, off + 2 * k, none⟩ = some (.int .u8 ((D.getD (2 * k) 0 : Nat) : Int)) := hc (2 * k) (by omega)
  have c1 : w.cell? ⟨b, off + (2 * k + 1), none⟩ = some (.int .u8 ((D.getD (2 * k + 1) 0 : Nat) : Int)) := hc (2 * k + 1) hk
  have l0 := getD_lt h.by' (2 * k)
  have l1 := getD_lt h.by' (2 * k + 1)
  have HW : Hid (wat D k = 256 * D.getD (2 * k) 0 + D.getD (2 * k + 1) 0) := Lib.hid rfl
  generalize D.getD (2 * k) 0 = x at c0 l0 HW
  generalize D.getD (2 * k + 1) 0 = y at c1 l1 HW
  have w1 : wrap64 (2 * (k : Int)) = 2 * (k : Int) := by unfold wrap64; omega
  have w2 : wrap64 (2 * (k : Int) + 1) = 2 * (k : Int) + 1 := by unfold wrap64; omega
  have i1 : 2 * (k : Int) < (n : Int) := by omega
  have i2 : 2 * (k : Int) + 1 < (n : Int) := by omega
  have hx16 : IntKind.u16.wrap (x : Int) = (x : Int) := by simp [IntKind.wrap, IntKind.bits, IntKind.signed]; omega
  have hy16 : IntKind.u16.wrap (y : Int) = (y : Int) := by simp [IntKind.wrap, IntKind.bits, IntKind.signed]; omega
  have hs16 : IntKind.u16.wrap ((x : Int) * 256) = (x : Int) * 256 := by simp [IntKind.wrap, IntKind.bits, IntKind.signed]; omega
  have ho := or16 x y l0 l1
  clear hP hc h hln
  go_enter Try.func36, Try.ntmps36
  go_upto_region 1 with fail
  go_quiet (fail)
  go_wp2_with fail
  rw [HP.out]
  exact ⟨by rw [HW.out]; simp, below_drewN (Below.refl _ _) _⟩
set_option maxRecDepth 100000 in
set_option maxHeartbeats 4000000 in
theorem fill_any (m c : Nat) (a : Option Addr) (n cap : Nat) (D : List Nat) (w : World) (h1 : w.cell? ⟨c, 0, none⟩ = some (.slice a n cap)) (hcl : c < w.heap.size) (h : Bys w a n D) (hm : 2 * m ≤ n) (hn : n ≤ 100000) :
    Calls Try.prog 35 #[.int .i64 (m : Int), .func (.func 36) #[] #[.pointer (some ⟨c, 0, none⟩)]] w (UnbP w (wds D m)) := by
  obtain ⟨P, hP⟩ : ∃ P, P = (UnbP w (wds D m) : Ending → World → Prop) := ⟨_, rfl⟩
  rw [← hP]
  have HP := Lib.hid hP
  have H := Lib.hid h
  have H1 := Lib.hid h1
  have hmk := make_w m (by omega)
  have h0 : (w.alloc (.cells (wv (List.replicate m 0)).toArray 44 (0, 0))).heap[w.heap.size]? = some (.cells (wv (wx D m 0)).toArray 44 (0, 0)) := by rw [wx_zero]; exact heap_alloc_new w _
  have H0 := Lib.hid h0
  have HM := Lib.hid hm
  have HN := Lib.hid hn
  have hm2 : m ≤ 50000 := by omega
  clear hP h h1 h0 hm hn
  go_enter Try.func35, Try.ntmps35
  go_wp2_with fail
  go_loopw [11] (fun iv wr => ∃ k : Nat, k ≤ m ∧ iv = .int .i64 k ∧ wr.heap[w.heap.size]? = some (.cells (wv (wx D m k)).toArray 44 (0, 0)) ∧ Below w.heap.size w wr) (fun iv _ => m - (intOf iv).toNat)
  case atStart => exact ⟨0, Nat.zero_le _, rfl, H0.out, (Below.refl _ _).alloc (Nat.le_refl _) _⟩
  case round =>
    obtain ⟨wo, rfl⟩ : ∃ wo : World, wo = wr := ⟨_, rfl⟩
    obtain ⟨k, hk, rfl, hO, hb⟩ := hrel
    by_cases hkn : k < m
    · have ht := wx_set D m k hkn
      have HT := Lib.hid ht
      have HO := Lib.hid hO
      have HB := Lib.hid hb
      have AT := Lib.hid (at_any k c a n cap D wo ((hb.cell (p := ⟨c, 0, none⟩) hcl).trans H1.out) (H.out.below hb) (by have := HM.out; omega))
      have d0 : (k : Int) < (m : Int) := by omega
      clear hO hb ht
      go_wp2_with fail
      refine AT.out.mono ?_
      rintro e w5 ⟨rfl, z5⟩
      have hO5 := low_of z5 HO.out
      have hcell : w5.cell? ⟨w.heap.size, k, none⟩ = some (.int .u16 (((wx D m k).getD k 0 : Nat) : Int)) := by
        have := wv_get (wx D m k) k (by rw [wx_len]; exact hkn)
        simp [World.cell?, hO5, this]
      have hfr : w5.frozen? ⟨w.heap.size, k, none⟩ = false := by simp [World.frozen?, hO5]
      have HO5 := Lib.hid hO5
      have B5 := Lib.hid (HB.out.trans (Below.mono z5 HB.out.size))
      have hset : (w5.setCell ⟨w.heap.size, k, none⟩ (.int .u16 ((wat D k : Nat) : Int))).heap[w.heap.size]? = some (.cells (wv (wx D m (k + 1))).toArray 44 (0, 0)) := by
        rw [HT.out, ← wv_set]
        simp [World.setCell, Array.getElem?_modify, HO5.out]
      have HSET := Lib.hid hset
      clear hO5 z5 hset
      generalize ((wx D m k).getD k 0 : Nat) = y0 at hcell
      go_wp2_with fail
      go_roundw
      case rel => exact ⟨k + 1, by omega, by go_num, HSET.out, B5.out.setCell (Nat.le_refl _) _⟩
      case measure => simp [intOf]; omega
    · have hk' : k = m := by omega
      have hf : UnbP w (wds D m) (.returned (.slice (some ⟨w.heap.size, 0, none⟩) m m)) wo := ⟨_, by rw [wds_len], by rw [← wx_full D m, ← hk']; simpa only [hk'] using hO, Nat.le_refl _, hb⟩
      have HF := Lib.hid hf
      subst hk'
      clear hO hb hf
      go_wp2_with fail
      rw [HP.out]
      exact HF.out
end Go.Proofs.Ythcfmfkdglmkmaa
