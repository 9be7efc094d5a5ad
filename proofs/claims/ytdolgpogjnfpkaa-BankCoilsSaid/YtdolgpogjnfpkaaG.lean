/- Bits. -/
import Derived.Test.YtdolgpogjnfpkaaF
namespace Go.Proofs.Ytdolgpogjnfpkaa
set_option linter.unusedVariables false
open Go.ChangeShapes Go.WideShapes Go.ChangeAt Go.RowKit

def bx (V : List Nat) (m k : Nat) : List Nat := (List.range m).map (byteAt (V.take k))
theorem bx_len (V : List Nat) (m k : Nat) : (bx V m k).length = m := by simp [bx]
theorem bx_at (V : List Nat) (m k j : Nat) (h : j < m) : (bx V m k).getD j 0 = byteAt (V.take k) j := by simp [bx, List.getD, List.getElem?_map, List.getElem?_range h]
theorem bx_zero (V : List Nat) (m : Nat) : bx V m 0 = List.replicate m 0 := by
  apply List.ext_getElem
  · simp [bx]
  · intro i h1 h2
    simp [bx, byteAt, val]
theorem bx_full (V : List Nat) (k : Nat) (h : V.length ≤ k) : bx V ((V.length + 7) / 8) k = bits V := by unfold bx bits; rw [List.take_of_length_le h]
theorem bx_same (V : List Nat) (m k : Nat) (hk : k < V.length) (h0 : V.getD k 0 = 0) : bx V m (k + 1) = bx V m k := by
  unfold bx
  apply List.map_congr_left
  intro j _
  rw [byteAt_snoc V k hk, h0]
  simp [bit]
theorem bx_set (V : List Nat) (m k : Nat) (hk : k < V.length) (hm : k / 8 < m) (h0 : V.getD k 0 ≠ 0) : bx V m (k + 1) = (bx V m k).set (k / 8) (byteAt (V.take k) (k / 8) ||| 2 ^ (k % 8)) := by
  apply List.ext_getElem
  · simp [bx]
  · intro j h1 h2
    rw [List.getElem_set]
    simp only [bx, List.getElem_map, List.getElem_range]
    rw [byteAt_snoc V k hk]
    have hb : bit (V.getD k 0) = 1 := by unfold bit; rw [if_neg h0]
    rw [hb, Nat.mul_one]
    by_cases e : j = k / 8
    · subst e
      rw [if_pos rfl, if_pos rfl, or_bit _ _ (by omega) (byteAt_lo V k (by omega))]
    · rw [if_neg e, if_neg (fun q => e q.symm)]
theorem make_b (n : Nat) (hn : n ≤ 2000000) (w : World) : (Instr.makeSlice 33 (.int .i64 (n : Int)) (.int .i64 (n : Int))).run Try.prog w = .ok (.slice (some ⟨w.heap.size, 0, none⟩) n n) (w.alloc (.cells (bv (List.replicate n 0)).toArray 5 (0, 0))) := by
  obtain ⟨ti, hti, hz0, hz1, hz2⟩ := info_parts info5
  have hr := run_make (P := Try.prog) w 33 5 ti _ Try.underlying33 hti hz0 .i64 .i64 (n : Int) (n : Int) (by omega) (Int.le_refl _) (by rw [hz2]; omega) (by omega)
  rw [hz1] at hr
  have e : (n : Int).toNat = n := by simp
  rw [e] at hr
  rw [hr]
  congr 2
  have := made_zero n
  rw [← this]
theorem or_u8 (x y : Nat) (hx : x < 256) (hy : y < 256) : Go.bits .or .u8 (x : Int) (y : Int) = ((x ||| y : Nat) : Int) := by
  have hxy : x ||| y < 256 := Nat.or_lt_two_pow (n := 8) hx hy
  have g1 : (BitVec.ofInt 8 (x : Int)).toNat = x := by
    rw [BitVec.ofInt_natCast, BitVec.toNat_ofNat]; exact Nat.mod_eq_of_lt (by omega)
  have g2 : (BitVec.ofInt 8 (y : Int)).toNat = y := by
    rw [BitVec.ofInt_natCast, BitVec.toNat_ofNat]; exact Nat.mod_eq_of_lt (by omega)
  show IntKind.u8.wrap ((BitVec.ofInt 8 (x : Int) ||| BitVec.ofInt 8 (y : Int)).toNat : Int) = _
  rw [BitVec.toNat_or, g1, g2]
  simp [IntKind.wrap, IntKind.bits, IntKind.signed]
  omega
theorem or_pow (x t : Nat) (hx : x < 256) (ht : t < 8) : Go.bits .or .u8 (x : Int) ((2 : Int) ^ t % 256) = ((x ||| 2 ^ t : Nat) : Int) := by
  have h : 2 ^ t < 256 := by have := Nat.pow_lt_pow_right (a := 2) (m := t) (n := 8) (by omega) ht; simpa using this
  have e : (2 : Int) ^ t % 256 = ((2 ^ t : Nat) : Int) := by
    have : ((2 ^ t : Nat) : Int) = (2 : Int) ^ t := by simp
    rw [← this]
    exact Int.emod_eq_of_lt (Int.natCast_nonneg _) (by have := Int.ofNat_lt.2 h; simpa using this)
  rw [e]
  exact or_u8 x (2 ^ t) hx h
def BitsP (w : World) (V : List Nat) (e : Ending) (w' : World) : Prop := ∃ g, e = .returned (.slice (some ⟨g, 0, none⟩) (bits V).length (bits V).length) ∧ w'.heap[g]? = some (.cells (bv (bits V)).toArray 5 (0, 0)) ∧ w.heap.size ≤ g ∧ Below w.heap.size w w'
theorem bv_set (L : List Nat) (i x : Nat) : (bv L).set i (.int .u8 (x : Int)) = bv (L.set i x) := by simp [bv, List.map_set]
theorem low_of {A B : World} {k : Nat} {o : Obj} (h : Below A.heap.size A B) (hk : A.heap[k]? = some o) : B.heap[k]? = some o := (h.block k (blk_lt hk)).trans hk
set_option maxRecDepth 100000 in
set_option maxHeartbeats 4000000 in
theorem bits_any (a : Option Addr) (n c : Nat) (V : List Nat) (w : World) (h : Wds w a n V) (hn : n ≤ 100000) : Calls Try.prog 76 #[.slice a n c] w (BitsP w V) := by
  have H := Lib.hid h
  have hln := h.ln
  obtain ⟨m, hm⟩ : ∃ m, m = (n + 7) / 8 := ⟨_, rfl⟩
  have e1 : ((n : Int) + 7) / 8 = (m : Int) := by omega
  have e1' : ((n : Int) + 7).tdiv 8 = (m : Int) := by rw [Int.tdiv_eq_ediv_of_nonneg (by omega)]; exact e1
  have hmk : (Instr.makeSlice 33 (.int .i64 (((n : Int) + 7) / 8)) (.int .i64 (((n : Int) + 7) / 8))).run Try.prog w = .ok (.slice (some ⟨w.heap.size, 0, none⟩) m m) (w.alloc (.cells (bv (List.replicate m 0)).toArray 5 (0, 0))) := by rw [e1]; exact make_b m (by omega) w
  have h0 : (w.alloc (.cells (bv (List.replicate m 0)).toArray 5 (0, 0))).heap[w.heap.size]? = some (.cells (bv (bx V m 0)).toArray 5 (0, 0)) := by rw [bx_zero]; exact heap_alloc_new w _
  have H0 := Lib.hid h0
  have HM := Lib.hid hm
  clear h h0 hm
  go_enter Try.func76, Try.ntmps76
  clear e1 e1'
  go_wp2_with fail
  clear hmk
  go_loopw [13] (fun iv wr => ∃ k : Nat, k ≤ n ∧ iv = .int .i64 k ∧ wr.heap[w.heap.size]? = some (.cells (bv (bx V m k)).toArray 5 (0, 0)) ∧ Below w.heap.size w wr) (fun iv _ => n - (intOf iv).toNat)
  case atStart => exact ⟨0, Nat.zero_le _, rfl, H0.out, (Below.refl _ _).alloc (Nat.le_refl _) _⟩
  case round =>
    obtain ⟨wo, rfl⟩ : ∃ wo : World, wo = wr := ⟨_, rfl⟩
    obtain ⟨k, hk, rfl, hO, hb⟩ := hrel
    by_cases hkn : k < n
    · obtain ⟨b, off, rfl, hbl, hc⟩ := H.out.pos (by omega)
      have hc0 := (hb.cell (p := ⟨b, off + k, none⟩) hbl).trans (hc k hkn)
      have hv := wgetD_lt H.out.by' k
      have hs := bx_same V m k (by omega)
      have ht := bx_set V m k (by omega) (by have := HM.out; omega)
      generalize V.getD k 0 = v at hc0 hv hs ht
      have d0 : (k : Int) < (n : Int) := by omega
      have HO := Lib.hid hO
      have HB := Lib.hid hb
      have HS := Lib.hid hs
      have HT := Lib.hid ht
      clear hO hb hc hs ht
      by_cases hv0 : v = 0
      · have t1 : ((v : Int) != 0) = false := by simp [hv0]
        go_wp2_with fail
        go_roundw
        case rel => exact ⟨k + 1, by omega, by go_num, by rw [HS.out hv0]; exact HO.out, HB.out⟩
        case measure => simp [intOf]; omega
      · have t1 : ((v : Int) != 0) = true := by simp; omega
        have hj : k / 8 < m := by have := HM.out; omega
        have hx := byteAt_lt (V.take k) (k / 8)
        have hbx := bx_at V m k (k / 8) hj
        have hcell : wo.cell? ⟨w.heap.size, k / 8, none⟩ = some (.int .u8 ((byteAt (V.take k) (k / 8) : Nat) : Int)) := by
          have := bv_get (bx V m k) (k / 8) (by rw [bx_len]; exact hj)
          rw [hbx] at this
          simp [World.cell?, HO.out, this]
        have hfr : wo.frozen? ⟨w.heap.size, k / 8, none⟩ = false := by simp [World.frozen?, HO.out]
        have ht2 := HT.out hv0
        generalize byteAt (V.take k) (k / 8) = x at hcell hx ht2
        have HT2 := Lib.hid ht2
        clear ht2 hbx
        have i1 : (k : Int) / 8 < (m : Int) := by omega
        go_wp2_with fail
        go_region
        all_goals
          rw [or_pow x (k % 8) hx (by omega)]
          have hset : (wo.setCell ⟨w.heap.size, k / 8, none⟩ (.int .u8 ((x ||| 2 ^ (k % 8) : Nat) : Int))).heap[w.heap.size]? = some (.cells (bv (bx V m (k + 1))).toArray 5 (0, 0)) := by
            rw [HT2.out, ← bv_set]
            simp [World.setCell, Array.getElem?_modify, HO.out]
          have HSET := Lib.hid hset
          have B1 : Hid (Below w.heap.size w (wo.setCell ⟨w.heap.size, k / 8, none⟩ (.int .u8 ((x ||| 2 ^ (k % 8) : Nat) : Int)))) := Lib.hid (HB.out.setCell (Nat.le_refl _) _)
          clear hset
          generalize (wo.setCell ⟨w.heap.size, k / 8, none⟩ (.int .u8 ((x ||| 2 ^ (k % 8) : Nat) : Int))) = w5 at *
          go_wp2_with fail
          go_roundw
          case rel => exact ⟨k + 1, by omega, by go_num, HSET.out, B1.out.drew⟩
          case measure => simp [intOf]; omega
    · have hk' : k = n := by omega
      subst hk'
      have hf : BitsP w V (.returned (.slice (some ⟨w.heap.size, 0, none⟩) m m)) wo := by
        have e : bx V m k = bits V := by rw [HM.out, ← hln]; exact bx_full V _ (Nat.le_refl _)
        refine ⟨_, by rw [bits_len, hln, HM.out], by rw [← e]; exact hO, Nat.le_refl _, hb⟩
      have HF := Lib.hid hf
      clear hO hb hf
      go_wp2_with fail
      go_ret
      exact HF.out
end Go.Proofs.Ytdolgpogjnfpkaa
