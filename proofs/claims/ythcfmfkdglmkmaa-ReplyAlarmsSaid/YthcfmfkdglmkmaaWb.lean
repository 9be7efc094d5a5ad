/- The document's Bits. -/
import Derived.Test.YthcfmfkdglmkmaaWa
namespace Go.Proofs.Ythcfmfkdglmkmaa
set_option linter.unusedVariables false
set_option linter.unusedSimpArgs false
open Go.ChangeShapes Go.WideShapes Go.ChangeAt Go.RowKit

set_option maxRecDepth 100000 in
set_option maxHeartbeats 4000000 in
theorem bitsD_any (a : Option Addr) (n c : Nat) (V : List Nat) (w : World) (h : Wds w a n V) (hn : n ≤ 100000) : Calls Try.prog 43 #[.slice a n c] w (BitsP w V) := by
  have H := Lib.hid h
  have hln := h.ln
  obtain ⟨m, hm⟩ : ∃ m, m = (n + 7) / 8 := ⟨_, rfl⟩
  have e1 : ((n : Int) + 7) / 8 = (m : Int) := by omega
  have e1' : ((n : Int) + 7).tdiv 8 = (m : Int) := by rw [Int.tdiv_eq_ediv_of_nonneg (by omega)]; exact e1
  have hmk : (Instr.makeSlice 27 (.int .i64 (((n : Int) + 7) / 8)) (.int .i64 (((n : Int) + 7) / 8))).run Try.prog w = .ok (.slice (some ⟨w.heap.size, 0, none⟩) m m) (w.alloc (.cells (bv (List.replicate m 0)).toArray 5 (0, 0))) := by rw [e1]; exact make_b m (by omega) w
  have h0 : (w.alloc (.cells (bv (List.replicate m 0)).toArray 5 (0, 0))).heap[w.heap.size]? = some (.cells (bv (bx V m 0)).toArray 5 (0, 0)) := by rw [bx_zero]; exact heap_alloc_new w _
  have H0 := Lib.hid h0
  have HM := Lib.hid hm
  clear h h0 hm
  go_enter Try.func43, Try.ntmps43
  clear e1 e1'
  go_wp2_with fail
  clear hmk
  go_loopw [4] (fun iv wr => ∃ k : Nat, k ≤ n ∧ iv = .int .i64 k ∧ wr.heap[w.heap.size]? = some (.cells (bv (bx V m k)).toArray 5 (0, 0)) ∧ Below w.heap.size w wr) (fun iv _ => n - (intOf iv).toNat)
  case atStart => exact ⟨0, Nat.zero_le _, rfl, H0.out, (Below.refl _ _).alloc (Nat.le_refl _) _⟩
  case round =>
    obtain ⟨wo, rfl⟩ : ∃ wo : World, wo = wr := ⟨_, rfl⟩
    obtain ⟨k, hk, rfl, hO, hb⟩ := hrel
    by_cases hkn : k < n
    · obtain ⟨b, off, rfl, hbl, hc⟩ := H.out.pos (by omega)
      have hc0 := (hb.cell (p := ⟨b, off + k, none⟩) hbl).trans (hc k hkn)
      have hv := wgetD_lt H.out.by' k
      have hs := bx_same V m k (by omega)
      have ht := bx_set V m k (by omega) (by have := HM.out; omega)
      generalize V.getD k 0 = v at hc0 hv hs ht
      have d0 : (k : Int) < (n : Int) := by omega
      have HO := Lib.hid hO
      have HB := Lib.hid hb
      have HS := Lib.hid hs
      have HT := Lib.hid ht
      clear hO hb hc hs ht
      by_cases hv0 : v = 0
      · have t1 : ((v : Int) != 0) = false := by simp [hv0]
        go_wp2_with fail
        go_roundw
        case rel => exact ⟨k + 1, by omega, by go_num, by rw [HS.out hv0]; exact HO.out, HB.out⟩
        case measure => simp [intOf]; omega
      · have t1 : ((v : Int) != 0) = true := by simp; omega
        have hj : k / 8 < m := by have := HM.out; omega
        have hx := byteAt_lt (V.take k) (k / 8)
        have hbx := bx_at V m k (k / 8) hj
        have hcell : wo.cell? ⟨w.heap.size, k / 8, none⟩ = some (.int .u8 ((byteAt (V.take k) (k / 8) : Nat) : Int)) := by
          have := bv_get (bx V m k) (k / 8) (by rw [bx_len]; exact hj)
          rw [hbx] at this
          simp [World.cell?, HO.out, this]
        have hfr : wo.frozen? ⟨w.heap.size, k / 8, none⟩ = false := by simp [World.frozen?, HO.out]
        have ht2 := HT.out hv0
        generalize byteAt (V.take k) (k / 8) = x at hcell hx ht2
        have HT2 := Lib.hid ht2
        clear ht2 hbx
        have i1 : (k : Int) / 8 < (m : Int) := by omega
        go_wp2_with fail
        go_region
        all_goals
          rw [or_pow x (k % 8) hx (by omega)]
          have hset : (wo.setCell ⟨w.heap.size, k / 8, none⟩ (.int .u8 ((x ||| 2 ^ (k % 8) : Nat) : Int))).heap[w.heap.size]? = some (.cells (bv (bx V m (k + 1))).toArray 5 (0, 0)) := by
            rw [HT2.out, ← bv_set]
            simp [World.setCell, Array.getElem?_modify, HO.out]
          have HSET := Lib.hid hset
          have B1 : Hid (Below w.heap.size w (wo.setCell ⟨w.heap.size, k / 8, none⟩ (.int .u8 ((x ||| 2 ^ (k % 8) : Nat) : Int)))) := Lib.hid (HB.out.setCell (Nat.le_refl _) _)
          clear hset
          generalize (wo.setCell ⟨w.heap.size, k / 8, none⟩ (.int .u8 ((x ||| 2 ^ (k % 8) : Nat) : Int))) = w5 at *
          go_wp2_with fail
          go_roundw
          case rel => exact ⟨k + 1, by omega, by go_num, HSET.out, B1.out.drew⟩
          case measure => simp [intOf]; omega
    · have hk' : k = n := by omega
      subst hk'
      have hf : BitsP w V (.returned (.slice (some ⟨w.heap.size, 0, none⟩) m m)) wo := by
        have e : bx V m k = bits V := by rw [HM.out, ← hln]; exact bx_full V _ (Nat.le_refl _)
        refine ⟨_, by rw [bits_len, hln, HM.out], by rw [← e]; exact hO, Nat.le_refl _, hb⟩
      have HF := Lib.hid hf
      clear hO hb hf
      go_wp2_with fail
      go_ret
      exact HF.out
end Go.Proofs.Ythcfmfkdglmkmaa
