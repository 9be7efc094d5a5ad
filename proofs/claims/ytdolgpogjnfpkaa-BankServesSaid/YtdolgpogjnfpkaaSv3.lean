/- put. -/
import Derived.Test.YtdolgpogjnfpkaaSv1
import Derived.Test.YtdolgpogjnfpkaaSv2
import Derived.Deep.RegionHeld3
namespace Go.Proofs.Ytdolgpogjnfpkaa
set_option linter.unusedVariables false
open Go.ChangeShapes Go.WideShapes Go.ChangeAt Go.RowKit

def putN (f : Fo) (fc ad q to : Nat) (V : List Nat) : List Nat :=
  [fc] ++ wb [ad] ++ (if 0 < f.q then wb [q] else []) ++ (if f.to = true then wb [to, V.length] else []) ++
  (if f.co = true ∧ f.bi = true then (bits V).length :: bits V else if f.co = true then (wb V).length :: wb V else if f.bi = true ∧ 0 < f.mo then wb [65280 * V.getD 0 0] else wb V)
theorem own_arg {B : Nat} {w : World} {v : Value} {L : List Nat} (h : OwnV B w v L) (hb : ∀ b ∈ L, b < 256) : ∃ a c, v = .slice a L.length c ∧ Bys w a L.length L ∧ (a = none → c = 0) ∧ ∀ b off, a = some ⟨b, off, none⟩ → B ≤ b := by
  rcases h.2 with ⟨hv, h0⟩ | ⟨g, cap, cur, hv, hg, hbk, r⟩
  · have hl : L = [] := List.eq_nil_of_length_eq_zero h0
    subst hl
    exact ⟨none, 0, hv, Bys.nil _ _, fun _ => rfl, fun b off e => by cases e⟩
  · have ho : OwnB B w g cap L.length L := ⟨h.1, .inr ⟨g, cap, cur, rfl, hg, hbk, r⟩⟩
    exact ⟨_, cap, hv, ho.bys hb, (fun e => by cases e), fun b off e => by simp only [Option.some.injEq, Addr.mk.injEq, and_true] at e; omega⟩
theorem OwnV.keep {B : Nat} {w w' : World} {v : Value} {L : List Nat} (h : OwnV B w v L) (hb : Below w.heap.size w w') : OwnV B w' v L := own_keep h hb
theorem OwnV.blk {B : Nat} {w : World} {v : Value} {L : List Nat} (h : OwnV B w v L) (b : Nat) (hb : v.ownBlock = some b) : B ≤ b ∧ b < w.heap.size := World.ownsRow.lt h b hb
def PutFP (w : World) (L : List Nat) (e : Ending) (w' : World) : Prop := ∃ v, e = .returned v ∧ OwnV w.heap.size w' v L ∧ Below w.heap.size w w'
theorem OwnV.mono {B C : Nat} {w : World} {v : Value} {L : List Nat} (h : OwnV B w v L) (hC : C ≤ B) : OwnV C w v L := by
  obtain ⟨hl, q | ⟨g', cap', cur, hv, hg, r⟩⟩ := h
  · exact ⟨hl, .inl q⟩
  · exact ⟨hl, .inr ⟨g', cap', cur, hv, Nat.le_trans hC hg, r⟩⟩

set_option maxRecDepth 100000 in
set_option maxHeartbeats 8000000 in
theorem put_s1a (rd wr : Bool) (fq le mo : Nat) (fc ad q to : Nat) (vs : Option Addr) (vn vc : Nat) (V : List Nat) (w : World) (h : ArgW w vs vn vc V) (hfc : fc < 256) (had : ad < 65536) (hqq : q < 65536) (hto : to < 65536) (hq : 0 < fq) (hv : vn ≤ 2000) (hm : mo = 0) :
    Calls Try.prog 55 #[fv ⟨rd, wr, true, fq, le, mo, false, false⟩, rv ⟨(fc : Int), (ad : Int), (q : Int), vs, vn, vc, V, (to : Int)⟩] w (PutFP w (putN ⟨rd, wr, true, fq, le, mo, false, false⟩ fc ad q to V)) := by
  have hL : putN ⟨rd, wr, true, fq, le, mo, false, false⟩ fc ad q to V = [fc] ++ wb [ad] ++ wb [q] ++ wb V := by
    have hvl := h.row.ln
    unfold putN
    simp [hq, hm]
  rw [hL]
  clear hL
  have dm : mo = 0 → ¬ 0 < mo := by omega
  have dm := dm hm
  clear hm
  simp only [fv, rv]
  have b0 : Below w.heap.size w ((w.alloc (.cells #[.bool rd, .bool wr, .bool true, .int .i64 (fq : Int), .int .i64 (le : Int), .int .i64 (mo : Int), .bool false, .bool false] 81 (0, 0))).alloc (.cells #[.int .i64 (fc : Int), .int .i64 (ad : Int), .int .i64 (q : Int), .slice vs vn vc, .int .i64 (to : Int)] 32 (0, 0))) := ((Below.refl _ _).alloc (Nat.le_refl _) _).alloc (by simp) _
  have hz0 : ((w.alloc (.cells #[.bool rd, .bool wr, .bool true, .int .i64 (fq : Int), .int .i64 (le : Int), .int .i64 (mo : Int), .bool false, .bool false] 81 (0, 0))).alloc (.cells #[.int .i64 (fc : Int), .int .i64 (ad : Int), .int .i64 (q : Int), .slice vs vn vc, .int .i64 (to : Int)] 32 (0, 0))).heap.size = w.heap.size + 2 := by simp
  have k1 : ((w.alloc (.cells #[.bool rd, .bool wr, .bool true, .int .i64 (fq : Int), .int .i64 (le : Int), .int .i64 (mo : Int), .bool false, .bool false] 81 (0, 0))).alloc (.cells #[.int .i64 (fc : Int), .int .i64 (ad : Int), .int .i64 (q : Int), .slice vs vn vc, .int .i64 (to : Int)] 32 (0, 0))).heap[w.heap.size]? = some (.cells #[.bool rd, .bool wr, .bool true, .int .i64 (fq : Int), .int .i64 (le : Int), .int .i64 (mo : Int), .bool false, .bool false] 81 (0, 0)) := (heap_alloc_old _ _ (by simp)).trans (heap_alloc_new _ _)
  have k2 : ((w.alloc (.cells #[.bool rd, .bool wr, .bool true, .int .i64 (fq : Int), .int .i64 (le : Int), .int .i64 (mo : Int), .bool false, .bool false] 81 (0, 0))).alloc (.cells #[.int .i64 (fc : Int), .int .i64 (ad : Int), .int .i64 (q : Int), .slice vs vn vc, .int .i64 (to : Int)] 32 (0, 0))).heap[w.heap.size + 1]? = some (.cells #[.int .i64 (fc : Int), .int .i64 (ad : Int), .int .i64 (q : Int), .slice vs vn vc, .int .i64 (to : Int)] 32 (0, 0)) := by
    have := heap_alloc_new (w.alloc (.cells #[.bool rd, .bool wr, .bool true, .int .i64 (fq : Int), .int .i64 (le : Int), .int .i64 (mo : Int), .bool false, .bool false] 81 (0, 0))) (.cells #[.int .i64 (fc : Int), .int .i64 (ad : Int), .int .i64 (q : Int), .slice vs vn vc, .int .i64 (to : Int)] 32 (0, 0))
    simpa using this
  have hrow := h.row.below b0
  have hlow : ∀ b off, vs = some ⟨b, off, none⟩ → 0 < vn → b < w.heap.size := by
    intro b off e h0
    obtain ⟨b', off', e', hb', _⟩ := h.row.pos h0
    rw [e] at e'; simp only [Option.some.injEq, Addr.mk.injEq, and_true] at e'; omega
  have hvl := h.row.ln
  have kc := fun (w' : World) (hb : Below ((w.alloc (.cells #[.bool rd, .bool wr, .bool true, .int .i64 (fq : Int), .int .i64 (le : Int), .int .i64 (mo : Int), .bool false, .bool false] 81 (0, 0))).alloc (.cells #[.int .i64 (fc : Int), .int .i64 (ad : Int), .int .i64 (q : Int), .slice vs vn vc, .int .i64 (to : Int)] 32 (0, 0))).heap.size ((w.alloc (.cells #[.bool rd, .bool wr, .bool true, .int .i64 (fq : Int), .int .i64 (le : Int), .int .i64 (mo : Int), .bool false, .bool false] 81 (0, 0))).alloc (.cells #[.int .i64 (fc : Int), .int .i64 (ad : Int), .int .i64 (q : Int), .slice vs vn vc, .int .i64 (to : Int)] 32 (0, 0))) w') => And.intro (cells8 ((hb.block w.heap.size (by rw [hz0]; omega)).trans k1)) (cells5 ((hb.block (w.heap.size + 1) (by rw [hz0]; omega)).trans k2))
  simp only [and_assoc] at kc
  have KC := Lib.hid kc
  have HV := Lib.hid (fun (w' : World) (hb : Below ((w.alloc (.cells #[.bool rd, .bool wr, .bool true, .int .i64 (fq : Int), .int .i64 (le : Int), .int .i64 (mo : Int), .bool false, .bool false] 81 (0, 0))).alloc (.cells #[.int .i64 (fc : Int), .int .i64 (ad : Int), .int .i64 (q : Int), .slice vs vn vc, .int .i64 (to : Int)] 32 (0, 0))).heap.size ((w.alloc (.cells #[.bool rd, .bool wr, .bool true, .int .i64 (fq : Int), .int .i64 (le : Int), .int .i64 (mo : Int), .bool false, .bool false] 81 (0, 0))).alloc (.cells #[.int .i64 (fc : Int), .int .i64 (ad : Int), .int .i64 (q : Int), .slice vs vn vc, .int .i64 (to : Int)] 32 (0, 0))) w') => hrow.below hb)
  have HLo := Lib.hid hlow
  have B0 := Lib.hid b0
  have HZ := Lib.hid hz0
  have HVL := Lib.hid hvl
  obtain ⟨B, hB⟩ : ∃ B, B = w.heap.size + 2 := ⟨_, rfl⟩
  have HBB := Lib.hid hB
  clear h b0 hz0 k1 k2 hrow hlow hvl kc hB
  go_enter Try.func55, Try.ntmps55
  go_wp2_with fail
  obtain ⟨W, hW⟩ : ∃ W, W = ((w.alloc (.cells #[.bool rd, .bool wr, .bool true, .int .i64 (fq : Int), .int .i64 (le : Int), .int .i64 (mo : Int), .bool false, .bool false] 81 (0, 0))).alloc (.cells #[.int .i64 (fc : Int), .int .i64 (ad : Int), .int .i64 (q : Int), .slice vs vn vc, .int .i64 (to : Int)] 32 (0, 0))) := ⟨_, rfl⟩
  rw [← hW] at KC HV B0 HZ ⊢
  have hsw : w.heap.size + 1 + 1 = W.heap.size := by rw [HZ.out]
  rw [hsw]
  clear hsw
  have hsz := HZ.out
  have hBW : B = W.heap.size := by rw [HBB.out, hsz]
  have HBW := Lib.hid hBW
  have n1 : (((W.alloc (.cells #[.int .u8 (fc : Int)] 5 (0, 0))).alloc (.cells #[.int .i64 (ad : Int)] 3 (0, 0)))).heap[W.heap.size]? = some (.cells (bv [fc]).toArray 5 (0, 0)) := (heap_alloc_old _ _ (by simp)).trans (heap_alloc_new _ _)
  have n2 : (((W.alloc (.cells #[.int .u8 (fc : Int)] 5 (0, 0))).alloc (.cells #[.int .i64 (ad : Int)] 3 (0, 0)))).heap[W.heap.size + 1]? = some (.cells #[.int .i64 (ad : Int)] 3 (0, 0)) := by
    have := heap_alloc_new (W.alloc (.cells #[.int .u8 (fc : Int)] 5 (0, 0))) (.cells #[.int .i64 (ad : Int)] 3 (0, 0))
    simpa using this
  have hbw0 : Below B W (((W.alloc (.cells #[.int .u8 (fc : Int)] 5 (0, 0))).alloc (.cells #[.int .i64 (ad : Int)] 3 (0, 0)))) := ((Below.refl _ _).alloc (by omega) _).alloc (by simp; omega) _
  have ho0 : OwnV B (((W.alloc (.cells #[.int .u8 (fc : Int)] 5 (0, 0))).alloc (.cells #[.int .i64 (ad : Int)] 3 (0, 0)))) (.slice (some ⟨W.heap.size, 0, none⟩) 1 1) [fc] := own_of_block (by omega) (by unfold maxLen; simp) n1
  refine (words_any B _ [fc] (some ⟨W.heap.size + 1, 0, none⟩) 1 1 [ad] _ (by simp; omega) ho0 (ixs_one ad had n2) (fun b off e _ => by
    simp only [Option.some.injEq, Addr.mk.injEq, and_true] at e
    obtain ⟨rfl, _⟩ := e
    refine ⟨by simp, fun b' hb' => ?_⟩
    simp [Value.ownBlock] at hb'
    omega) (by simp) (by omega)).mono ?_
  rintro e w1 ⟨v1, rfl, o1, b1⟩
  have B1 := Lib.hid (hbw0.trans b1)
  have O1 := Lib.hid o1
  obtain ⟨x0, x1, x2, x3, x4, x5, x6, x7, y0, y1, y2, y3, y4⟩ := KC.out _ (HBW.out ▸ B1.out)
  clear o1 b1 hbw0 n1 n2 ho0 hsz hBW

  go_wp2_with fail
  have s1 := B1.out.size
  have n1 : (w1.alloc (.cells #[.int .i64 (q : Int)] 3 (0, 0))).heap[w1.heap.size]? = some (.cells #[.int .i64 (q : Int)] 3 (0, 0)) := heap_alloc_new _ _
  have a1 : Below B w1 (w1.alloc (.cells #[.int .i64 (q : Int)] 3 (0, 0))) := (Below.refl _ _).alloc (by have := HBW.out; omega) _
  refine (words_any B v1 ([fc] ++ wb [ad]) (some ⟨w1.heap.size, 0, none⟩) 1 1 [q] _ (by have := HBW.out; simp; omega) (O1.out.keep ((Below.refl _ _).alloc (Nat.le_refl _) _)) (ixs_one q hqq n1) (fun b off e _ => by
    simp only [Option.some.injEq, Addr.mk.injEq, and_true] at e
    obtain ⟨rfl, _⟩ := e
    refine ⟨by simp, fun b' hb' => ?_⟩
    have := (O1.out.blk b' hb').2
    omega) (by simp [wb_len]) (by omega)).mono ?_
  rintro e w2 ⟨v2, rfl, o2, b2⟩
  have B2 := Lib.hid (B1.out.trans (a1.trans b2))
  have O2 := Lib.hid o2
  clear o2 b2 n1 a1 x0 x1 x2 x3 x4 x5 x6 x7 y0 y1 y2 y3 y4
  obtain ⟨x0, x1, x2, x3, x4, x5, x6, x7, y0, y1, y2, y3, y4⟩ := KC.out _ (HBW.out ▸ B2.out)

  go_wp2_with fail
  have s2 := B2.out.size
  refine (words16_any B v2 ([fc] ++ wb [ad] ++ wb [q]) vs vn vc V _ (by have := HBW.out; omega) O2.out (HV.out _ (HBW.out ▸ B2.out)) (fun b off e h0 => by
    have h1 := HLo.out b off e h0
    have h2 := HBB.out
    have h3 := HBW.out
    refine ⟨by omega, fun b' hb' => ?_⟩
    have := (O2.out.blk b' hb').1
    omega) (by simp [wb_len]) (by omega)).mono ?_
  rintro e w3 ⟨v3, rfl, o3, b3⟩
  have B3 := Lib.hid (B2.out.trans b3)
  have O3 := Lib.hid o3
  clear o3 b3

  have hf : PutFP w ([fc] ++ wb [ad] ++ wb [q] ++ wb V) (.returned v3) w3 := ⟨v3, rfl, O3.out.mono (by have := HBB.out; omega), B0.out.trans (B3.out.mono (by have := HBB.out; omega))⟩
  have HF := Lib.hid hf
  clear hf
  go_wp2_with fail
  go_ret
  exact HF.out

set_option maxRecDepth 100000 in
set_option maxHeartbeats 8000000 in
theorem put_s1b (rd wr : Bool) (fq le mo : Nat) (fc ad q to : Nat) (vs : Option Addr) (vn vc : Nat) (V : List Nat) (w : World) (h : ArgW w vs vn vc V) (hfc : fc < 256) (had : ad < 65536) (hqq : q < 65536) (hto : to < 65536) (hq : 0 < fq) (hv : vn ≤ 2000) (hm : True) :
    Calls Try.prog 55 #[fv ⟨rd, wr, false, fq, le, mo, false, false⟩, rv ⟨(fc : Int), (ad : Int), (q : Int), vs, vn, vc, V, (to : Int)⟩] w (PutFP w (putN ⟨rd, wr, false, fq, le, mo, false, false⟩ fc ad q to V)) := by
  have hL : putN ⟨rd, wr, false, fq, le, mo, false, false⟩ fc ad q to V = [fc] ++ wb [ad] ++ wb [q] ++ wb V := by
    have hvl := h.row.ln
    unfold putN
    simp [hq]
  rw [hL]
  clear hL
  simp only [fv, rv]
  have b0 : Below w.heap.size w ((w.alloc (.cells #[.bool rd, .bool wr, .bool false, .int .i64 (fq : Int), .int .i64 (le : Int), .int .i64 (mo : Int), .bool false, .bool false] 81 (0, 0))).alloc (.cells #[.int .i64 (fc : Int), .int .i64 (ad : Int), .int .i64 (q : Int), .slice vs vn vc, .int .i64 (to : Int)] 32 (0, 0))) := ((Below.refl _ _).alloc (Nat.le_refl _) _).alloc (by simp) _
  have hz0 : ((w.alloc (.cells #[.bool rd, .bool wr, .bool false, .int .i64 (fq : Int), .int .i64 (le : Int), .int .i64 (mo : Int), .bool false, .bool false] 81 (0, 0))).alloc (.cells #[.int .i64 (fc : Int), .int .i64 (ad : Int), .int .i64 (q : Int), .slice vs vn vc, .int .i64 (to : Int)] 32 (0, 0))).heap.size = w.heap.size + 2 := by simp
  have k1 : ((w.alloc (.cells #[.bool rd, .bool wr, .bool false, .int .i64 (fq : Int), .int .i64 (le : Int), .int .i64 (mo : Int), .bool false, .bool false] 81 (0, 0))).alloc (.cells #[.int .i64 (fc : Int), .int .i64 (ad : Int), .int .i64 (q : Int), .slice vs vn vc, .int .i64 (to : Int)] 32 (0, 0))).heap[w.heap.size]? = some (.cells #[.bool rd, .bool wr, .bool false, .int .i64 (fq : Int), .int .i64 (le : Int), .int .i64 (mo : Int), .bool false, .bool false] 81 (0, 0)) := (heap_alloc_old _ _ (by simp)).trans (heap_alloc_new _ _)
  have k2 : ((w.alloc (.cells #[.bool rd, .bool wr, .bool false, .int .i64 (fq : Int), .int .i64 (le : Int), .int .i64 (mo : Int), .bool false, .bool false] 81 (0, 0))).alloc (.cells #[.int .i64 (fc : Int), .int .i64 (ad : Int), .int .i64 (q : Int), .slice vs vn vc, .int .i64 (to : Int)] 32 (0, 0))).heap[w.heap.size + 1]? = some (.cells #[.int .i64 (fc : Int), .int .i64 (ad : Int), .int .i64 (q : Int), .slice vs vn vc, .int .i64 (to : Int)] 32 (0, 0)) := by
    have := heap_alloc_new (w.alloc (.cells #[.bool rd, .bool wr, .bool false, .int .i64 (fq : Int), .int .i64 (le : Int), .int .i64 (mo : Int), .bool false, .bool false] 81 (0, 0))) (.cells #[.int .i64 (fc : Int), .int .i64 (ad : Int), .int .i64 (q : Int), .slice vs vn vc, .int .i64 (to : Int)] 32 (0, 0))
    simpa using this
  have hrow := h.row.below b0
  have hlow : ∀ b off, vs = some ⟨b, off, none⟩ → 0 < vn → b < w.heap.size := by
    intro b off e h0
    obtain ⟨b', off', e', hb', _⟩ := h.row.pos h0
    rw [e] at e'; simp only [Option.some.injEq, Addr.mk.injEq, and_true] at e'; omega
  have hvl := h.row.ln
  have kc := fun (w' : World) (hb : Below ((w.alloc (.cells #[.bool rd, .bool wr, .bool false, .int .i64 (fq : Int), .int .i64 (le : Int), .int .i64 (mo : Int), .bool false, .bool false] 81 (0, 0))).alloc (.cells #[.int .i64 (fc : Int), .int .i64 (ad : Int), .int .i64 (q : Int), .slice vs vn vc, .int .i64 (to : Int)] 32 (0, 0))).heap.size ((w.alloc (.cells #[.bool rd, .bool wr, .bool false, .int .i64 (fq : Int), .int .i64 (le : Int), .int .i64 (mo : Int), .bool false, .bool false] 81 (0, 0))).alloc (.cells #[.int .i64 (fc : Int), .int .i64 (ad : Int), .int .i64 (q : Int), .slice vs vn vc, .int .i64 (to : Int)] 32 (0, 0))) w') => And.intro (cells8 ((hb.block w.heap.size (by rw [hz0]; omega)).trans k1)) (cells5 ((hb.block (w.heap.size + 1) (by rw [hz0]; omega)).trans k2))
  simp only [and_assoc] at kc
  have KC := Lib.hid kc
  have HV := Lib.hid (fun (w' : World) (hb : Below ((w.alloc (.cells #[.bool rd, .bool wr, .bool false, .int .i64 (fq : Int), .int .i64 (le : Int), .int .i64 (mo : Int), .bool false, .bool false] 81 (0, 0))).alloc (.cells #[.int .i64 (fc : Int), .int .i64 (ad : Int), .int .i64 (q : Int), .slice vs vn vc, .int .i64 (to : Int)] 32 (0, 0))).heap.size ((w.alloc (.cells #[.bool rd, .bool wr, .bool false, .int .i64 (fq : Int), .int .i64 (le : Int), .int .i64 (mo : Int), .bool false, .bool false] 81 (0, 0))).alloc (.cells #[.int .i64 (fc : Int), .int .i64 (ad : Int), .int .i64 (q : Int), .slice vs vn vc, .int .i64 (to : Int)] 32 (0, 0))) w') => hrow.below hb)
  have HLo := Lib.hid hlow
  have B0 := Lib.hid b0
  have HZ := Lib.hid hz0
  have HVL := Lib.hid hvl
  obtain ⟨B, hB⟩ : ∃ B, B = w.heap.size + 2 := ⟨_, rfl⟩
  have HBB := Lib.hid hB
  clear h b0 hz0 k1 k2 hrow hlow hvl kc hB
  go_enter Try.func55, Try.ntmps55
  go_wp2_with fail
  obtain ⟨W, hW⟩ : ∃ W, W = ((w.alloc (.cells #[.bool rd, .bool wr, .bool false, .int .i64 (fq : Int), .int .i64 (le : Int), .int .i64 (mo : Int), .bool false, .bool false] 81 (0, 0))).alloc (.cells #[.int .i64 (fc : Int), .int .i64 (ad : Int), .int .i64 (q : Int), .slice vs vn vc, .int .i64 (to : Int)] 32 (0, 0))) := ⟨_, rfl⟩
  rw [← hW] at KC HV B0 HZ ⊢
  have hsw : w.heap.size + 1 + 1 = W.heap.size := by rw [HZ.out]
  rw [hsw]
  clear hsw
  have hsz := HZ.out
  have hBW : B = W.heap.size := by rw [HBB.out, hsz]
  have HBW := Lib.hid hBW
  have n1 : (((W.alloc (.cells #[.int .u8 (fc : Int)] 5 (0, 0))).alloc (.cells #[.int .i64 (ad : Int)] 3 (0, 0)))).heap[W.heap.size]? = some (.cells (bv [fc]).toArray 5 (0, 0)) := (heap_alloc_old _ _ (by simp)).trans (heap_alloc_new _ _)
  have n2 : (((W.alloc (.cells #[.int .u8 (fc : Int)] 5 (0, 0))).alloc (.cells #[.int .i64 (ad : Int)] 3 (0, 0)))).heap[W.heap.size + 1]? = some (.cells #[.int .i64 (ad : Int)] 3 (0, 0)) := by
    have := heap_alloc_new (W.alloc (.cells #[.int .u8 (fc : Int)] 5 (0, 0))) (.cells #[.int .i64 (ad : Int)] 3 (0, 0))
    simpa using this
  have hbw0 : Below B W (((W.alloc (.cells #[.int .u8 (fc : Int)] 5 (0, 0))).alloc (.cells #[.int .i64 (ad : Int)] 3 (0, 0)))) := ((Below.refl _ _).alloc (by omega) _).alloc (by simp; omega) _
  have ho0 : OwnV B (((W.alloc (.cells #[.int .u8 (fc : Int)] 5 (0, 0))).alloc (.cells #[.int .i64 (ad : Int)] 3 (0, 0)))) (.slice (some ⟨W.heap.size, 0, none⟩) 1 1) [fc] := own_of_block (by omega) (by unfold maxLen; simp) n1
  refine (words_any B _ [fc] (some ⟨W.heap.size + 1, 0, none⟩) 1 1 [ad] _ (by simp; omega) ho0 (ixs_one ad had n2) (fun b off e _ => by
    simp only [Option.some.injEq, Addr.mk.injEq, and_true] at e
    obtain ⟨rfl, _⟩ := e
    refine ⟨by simp, fun b' hb' => ?_⟩
    simp [Value.ownBlock] at hb'
    omega) (by simp) (by omega)).mono ?_
  rintro e w1 ⟨v1, rfl, o1, b1⟩
  have B1 := Lib.hid (hbw0.trans b1)
  have O1 := Lib.hid o1
  obtain ⟨x0, x1, x2, x3, x4, x5, x6, x7, y0, y1, y2, y3, y4⟩ := KC.out _ (HBW.out ▸ B1.out)
  clear o1 b1 hbw0 n1 n2 ho0 hsz hBW

  go_wp2_with fail
  have s1 := B1.out.size
  have n1 : (w1.alloc (.cells #[.int .i64 (q : Int)] 3 (0, 0))).heap[w1.heap.size]? = some (.cells #[.int .i64 (q : Int)] 3 (0, 0)) := heap_alloc_new _ _
  have a1 : Below B w1 (w1.alloc (.cells #[.int .i64 (q : Int)] 3 (0, 0))) := (Below.refl _ _).alloc (by have := HBW.out; omega) _
  refine (words_any B v1 ([fc] ++ wb [ad]) (some ⟨w1.heap.size, 0, none⟩) 1 1 [q] _ (by have := HBW.out; simp; omega) (O1.out.keep ((Below.refl _ _).alloc (Nat.le_refl _) _)) (ixs_one q hqq n1) (fun b off e _ => by
    simp only [Option.some.injEq, Addr.mk.injEq, and_true] at e
    obtain ⟨rfl, _⟩ := e
    refine ⟨by simp, fun b' hb' => ?_⟩
    have := (O1.out.blk b' hb').2
    omega) (by simp [wb_len]) (by omega)).mono ?_
  rintro e w2 ⟨v2, rfl, o2, b2⟩
  have B2 := Lib.hid (B1.out.trans (a1.trans b2))
  have O2 := Lib.hid o2
  clear o2 b2 n1 a1 x0 x1 x2 x3 x4 x5 x6 x7 y0 y1 y2 y3 y4
  obtain ⟨x0, x1, x2, x3, x4, x5, x6, x7, y0, y1, y2, y3, y4⟩ := KC.out _ (HBW.out ▸ B2.out)

  go_wp2_with fail
  have s2 := B2.out.size
  refine (words16_any B v2 ([fc] ++ wb [ad] ++ wb [q]) vs vn vc V _ (by have := HBW.out; omega) O2.out (HV.out _ (HBW.out ▸ B2.out)) (fun b off e h0 => by
    have h1 := HLo.out b off e h0
    have h2 := HBB.out
    have h3 := HBW.out
    refine ⟨by omega, fun b' hb' => ?_⟩
    have := (O2.out.blk b' hb').1
    omega) (by simp [wb_len]) (by omega)).mono ?_
  rintro e w3 ⟨v3, rfl, o3, b3⟩
  have B3 := Lib.hid (B2.out.trans b3)
  have O3 := Lib.hid o3
  clear o3 b3

  have hf : PutFP w ([fc] ++ wb [ad] ++ wb [q] ++ wb V) (.returned v3) w3 := ⟨v3, rfl, O3.out.mono (by have := HBB.out; omega), B0.out.trans (B3.out.mono (by have := HBB.out; omega))⟩
  have HF := Lib.hid hf
  clear hf
  go_wp2_with fail
  go_ret
  exact HF.out

set_option maxRecDepth 100000 in
set_option maxHeartbeats 8000000 in
theorem put_s2 (rd wr : Bool) (fq le mo : Nat) (fc ad q to : Nat) (vs : Option Addr) (vn vc : Nat) (V : List Nat) (w : World) (h : ArgW w vs vn vc V) (hfc : fc < 256) (had : ad < 65536) (hqq : q < 65536) (hto : to < 65536) (hq : fq = 0) (hv : vn = 1) (hv1 : V.getD 0 0 ≤ 1) (hm : 0 < mo) :
    Calls Try.prog 55 #[fv ⟨rd, wr, true, fq, le, mo, false, false⟩, rv ⟨(fc : Int), (ad : Int), (q : Int), vs, vn, vc, V, (to : Int)⟩] w (PutFP w (putN ⟨rd, wr, true, fq, le, mo, false, false⟩ fc ad q to V)) := by
  have hL : putN ⟨rd, wr, true, fq, le, mo, false, false⟩ fc ad q to V = [fc] ++ wb [ad] ++ wb [65280 * V.getD 0 0] := by
    have hvl := h.row.ln
    unfold putN
    simp [hq, hm]
  rw [hL]
  clear hL
  have dq : fq = 0 → ¬ 0 < fq := by omega
  have dq := dq hq
  clear hq
  have HVN := Lib.hid hv
  clear hv
  simp only [fv, rv]
  have b0 : Below w.heap.size w ((w.alloc (.cells #[.bool rd, .bool wr, .bool true, .int .i64 (fq : Int), .int .i64 (le : Int), .int .i64 (mo : Int), .bool false, .bool false] 81 (0, 0))).alloc (.cells #[.int .i64 (fc : Int), .int .i64 (ad : Int), .int .i64 (q : Int), .slice vs vn vc, .int .i64 (to : Int)] 32 (0, 0))) := ((Below.refl _ _).alloc (Nat.le_refl _) _).alloc (by simp) _
  have hz0 : ((w.alloc (.cells #[.bool rd, .bool wr, .bool true, .int .i64 (fq : Int), .int .i64 (le : Int), .int .i64 (mo : Int), .bool false, .bool false] 81 (0, 0))).alloc (.cells #[.int .i64 (fc : Int), .int .i64 (ad : Int), .int .i64 (q : Int), .slice vs vn vc, .int .i64 (to : Int)] 32 (0, 0))).heap.size = w.heap.size + 2 := by simp
  have k1 : ((w.alloc (.cells #[.bool rd, .bool wr, .bool true, .int .i64 (fq : Int), .int .i64 (le : Int), .int .i64 (mo : Int), .bool false, .bool false] 81 (0, 0))).alloc (.cells #[.int .i64 (fc : Int), .int .i64 (ad : Int), .int .i64 (q : Int), .slice vs vn vc, .int .i64 (to : Int)] 32 (0, 0))).heap[w.heap.size]? = some (.cells #[.bool rd, .bool wr, .bool true, .int .i64 (fq : Int), .int .i64 (le : Int), .int .i64 (mo : Int), .bool false, .bool false] 81 (0, 0)) := (heap_alloc_old _ _ (by simp)).trans (heap_alloc_new _ _)
  have k2 : ((w.alloc (.cells #[.bool rd, .bool wr, .bool true, .int .i64 (fq : Int), .int .i64 (le : Int), .int .i64 (mo : Int), .bool false, .bool false] 81 (0, 0))).alloc (.cells #[.int .i64 (fc : Int), .int .i64 (ad : Int), .int .i64 (q : Int), .slice vs vn vc, .int .i64 (to : Int)] 32 (0, 0))).heap[w.heap.size + 1]? = some (.cells #[.int .i64 (fc : Int), .int .i64 (ad : Int), .int .i64 (q : Int), .slice vs vn vc, .int .i64 (to : Int)] 32 (0, 0)) := by
    have := heap_alloc_new (w.alloc (.cells #[.bool rd, .bool wr, .bool true, .int .i64 (fq : Int), .int .i64 (le : Int), .int .i64 (mo : Int), .bool false, .bool false] 81 (0, 0))) (.cells #[.int .i64 (fc : Int), .int .i64 (ad : Int), .int .i64 (q : Int), .slice vs vn vc, .int .i64 (to : Int)] 32 (0, 0))
    simpa using this
  have hrow := h.row.below b0
  have hlow : ∀ b off, vs = some ⟨b, off, none⟩ → 0 < vn → b < w.heap.size := by
    intro b off e h0
    obtain ⟨b', off', e', hb', _⟩ := h.row.pos h0
    rw [e] at e'; simp only [Option.some.injEq, Addr.mk.injEq, and_true] at e'; omega
  have hvl := h.row.ln
  have kc := fun (w' : World) (hb : Below ((w.alloc (.cells #[.bool rd, .bool wr, .bool true, .int .i64 (fq : Int), .int .i64 (le : Int), .int .i64 (mo : Int), .bool false, .bool false] 81 (0, 0))).alloc (.cells #[.int .i64 (fc : Int), .int .i64 (ad : Int), .int .i64 (q : Int), .slice vs vn vc, .int .i64 (to : Int)] 32 (0, 0))).heap.size ((w.alloc (.cells #[.bool rd, .bool wr, .bool true, .int .i64 (fq : Int), .int .i64 (le : Int), .int .i64 (mo : Int), .bool false, .bool false] 81 (0, 0))).alloc (.cells #[.int .i64 (fc : Int), .int .i64 (ad : Int), .int .i64 (q : Int), .slice vs vn vc, .int .i64 (to : Int)] 32 (0, 0))) w') => And.intro (cells8 ((hb.block w.heap.size (by rw [hz0]; omega)).trans k1)) (cells5 ((hb.block (w.heap.size + 1) (by rw [hz0]; omega)).trans k2))
  simp only [and_assoc] at kc
  have KC := Lib.hid kc
  have HV := Lib.hid (fun (w' : World) (hb : Below ((w.alloc (.cells #[.bool rd, .bool wr, .bool true, .int .i64 (fq : Int), .int .i64 (le : Int), .int .i64 (mo : Int), .bool false, .bool false] 81 (0, 0))).alloc (.cells #[.int .i64 (fc : Int), .int .i64 (ad : Int), .int .i64 (q : Int), .slice vs vn vc, .int .i64 (to : Int)] 32 (0, 0))).heap.size ((w.alloc (.cells #[.bool rd, .bool wr, .bool true, .int .i64 (fq : Int), .int .i64 (le : Int), .int .i64 (mo : Int), .bool false, .bool false] 81 (0, 0))).alloc (.cells #[.int .i64 (fc : Int), .int .i64 (ad : Int), .int .i64 (q : Int), .slice vs vn vc, .int .i64 (to : Int)] 32 (0, 0))) w') => hrow.below hb)
  have HLo := Lib.hid hlow
  have B0 := Lib.hid b0
  have HZ := Lib.hid hz0
  have HVL := Lib.hid hvl
  obtain ⟨B, hB⟩ : ∃ B, B = w.heap.size + 2 := ⟨_, rfl⟩
  have HBB := Lib.hid hB
  clear h b0 hz0 k1 k2 hrow hlow hvl kc hB
  go_enter Try.func55, Try.ntmps55
  go_wp2_with fail
  obtain ⟨W, hW⟩ : ∃ W, W = ((w.alloc (.cells #[.bool rd, .bool wr, .bool true, .int .i64 (fq : Int), .int .i64 (le : Int), .int .i64 (mo : Int), .bool false, .bool false] 81 (0, 0))).alloc (.cells #[.int .i64 (fc : Int), .int .i64 (ad : Int), .int .i64 (q : Int), .slice vs vn vc, .int .i64 (to : Int)] 32 (0, 0))) := ⟨_, rfl⟩
  rw [← hW] at KC HV B0 HZ ⊢
  have hsw : w.heap.size + 1 + 1 = W.heap.size := by rw [HZ.out]
  rw [hsw]
  clear hsw
  have hsz := HZ.out
  have hBW : B = W.heap.size := by rw [HBB.out, hsz]
  have HBW := Lib.hid hBW
  have n1 : (((W.alloc (.cells #[.int .u8 (fc : Int)] 5 (0, 0))).alloc (.cells #[.int .i64 (ad : Int)] 3 (0, 0)))).heap[W.heap.size]? = some (.cells (bv [fc]).toArray 5 (0, 0)) := (heap_alloc_old _ _ (by simp)).trans (heap_alloc_new _ _)
  have n2 : (((W.alloc (.cells #[.int .u8 (fc : Int)] 5 (0, 0))).alloc (.cells #[.int .i64 (ad : Int)] 3 (0, 0)))).heap[W.heap.size + 1]? = some (.cells #[.int .i64 (ad : Int)] 3 (0, 0)) := by
    have := heap_alloc_new (W.alloc (.cells #[.int .u8 (fc : Int)] 5 (0, 0))) (.cells #[.int .i64 (ad : Int)] 3 (0, 0))
    simpa using this
  have hbw0 : Below B W (((W.alloc (.cells #[.int .u8 (fc : Int)] 5 (0, 0))).alloc (.cells #[.int .i64 (ad : Int)] 3 (0, 0)))) := ((Below.refl _ _).alloc (by omega) _).alloc (by simp; omega) _
  have ho0 : OwnV B (((W.alloc (.cells #[.int .u8 (fc : Int)] 5 (0, 0))).alloc (.cells #[.int .i64 (ad : Int)] 3 (0, 0)))) (.slice (some ⟨W.heap.size, 0, none⟩) 1 1) [fc] := own_of_block (by omega) (by unfold maxLen; simp) n1
  refine (words_any B _ [fc] (some ⟨W.heap.size + 1, 0, none⟩) 1 1 [ad] _ (by simp; omega) ho0 (ixs_one ad had n2) (fun b off e _ => by
    simp only [Option.some.injEq, Addr.mk.injEq, and_true] at e
    obtain ⟨rfl, _⟩ := e
    refine ⟨by simp, fun b' hb' => ?_⟩
    simp [Value.ownBlock] at hb'
    omega) (by simp) (by omega)).mono ?_
  rintro e w1 ⟨v1, rfl, o1, b1⟩
  have B1 := Lib.hid (hbw0.trans b1)
  have O1 := Lib.hid o1
  obtain ⟨x0, x1, x2, x3, x4, x5, x6, x7, y0, y1, y2, y3, y4⟩ := KC.out _ (HBW.out ▸ B1.out)
  clear o1 b1 hbw0 n1 n2 ho0 hsz hBW

  obtain ⟨b, off, rfl, hbl, hc⟩ := (HV.out _ (HBW.out ▸ B1.out)).pos (by have := HVN.out; omega)
  have c0 : w1.cell? ⟨b, off, none⟩ = some (.int .u16 ((V.getD 0 0 : Nat) : Int)) := hc 0 (by have := HVN.out; omega)
  have hpos : 0 < vn := by have := HVN.out; omega
  obtain ⟨u, hu0⟩ : ∃ u, u = V.getD 0 0 := ⟨_, rfl⟩
  rw [← hu0] at c0 hv1
  have HTL := Lib.hid hu0
  clear hu0
  have hu : u = 0 ∨ u = 1 := by omega
  have hmul : (65280 : Int) * (u : Int) = ((65280 * u : Nat) : Int) := by omega
  have HMU := Lib.hid hmul
  have HU := Lib.hid hv1
  clear hc hu hmul
  go_wp2_with fail
  rw [HMU.out]
  have s1 := B1.out.size
  have n1 : (w1.alloc (.cells #[.int .i64 ((65280 * u : Nat) : Int)] 3 (0, 0))).heap[w1.heap.size]? = some (.cells #[.int .i64 ((65280 * u : Nat) : Int)] 3 (0, 0)) := heap_alloc_new _ _
  have a1 : Below B w1 (w1.alloc (.cells #[.int .i64 ((65280 * u : Nat) : Int)] 3 (0, 0))) := (Below.refl _ _).alloc (by have := HBW.out; omega) _
  refine (words_any B v1 ([fc] ++ wb [ad]) (some ⟨w1.heap.size, 0, none⟩) 1 1 [65280 * u] _ (by have := HBW.out; simp; omega) (O1.out.keep ((Below.refl _ _).alloc (Nat.le_refl _) _)) (ixs_one _ (by have := HU.out; omega) n1) (fun b off e _ => by
    simp only [Option.some.injEq, Addr.mk.injEq, and_true] at e
    obtain ⟨rfl, _⟩ := e
    refine ⟨by simp, fun b' hb' => ?_⟩
    have := (O1.out.blk b' hb').2
    omega) (by simp [wb_len]) (by omega)).mono ?_
  rintro e w2 ⟨v2, rfl, o2, b2⟩
  have B2 := Lib.hid (B1.out.trans (a1.trans b2))
  have O2 := Lib.hid o2
  clear o2 b2 n1 a1

  have hf : PutFP w ([fc] ++ wb [ad] ++ wb [65280 * u]) (.returned v2) w2 := ⟨v2, rfl, O2.out.mono (by have := HBB.out; omega), B0.out.trans (B2.out.mono (by have := HBB.out; omega))⟩
  rw [HTL.out] at hf
  have HF := Lib.hid hf
  clear hf
  go_wp2_with fail
  go_ret
  exact HF.out

set_option maxRecDepth 100000 in
set_option maxHeartbeats 8000000 in
theorem put_s3 (rd wr : Bool) (fq le mo : Nat) (fc ad q to : Nat) (vs : Option Addr) (vn vc : Nat) (V : List Nat) (w : World) (h : ArgW w vs vn vc V) (hfc : fc < 256) (had : ad < 65536) (hqq : q < 65536) (hto : to < 65536) (hq : fq = 0) (hv : vn ≤ 2000) (hm : True) :
    Calls Try.prog 55 #[fv ⟨rd, wr, false, fq, le, mo, false, false⟩, rv ⟨(fc : Int), (ad : Int), (q : Int), vs, vn, vc, V, (to : Int)⟩] w (PutFP w (putN ⟨rd, wr, false, fq, le, mo, false, false⟩ fc ad q to V)) := by
  have hL : putN ⟨rd, wr, false, fq, le, mo, false, false⟩ fc ad q to V = [fc] ++ wb [ad] ++ wb V := by
    have hvl := h.row.ln
    unfold putN
    simp [hq]
  rw [hL]
  clear hL
  have dq : fq = 0 → ¬ 0 < fq := by omega
  have dq := dq hq
  clear hq
  simp only [fv, rv]
  have b0 : Below w.heap.size w ((w.alloc (.cells #[.bool rd, .bool wr, .bool false, .int .i64 (fq : Int), .int .i64 (le : Int), .int .i64 (mo : Int), .bool false, .bool false] 81 (0, 0))).alloc (.cells #[.int .i64 (fc : Int), .int .i64 (ad : Int), .int .i64 (q : Int), .slice vs vn vc, .int .i64 (to : Int)] 32 (0, 0))) := ((Below.refl _ _).alloc (Nat.le_refl _) _).alloc (by simp) _
  have hz0 : ((w.alloc (.cells #[.bool rd, .bool wr, .bool false, .int .i64 (fq : Int), .int .i64 (le : Int), .int .i64 (mo : Int), .bool false, .bool false] 81 (0, 0))).alloc (.cells #[.int .i64 (fc : Int), .int .i64 (ad : Int), .int .i64 (q : Int), .slice vs vn vc, .int .i64 (to : Int)] 32 (0, 0))).heap.size = w.heap.size + 2 := by simp
  have k1 : ((w.alloc (.cells #[.bool rd, .bool wr, .bool false, .int .i64 (fq : Int), .int .i64 (le : Int), .int .i64 (mo : Int), .bool false, .bool false] 81 (0, 0))).alloc (.cells #[.int .i64 (fc : Int), .int .i64 (ad : Int), .int .i64 (q : Int), .slice vs vn vc, .int .i64 (to : Int)] 32 (0, 0))).heap[w.heap.size]? = some (.cells #[.bool rd, .bool wr, .bool false, .int .i64 (fq : Int), .int .i64 (le : Int), .int .i64 (mo : Int), .bool false, .bool false] 81 (0, 0)) := (heap_alloc_old _ _ (by simp)).trans (heap_alloc_new _ _)
  have k2 : ((w.alloc (.cells #[.bool rd, .bool wr, .bool false, .int .i64 (fq : Int), .int .i64 (le : Int), .int .i64 (mo : Int), .bool false, .bool false] 81 (0, 0))).alloc (.cells #[.int .i64 (fc : Int), .int .i64 (ad : Int), .int .i64 (q : Int), .slice vs vn vc, .int .i64 (to : Int)] 32 (0, 0))).heap[w.heap.size + 1]? = some (.cells #[.int .i64 (fc : Int), .int .i64 (ad : Int), .int .i64 (q : Int), .slice vs vn vc, .int .i64 (to : Int)] 32 (0, 0)) := by
    have := heap_alloc_new (w.alloc (.cells #[.bool rd, .bool wr, .bool false, .int .i64 (fq : Int), .int .i64 (le : Int), .int .i64 (mo : Int), .bool false, .bool false] 81 (0, 0))) (.cells #[.int .i64 (fc : Int), .int .i64 (ad : Int), .int .i64 (q : Int), .slice vs vn vc, .int .i64 (to : Int)] 32 (0, 0))
    simpa using this
  have hrow := h.row.below b0
  have hlow : ∀ b off, vs = some ⟨b, off, none⟩ → 0 < vn → b < w.heap.size := by
    intro b off e h0
    obtain ⟨b', off', e', hb', _⟩ := h.row.pos h0
    rw [e] at e'; simp only [Option.some.injEq, Addr.mk.injEq, and_true] at e'; omega
  have hvl := h.row.ln
  have kc := fun (w' : World) (hb : Below ((w.alloc (.cells #[.bool rd, .bool wr, .bool false, .int .i64 (fq : Int), .int .i64 (le : Int), .int .i64 (mo : Int), .bool false, .bool false] 81 (0, 0))).alloc (.cells #[.int .i64 (fc : Int), .int .i64 (ad : Int), .int .i64 (q : Int), .slice vs vn vc, .int .i64 (to : Int)] 32 (0, 0))).heap.size ((w.alloc (.cells #[.bool rd, .bool wr, .bool false, .int .i64 (fq : Int), .int .i64 (le : Int), .int .i64 (mo : Int), .bool false, .bool false] 81 (0, 0))).alloc (.cells #[.int .i64 (fc : Int), .int .i64 (ad : Int), .int .i64 (q : Int), .slice vs vn vc, .int .i64 (to : Int)] 32 (0, 0))) w') => And.intro (cells8 ((hb.block w.heap.size (by rw [hz0]; omega)).trans k1)) (cells5 ((hb.block (w.heap.size + 1) (by rw [hz0]; omega)).trans k2))
  simp only [and_assoc] at kc
  have KC := Lib.hid kc
  have HV := Lib.hid (fun (w' : World) (hb : Below ((w.alloc (.cells #[.bool rd, .bool wr, .bool false, .int .i64 (fq : Int), .int .i64 (le : Int), .int .i64 (mo : Int), .bool false, .bool false] 81 (0, 0))).alloc (.cells #[.int .i64 (fc : Int), .int .i64 (ad : Int), .int .i64 (q : Int), .slice vs vn vc, .int .i64 (to : Int)] 32 (0, 0))).heap.size ((w.alloc (.cells #[.bool rd, .bool wr, .bool false, .int .i64 (fq : Int), .int .i64 (le : Int), .int .i64 (mo : Int), .bool false, .bool false] 81 (0, 0))).alloc (.cells #[.int .i64 (fc : Int), .int .i64 (ad : Int), .int .i64 (q : Int), .slice vs vn vc, .int .i64 (to : Int)] 32 (0, 0))) w') => hrow.below hb)
  have HLo := Lib.hid hlow
  have B0 := Lib.hid b0
  have HZ := Lib.hid hz0
  have HVL := Lib.hid hvl
  obtain ⟨B, hB⟩ : ∃ B, B = w.heap.size + 2 := ⟨_, rfl⟩
  have HBB := Lib.hid hB
  clear h b0 hz0 k1 k2 hrow hlow hvl kc hB
  go_enter Try.func55, Try.ntmps55
  go_wp2_with fail
  obtain ⟨W, hW⟩ : ∃ W, W = ((w.alloc (.cells #[.bool rd, .bool wr, .bool false, .int .i64 (fq : Int), .int .i64 (le : Int), .int .i64 (mo : Int), .bool false, .bool false] 81 (0, 0))).alloc (.cells #[.int .i64 (fc : Int), .int .i64 (ad : Int), .int .i64 (q : Int), .slice vs vn vc, .int .i64 (to : Int)] 32 (0, 0))) := ⟨_, rfl⟩
  rw [← hW] at KC HV B0 HZ ⊢
  have hsw : w.heap.size + 1 + 1 = W.heap.size := by rw [HZ.out]
  rw [hsw]
  clear hsw
  have hsz := HZ.out
  have hBW : B = W.heap.size := by rw [HBB.out, hsz]
  have HBW := Lib.hid hBW
  have n1 : (((W.alloc (.cells #[.int .u8 (fc : Int)] 5 (0, 0))).alloc (.cells #[.int .i64 (ad : Int)] 3 (0, 0)))).heap[W.heap.size]? = some (.cells (bv [fc]).toArray 5 (0, 0)) := (heap_alloc_old _ _ (by simp)).trans (heap_alloc_new _ _)
  have n2 : (((W.alloc (.cells #[.int .u8 (fc : Int)] 5 (0, 0))).alloc (.cells #[.int .i64 (ad : Int)] 3 (0, 0)))).heap[W.heap.size + 1]? = some (.cells #[.int .i64 (ad : Int)] 3 (0, 0)) := by
    have := heap_alloc_new (W.alloc (.cells #[.int .u8 (fc : Int)] 5 (0, 0))) (.cells #[.int .i64 (ad : Int)] 3 (0, 0))
    simpa using this
  have hbw0 : Below B W (((W.alloc (.cells #[.int .u8 (fc : Int)] 5 (0, 0))).alloc (.cells #[.int .i64 (ad : Int)] 3 (0, 0)))) := ((Below.refl _ _).alloc (by omega) _).alloc (by simp; omega) _
  have ho0 : OwnV B (((W.alloc (.cells #[.int .u8 (fc : Int)] 5 (0, 0))).alloc (.cells #[.int .i64 (ad : Int)] 3 (0, 0)))) (.slice (some ⟨W.heap.size, 0, none⟩) 1 1) [fc] := own_of_block (by omega) (by unfold maxLen; simp) n1
  refine (words_any B _ [fc] (some ⟨W.heap.size + 1, 0, none⟩) 1 1 [ad] _ (by simp; omega) ho0 (ixs_one ad had n2) (fun b off e _ => by
    simp only [Option.some.injEq, Addr.mk.injEq, and_true] at e
    obtain ⟨rfl, _⟩ := e
    refine ⟨by simp, fun b' hb' => ?_⟩
    simp [Value.ownBlock] at hb'
    omega) (by simp) (by omega)).mono ?_
  rintro e w1 ⟨v1, rfl, o1, b1⟩
  have B1 := Lib.hid (hbw0.trans b1)
  have O1 := Lib.hid o1
  obtain ⟨x0, x1, x2, x3, x4, x5, x6, x7, y0, y1, y2, y3, y4⟩ := KC.out _ (HBW.out ▸ B1.out)
  clear o1 b1 hbw0 n1 n2 ho0 hsz hBW

  go_wp2_with fail
  have s1 := B1.out.size
  refine (words16_any B v1 ([fc] ++ wb [ad]) vs vn vc V _ (by have := HBW.out; omega) O1.out (HV.out _ (HBW.out ▸ B1.out)) (fun b off e h0 => by
    have h1 := HLo.out b off e h0
    have h2 := HBB.out
    have h3 := HBW.out
    refine ⟨by omega, fun b' hb' => ?_⟩
    have := (O1.out.blk b' hb').1
    omega) (by simp [wb_len]) (by omega)).mono ?_
  rintro e w2 ⟨v2, rfl, o2, b2⟩
  have B2 := Lib.hid (B1.out.trans b2)
  have O2 := Lib.hid o2
  clear o2 b2

  have hf : PutFP w ([fc] ++ wb [ad] ++ wb V) (.returned v2) w2 := ⟨v2, rfl, O2.out.mono (by have := HBB.out; omega), B0.out.trans (B2.out.mono (by have := HBB.out; omega))⟩
  have HF := Lib.hid hf
  clear hf
  go_wp2_with fail
  go_ret
  exact HF.out

set_option maxRecDepth 100000 in
set_option maxHeartbeats 8000000 in
theorem put_s4 (rd wr : Bool) (fq le mo : Nat) (fc ad q to : Nat) (vs : Option Addr) (vn vc : Nat) (V : List Nat) (w : World) (h : ArgW w vs vn vc V) (hfc : fc < 256) (had : ad < 65536) (hqq : q < 65536) (hto : to < 65536) (hq : 0 < fq) (hv : vn ≤ 2000) (hm : 0 < mo) :
    Calls Try.prog 55 #[fv ⟨rd, wr, true, fq, le, mo, true, false⟩, rv ⟨(fc : Int), (ad : Int), (q : Int), vs, vn, vc, V, (to : Int)⟩] w (PutFP w (putN ⟨rd, wr, true, fq, le, mo, true, false⟩ fc ad q to V)) := by
  have hL : putN ⟨rd, wr, true, fq, le, mo, true, false⟩ fc ad q to V = [fc] ++ wb [ad] ++ wb [q] ++ (bits V).length :: bits V := by
    have hvl := h.row.ln
    unfold putN
    simp [hq]
  rw [hL]
  clear hL
  simp only [fv, rv]
  have b0 : Below w.heap.size w ((w.alloc (.cells #[.bool rd, .bool wr, .bool true, .int .i64 (fq : Int), .int .i64 (le : Int), .int .i64 (mo : Int), .bool true, .bool false] 81 (0, 0))).alloc (.cells #[.int .i64 (fc : Int), .int .i64 (ad : Int), .int .i64 (q : Int), .slice vs vn vc, .int .i64 (to : Int)] 32 (0, 0))) := ((Below.refl _ _).alloc (Nat.le_refl _) _).alloc (by simp) _
  have hz0 : ((w.alloc (.cells #[.bool rd, .bool wr, .bool true, .int .i64 (fq : Int), .int .i64 (le : Int), .int .i64 (mo : Int), .bool true, .bool false] 81 (0, 0))).alloc (.cells #[.int .i64 (fc : Int), .int .i64 (ad : Int), .int .i64 (q : Int), .slice vs vn vc, .int .i64 (to : Int)] 32 (0, 0))).heap.size = w.heap.size + 2 := by simp
  have k1 : ((w.alloc (.cells #[.bool rd, .bool wr, .bool true, .int .i64 (fq : Int), .int .i64 (le : Int), .int .i64 (mo : Int), .bool true, .bool false] 81 (0, 0))).alloc (.cells #[.int .i64 (fc : Int), .int .i64 (ad : Int), .int .i64 (q : Int), .slice vs vn vc, .int .i64 (to : Int)] 32 (0, 0))).heap[w.heap.size]? = some (.cells #[.bool rd, .bool wr, .bool true, .int .i64 (fq : Int), .int .i64 (le : Int), .int .i64 (mo : Int), .bool true, .bool false] 81 (0, 0)) := (heap_alloc_old _ _ (by simp)).trans (heap_alloc_new _ _)
  have k2 : ((w.alloc (.cells #[.bool rd, .bool wr, .bool true, .int .i64 (fq : Int), .int .i64 (le : Int), .int .i64 (mo : Int), .bool true, .bool false] 81 (0, 0))).alloc (.cells #[.int .i64 (fc : Int), .int .i64 (ad : Int), .int .i64 (q : Int), .slice vs vn vc, .int .i64 (to : Int)] 32 (0, 0))).heap[w.heap.size + 1]? = some (.cells #[.int .i64 (fc : Int), .int .i64 (ad : Int), .int .i64 (q : Int), .slice vs vn vc, .int .i64 (to : Int)] 32 (0, 0)) := by
    have := heap_alloc_new (w.alloc (.cells #[.bool rd, .bool wr, .bool true, .int .i64 (fq : Int), .int .i64 (le : Int), .int .i64 (mo : Int), .bool true, .bool false] 81 (0, 0))) (.cells #[.int .i64 (fc : Int), .int .i64 (ad : Int), .int .i64 (q : Int), .slice vs vn vc, .int .i64 (to : Int)] 32 (0, 0))
    simpa using this
  have hrow := h.row.below b0
  have hlow : ∀ b off, vs = some ⟨b, off, none⟩ → 0 < vn → b < w.heap.size := by
    intro b off e h0
    obtain ⟨b', off', e', hb', _⟩ := h.row.pos h0
    rw [e] at e'; simp only [Option.some.injEq, Addr.mk.injEq, and_true] at e'; omega
  have hvl := h.row.ln
  have kc := fun (w' : World) (hb : Below ((w.alloc (.cells #[.bool rd, .bool wr, .bool true, .int .i64 (fq : Int), .int .i64 (le : Int), .int .i64 (mo : Int), .bool true, .bool false] 81 (0, 0))).alloc (.cells #[.int .i64 (fc : Int), .int .i64 (ad : Int), .int .i64 (q : Int), .slice vs vn vc, .int .i64 (to : Int)] 32 (0, 0))).heap.size ((w.alloc (.cells #[.bool rd, .bool wr, .bool true, .int .i64 (fq : Int), .int .i64 (le : Int), .int .i64 (mo : Int), .bool true, .bool false] 81 (0, 0))).alloc (.cells #[.int .i64 (fc : Int), .int .i64 (ad : Int), .int .i64 (q : Int), .slice vs vn vc, .int .i64 (to : Int)] 32 (0, 0))) w') => And.intro (cells8 ((hb.block w.heap.size (by rw [hz0]; omega)).trans k1)) (cells5 ((hb.block (w.heap.size + 1) (by rw [hz0]; omega)).trans k2))
  simp only [and_assoc] at kc
  have KC := Lib.hid kc
  have HV := Lib.hid (fun (w' : World) (hb : Below ((w.alloc (.cells #[.bool rd, .bool wr, .bool true, .int .i64 (fq : Int), .int .i64 (le : Int), .int .i64 (mo : Int), .bool true, .bool false] 81 (0, 0))).alloc (.cells #[.int .i64 (fc : Int), .int .i64 (ad : Int), .int .i64 (q : Int), .slice vs vn vc, .int .i64 (to : Int)] 32 (0, 0))).heap.size ((w.alloc (.cells #[.bool rd, .bool wr, .bool true, .int .i64 (fq : Int), .int .i64 (le : Int), .int .i64 (mo : Int), .bool true, .bool false] 81 (0, 0))).alloc (.cells #[.int .i64 (fc : Int), .int .i64 (ad : Int), .int .i64 (q : Int), .slice vs vn vc, .int .i64 (to : Int)] 32 (0, 0))) w') => hrow.below hb)
  have HLo := Lib.hid hlow
  have B0 := Lib.hid b0
  have HZ := Lib.hid hz0
  have HVL := Lib.hid hvl
  obtain ⟨B, hB⟩ : ∃ B, B = w.heap.size + 2 := ⟨_, rfl⟩
  have HBB := Lib.hid hB
  clear h b0 hz0 k1 k2 hrow hlow hvl kc hB
  go_enter Try.func55, Try.ntmps55
  go_wp2_with fail
  obtain ⟨W, hW⟩ : ∃ W, W = ((w.alloc (.cells #[.bool rd, .bool wr, .bool true, .int .i64 (fq : Int), .int .i64 (le : Int), .int .i64 (mo : Int), .bool true, .bool false] 81 (0, 0))).alloc (.cells #[.int .i64 (fc : Int), .int .i64 (ad : Int), .int .i64 (q : Int), .slice vs vn vc, .int .i64 (to : Int)] 32 (0, 0))) := ⟨_, rfl⟩
  rw [← hW] at KC HV B0 HZ ⊢
  have hsw : w.heap.size + 1 + 1 = W.heap.size := by rw [HZ.out]
  rw [hsw]
  clear hsw
  have hsz := HZ.out
  have hBW : B = W.heap.size := by rw [HBB.out, hsz]
  have HBW := Lib.hid hBW
  have n1 : (((W.alloc (.cells #[.int .u8 (fc : Int)] 5 (0, 0))).alloc (.cells #[.int .i64 (ad : Int)] 3 (0, 0)))).heap[W.heap.size]? = some (.cells (bv [fc]).toArray 5 (0, 0)) := (heap_alloc_old _ _ (by simp)).trans (heap_alloc_new _ _)
  have n2 : (((W.alloc (.cells #[.int .u8 (fc : Int)] 5 (0, 0))).alloc (.cells #[.int .i64 (ad : Int)] 3 (0, 0)))).heap[W.heap.size + 1]? = some (.cells #[.int .i64 (ad : Int)] 3 (0, 0)) := by
    have := heap_alloc_new (W.alloc (.cells #[.int .u8 (fc : Int)] 5 (0, 0))) (.cells #[.int .i64 (ad : Int)] 3 (0, 0))
    simpa using this
  have hbw0 : Below B W (((W.alloc (.cells #[.int .u8 (fc : Int)] 5 (0, 0))).alloc (.cells #[.int .i64 (ad : Int)] 3 (0, 0)))) := ((Below.refl _ _).alloc (by omega) _).alloc (by simp; omega) _
  have ho0 : OwnV B (((W.alloc (.cells #[.int .u8 (fc : Int)] 5 (0, 0))).alloc (.cells #[.int .i64 (ad : Int)] 3 (0, 0)))) (.slice (some ⟨W.heap.size, 0, none⟩) 1 1) [fc] := own_of_block (by omega) (by unfold maxLen; simp) n1
  refine (words_any B _ [fc] (some ⟨W.heap.size + 1, 0, none⟩) 1 1 [ad] _ (by simp; omega) ho0 (ixs_one ad had n2) (fun b off e _ => by
    simp only [Option.some.injEq, Addr.mk.injEq, and_true] at e
    obtain ⟨rfl, _⟩ := e
    refine ⟨by simp, fun b' hb' => ?_⟩
    simp [Value.ownBlock] at hb'
    omega) (by simp) (by omega)).mono ?_
  rintro e w1 ⟨v1, rfl, o1, b1⟩
  have B1 := Lib.hid (hbw0.trans b1)
  have O1 := Lib.hid o1
  obtain ⟨x0, x1, x2, x3, x4, x5, x6, x7, y0, y1, y2, y3, y4⟩ := KC.out _ (HBW.out ▸ B1.out)
  clear o1 b1 hbw0 n1 n2 ho0 hsz hBW

  go_wp2_with fail
  have s1 := B1.out.size
  have n1 : (w1.alloc (.cells #[.int .i64 (q : Int)] 3 (0, 0))).heap[w1.heap.size]? = some (.cells #[.int .i64 (q : Int)] 3 (0, 0)) := heap_alloc_new _ _
  have a1 : Below B w1 (w1.alloc (.cells #[.int .i64 (q : Int)] 3 (0, 0))) := (Below.refl _ _).alloc (by have := HBW.out; omega) _
  refine (words_any B v1 ([fc] ++ wb [ad]) (some ⟨w1.heap.size, 0, none⟩) 1 1 [q] _ (by have := HBW.out; simp; omega) (O1.out.keep ((Below.refl _ _).alloc (Nat.le_refl _) _)) (ixs_one q hqq n1) (fun b off e _ => by
    simp only [Option.some.injEq, Addr.mk.injEq, and_true] at e
    obtain ⟨rfl, _⟩ := e
    refine ⟨by simp, fun b' hb' => ?_⟩
    have := (O1.out.blk b' hb').2
    omega) (by simp [wb_len]) (by omega)).mono ?_
  rintro e w2 ⟨v2, rfl, o2, b2⟩
  have B2 := Lib.hid (B1.out.trans (a1.trans b2))
  have O2 := Lib.hid o2
  clear o2 b2 n1 a1 x0 x1 x2 x3 x4 x5 x6 x7 y0 y1 y2 y3 y4
  obtain ⟨x0, x1, x2, x3, x4, x5, x6, x7, y0, y1, y2, y3, y4⟩ := KC.out _ (HBW.out ▸ B2.out)

  go_wp2_with fail
  have s2 := B2.out.size
  refine (bits_any vs vn vc V _ (HV.out _ (HBW.out ▸ B2.out)) (by omega)).mono ?_
  rintro e w3 ⟨g, rfl, hg, hge, b3⟩
  have hM := bys_block (bits V) (by rw [bits_len, HVL.out]; unfold maxLen; omega) (bits_by V) hg
  have hlen : (bits V).length ≤ 255 := by rw [bits_len, HVL.out]; omega
  have hne : ∀ b off, some (⟨g, 0, none⟩ : Addr) = some ⟨b, off, none⟩ → 0 < (bits V).length → ∀ b', v2.ownBlock = some b' → b ≠ b' := by
    intro b off e _ b' hb'
    simp only [Option.some.injEq, Addr.mk.injEq, and_true] at e
    have := (O2.out.blk b' hb').2
    omega
  have hnil : (some (⟨g, 0, none⟩ : Addr)) = none → (bits V).length = 0 := fun e => by cases e

  have B3 := Lib.hid (B2.out.trans (b3.mono (by have := HBW.out; omega)))
  have ok := O2.out.keep b3
  have OK := Lib.hid ok
  have HM := Lib.hid hM
  have s3 := B3.out.size
  have CT := Lib.hid (counted_any B v2 ([fc] ++ wb [ad] ++ wb [q]) (some ⟨g, 0, none⟩) (bits V).length (bits V).length (bits V) w3 (by have := HBW.out; omega) ok hM hnil hne (by simp [wb_len]) hlen)
  clear b3 ok hM hne hnil x0 x1 x2 x3 x4 x5 x6 x7 y0 y1 y2 y3 y4
  obtain ⟨tl, htl⟩ : ∃ tl, tl = (bits V).length := ⟨_, rfl⟩
  rw [← htl] at CT ⊢
  have HTL := Lib.hid htl
  clear htl
  go_wp2_with fail
  refine CT.out.mono ?_
  rintro e w4 ⟨v4, rfl, o4, b4⟩
  have B4 := Lib.hid (B3.out.trans b4)
  have O4 := Lib.hid o4
  clear o4 b4
  obtain ⟨x0, x1, x2, x3, x4, x5, x6, x7, y0, y1, y2, y3, y4⟩ := KC.out _ (HBW.out ▸ B4.out)

  have hf : PutFP w ([fc] ++ wb [ad] ++ wb [q] ++ tl :: bits V) (.returned v4) w4 := ⟨v4, rfl, O4.out.mono (by have := HBB.out; omega), B0.out.trans (B4.out.mono (by have := HBB.out; omega))⟩
  rw [HTL.out] at hf
  have HF := Lib.hid hf
  clear hf
  go_wp2_with fail
  go_ret
  exact HF.out

set_option maxRecDepth 100000 in
set_option maxHeartbeats 8000000 in
theorem put_s5 (rd wr : Bool) (fq le mo : Nat) (fc ad q to : Nat) (vs : Option Addr) (vn vc : Nat) (V : List Nat) (w : World) (h : ArgW w vs vn vc V) (hfc : fc < 256) (had : ad < 65536) (hqq : q < 65536) (hto : to < 65536) (hq : 0 < fq) (hv : vn ≤ 126) (hm : 0 < mo) :
    Calls Try.prog 55 #[fv ⟨rd, wr, false, fq, le, mo, true, false⟩, rv ⟨(fc : Int), (ad : Int), (q : Int), vs, vn, vc, V, (to : Int)⟩] w (PutFP w (putN ⟨rd, wr, false, fq, le, mo, true, false⟩ fc ad q to V)) := by
  have hL : putN ⟨rd, wr, false, fq, le, mo, true, false⟩ fc ad q to V = [fc] ++ wb [ad] ++ wb [q] ++ (wb V).length :: wb V := by
    have hvl := h.row.ln
    unfold putN
    simp [hq]
  rw [hL]
  clear hL
  simp only [fv, rv]
  have b0 : Below w.heap.size w ((w.alloc (.cells #[.bool rd, .bool wr, .bool false, .int .i64 (fq : Int), .int .i64 (le : Int), .int .i64 (mo : Int), .bool true, .bool false] 81 (0, 0))).alloc (.cells #[.int .i64 (fc : Int), .int .i64 (ad : Int), .int .i64 (q : Int), .slice vs vn vc, .int .i64 (to : Int)] 32 (0, 0))) := ((Below.refl _ _).alloc (Nat.le_refl _) _).alloc (by simp) _
  have hz0 : ((w.alloc (.cells #[.bool rd, .bool wr, .bool false, .int .i64 (fq : Int), .int .i64 (le : Int), .int .i64 (mo : Int), .bool true, .bool false] 81 (0, 0))).alloc (.cells #[.int .i64 (fc : Int), .int .i64 (ad : Int), .int .i64 (q : Int), .slice vs vn vc, .int .i64 (to : Int)] 32 (0, 0))).heap.size = w.heap.size + 2 := by simp
  have k1 : ((w.alloc (.cells #[.bool rd, .bool wr, .bool false, .int .i64 (fq : Int), .int .i64 (le : Int), .int .i64 (mo : Int), .bool true, .bool false] 81 (0, 0))).alloc (.cells #[.int .i64 (fc : Int), .int .i64 (ad : Int), .int .i64 (q : Int), .slice vs vn vc, .int .i64 (to : Int)] 32 (0, 0))).heap[w.heap.size]? = some (.cells #[.bool rd, .bool wr, .bool false, .int .i64 (fq : Int), .int .i64 (le : Int), .int .i64 (mo : Int), .bool true, .bool false] 81 (0, 0)) := (heap_alloc_old _ _ (by simp)).trans (heap_alloc_new _ _)
  have k2 : ((w.alloc (.cells #[.bool rd, .bool wr, .bool false, .int .i64 (fq : Int), .int .i64 (le : Int), .int .i64 (mo : Int), .bool true, .bool false] 81 (0, 0))).alloc (.cells #[.int .i64 (fc : Int), .int .i64 (ad : Int), .int .i64 (q : Int), .slice vs vn vc, .int .i64 (to : Int)] 32 (0, 0))).heap[w.heap.size + 1]? = some (.cells #[.int .i64 (fc : Int), .int .i64 (ad : Int), .int .i64 (q : Int), .slice vs vn vc, .int .i64 (to : Int)] 32 (0, 0)) := by
    have := heap_alloc_new (w.alloc (.cells #[.bool rd, .bool wr, .bool false, .int .i64 (fq : Int), .int .i64 (le : Int), .int .i64 (mo : Int), .bool true, .bool false] 81 (0, 0))) (.cells #[.int .i64 (fc : Int), .int .i64 (ad : Int), .int .i64 (q : Int), .slice vs vn vc, .int .i64 (to : Int)] 32 (0, 0))
    simpa using this
  have hrow := h.row.below b0
  have hlow : ∀ b off, vs = some ⟨b, off, none⟩ → 0 < vn → b < w.heap.size := by
    intro b off e h0
    obtain ⟨b', off', e', hb', _⟩ := h.row.pos h0
    rw [e] at e'; simp only [Option.some.injEq, Addr.mk.injEq, and_true] at e'; omega
  have hvl := h.row.ln
  have kc := fun (w' : World) (hb : Below ((w.alloc (.cells #[.bool rd, .bool wr, .bool false, .int .i64 (fq : Int), .int .i64 (le : Int), .int .i64 (mo : Int), .bool true, .bool false] 81 (0, 0))).alloc (.cells #[.int .i64 (fc : Int), .int .i64 (ad : Int), .int .i64 (q : Int), .slice vs vn vc, .int .i64 (to : Int)] 32 (0, 0))).heap.size ((w.alloc (.cells #[.bool rd, .bool wr, .bool false, .int .i64 (fq : Int), .int .i64 (le : Int), .int .i64 (mo : Int), .bool true, .bool false] 81 (0, 0))).alloc (.cells #[.int .i64 (fc : Int), .int .i64 (ad : Int), .int .i64 (q : Int), .slice vs vn vc, .int .i64 (to : Int)] 32 (0, 0))) w') => And.intro (cells8 ((hb.block w.heap.size (by rw [hz0]; omega)).trans k1)) (cells5 ((hb.block (w.heap.size + 1) (by rw [hz0]; omega)).trans k2))
  simp only [and_assoc] at kc
  have KC := Lib.hid kc
  have HV := Lib.hid (fun (w' : World) (hb : Below ((w.alloc (.cells #[.bool rd, .bool wr, .bool false, .int .i64 (fq : Int), .int .i64 (le : Int), .int .i64 (mo : Int), .bool true, .bool false] 81 (0, 0))).alloc (.cells #[.int .i64 (fc : Int), .int .i64 (ad : Int), .int .i64 (q : Int), .slice vs vn vc, .int .i64 (to : Int)] 32 (0, 0))).heap.size ((w.alloc (.cells #[.bool rd, .bool wr, .bool false, .int .i64 (fq : Int), .int .i64 (le : Int), .int .i64 (mo : Int), .bool true, .bool false] 81 (0, 0))).alloc (.cells #[.int .i64 (fc : Int), .int .i64 (ad : Int), .int .i64 (q : Int), .slice vs vn vc, .int .i64 (to : Int)] 32 (0, 0))) w') => hrow.below hb)
  have HLo := Lib.hid hlow
  have B0 := Lib.hid b0
  have HZ := Lib.hid hz0
  have HVL := Lib.hid hvl
  obtain ⟨B, hB⟩ : ∃ B, B = w.heap.size + 2 := ⟨_, rfl⟩
  have HBB := Lib.hid hB
  clear h b0 hz0 k1 k2 hrow hlow hvl kc hB
  go_enter Try.func55, Try.ntmps55
  go_wp2_with fail
  obtain ⟨W, hW⟩ : ∃ W, W = ((w.alloc (.cells #[.bool rd, .bool wr, .bool false, .int .i64 (fq : Int), .int .i64 (le : Int), .int .i64 (mo : Int), .bool true, .bool false] 81 (0, 0))).alloc (.cells #[.int .i64 (fc : Int), .int .i64 (ad : Int), .int .i64 (q : Int), .slice vs vn vc, .int .i64 (to : Int)] 32 (0, 0))) := ⟨_, rfl⟩
  rw [← hW] at KC HV B0 HZ ⊢
  have hsw : w.heap.size + 1 + 1 = W.heap.size := by rw [HZ.out]
  rw [hsw]
  clear hsw
  have hsz := HZ.out
  have hBW : B = W.heap.size := by rw [HBB.out, hsz]
  have HBW := Lib.hid hBW
  have n1 : (((W.alloc (.cells #[.int .u8 (fc : Int)] 5 (0, 0))).alloc (.cells #[.int .i64 (ad : Int)] 3 (0, 0)))).heap[W.heap.size]? = some (.cells (bv [fc]).toArray 5 (0, 0)) := (heap_alloc_old _ _ (by simp)).trans (heap_alloc_new _ _)
  have n2 : (((W.alloc (.cells #[.int .u8 (fc : Int)] 5 (0, 0))).alloc (.cells #[.int .i64 (ad : Int)] 3 (0, 0)))).heap[W.heap.size + 1]? = some (.cells #[.int .i64 (ad : Int)] 3 (0, 0)) := by
    have := heap_alloc_new (W.alloc (.cells #[.int .u8 (fc : Int)] 5 (0, 0))) (.cells #[.int .i64 (ad : Int)] 3 (0, 0))
    simpa using this
  have hbw0 : Below B W (((W.alloc (.cells #[.int .u8 (fc : Int)] 5 (0, 0))).alloc (.cells #[.int .i64 (ad : Int)] 3 (0, 0)))) := ((Below.refl _ _).alloc (by omega) _).alloc (by simp; omega) _
  have ho0 : OwnV B (((W.alloc (.cells #[.int .u8 (fc : Int)] 5 (0, 0))).alloc (.cells #[.int .i64 (ad : Int)] 3 (0, 0)))) (.slice (some ⟨W.heap.size, 0, none⟩) 1 1) [fc] := own_of_block (by omega) (by unfold maxLen; simp) n1
  refine (words_any B _ [fc] (some ⟨W.heap.size + 1, 0, none⟩) 1 1 [ad] _ (by simp; omega) ho0 (ixs_one ad had n2) (fun b off e _ => by
    simp only [Option.some.injEq, Addr.mk.injEq, and_true] at e
    obtain ⟨rfl, _⟩ := e
    refine ⟨by simp, fun b' hb' => ?_⟩
    simp [Value.ownBlock] at hb'
    omega) (by simp) (by omega)).mono ?_
  rintro e w1 ⟨v1, rfl, o1, b1⟩
  have B1 := Lib.hid (hbw0.trans b1)
  have O1 := Lib.hid o1
  obtain ⟨x0, x1, x2, x3, x4, x5, x6, x7, y0, y1, y2, y3, y4⟩ := KC.out _ (HBW.out ▸ B1.out)
  clear o1 b1 hbw0 n1 n2 ho0 hsz hBW

  go_wp2_with fail
  have s1 := B1.out.size
  have n1 : (w1.alloc (.cells #[.int .i64 (q : Int)] 3 (0, 0))).heap[w1.heap.size]? = some (.cells #[.int .i64 (q : Int)] 3 (0, 0)) := heap_alloc_new _ _
  have a1 : Below B w1 (w1.alloc (.cells #[.int .i64 (q : Int)] 3 (0, 0))) := (Below.refl _ _).alloc (by have := HBW.out; omega) _
  refine (words_any B v1 ([fc] ++ wb [ad]) (some ⟨w1.heap.size, 0, none⟩) 1 1 [q] _ (by have := HBW.out; simp; omega) (O1.out.keep ((Below.refl _ _).alloc (Nat.le_refl _) _)) (ixs_one q hqq n1) (fun b off e _ => by
    simp only [Option.some.injEq, Addr.mk.injEq, and_true] at e
    obtain ⟨rfl, _⟩ := e
    refine ⟨by simp, fun b' hb' => ?_⟩
    have := (O1.out.blk b' hb').2
    omega) (by simp [wb_len]) (by omega)).mono ?_
  rintro e w2 ⟨v2, rfl, o2, b2⟩
  have B2 := Lib.hid (B1.out.trans (a1.trans b2))
  have O2 := Lib.hid o2
  clear o2 b2 n1 a1 x0 x1 x2 x3 x4 x5 x6 x7 y0 y1 y2 y3 y4
  obtain ⟨x0, x1, x2, x3, x4, x5, x6, x7, y0, y1, y2, y3, y4⟩ := KC.out _ (HBW.out ▸ B2.out)

  go_wp2_with fail
  have s2 := B2.out.size
  refine (words16_any w2.heap.size (.slice none 0 0) [] vs vn vc V _ (Nat.le_refl _) ⟨rfl, .inl ⟨rfl, rfl⟩⟩ (HV.out _ (HBW.out ▸ B2.out)) (fun b off e h0 => by
    have h1 := HLo.out b off e h0
    have h2 := HBB.out
    have h3 := HBW.out
    refine ⟨by omega, fun b' hb' => ?_⟩
    simp [Value.ownBlock] at hb') (by simp) (by omega)).mono ?_
  rintro e w3 ⟨vv, rfl, ov, b3⟩
  rw [List.nil_append] at ov
  have hby := wb_by (HV.out _ (HBW.out ▸ B2.out)).by'
  obtain ⟨ga, gc, rfl, hM, hnil, hgb⟩ := own_arg ov hby
  have hlen : (wb V).length ≤ 255 := by rw [wb_len, HVL.out]; omega
  have hne : ∀ b off, ga = some (⟨b, off, none⟩ : Addr) → 0 < (wb V).length → ∀ b', v2.ownBlock = some b' → b ≠ b' := by
    intro b off e _ b' hb'
    have h1 := hgb b off e
    have := (O2.out.blk b' hb').2
    omega
  clear ov hgb hby

  have B3 := Lib.hid (B2.out.trans (b3.mono (by have := HBW.out; omega)))
  have ok := O2.out.keep b3
  have OK := Lib.hid ok
  have HM := Lib.hid hM
  have s3 := B3.out.size
  have CT := Lib.hid (counted_any B v2 ([fc] ++ wb [ad] ++ wb [q]) ga (wb V).length gc (wb V) w3 (by have := HBW.out; omega) ok hM hnil hne (by simp [wb_len]) hlen)
  clear b3 ok hM hne hnil x0 x1 x2 x3 x4 x5 x6 x7 y0 y1 y2 y3 y4
  obtain ⟨tl, htl⟩ : ∃ tl, tl = (wb V).length := ⟨_, rfl⟩
  rw [← htl] at CT ⊢
  have HTL := Lib.hid htl
  clear htl
  go_wp2_with fail
  refine CT.out.mono ?_
  rintro e w4 ⟨v4, rfl, o4, b4⟩
  have B4 := Lib.hid (B3.out.trans b4)
  have O4 := Lib.hid o4
  clear o4 b4
  obtain ⟨x0, x1, x2, x3, x4, x5, x6, x7, y0, y1, y2, y3, y4⟩ := KC.out _ (HBW.out ▸ B4.out)

  have hf : PutFP w ([fc] ++ wb [ad] ++ wb [q] ++ tl :: wb V) (.returned v4) w4 := ⟨v4, rfl, O4.out.mono (by have := HBB.out; omega), B0.out.trans (B4.out.mono (by have := HBB.out; omega))⟩
  rw [HTL.out] at hf
  have HF := Lib.hid hf
  clear hf
  go_wp2_with fail
  go_ret
  exact HF.out

set_option maxRecDepth 100000 in
set_option maxHeartbeats 8000000 in
theorem put_s6 (rd wr : Bool) (fq le mo : Nat) (fc ad q to : Nat) (vs : Option Addr) (vn vc : Nat) (V : List Nat) (w : World) (h : ArgW w vs vn vc V) (hfc : fc < 256) (had : ad < 65536) (hqq : q < 65536) (hto : to < 65536) (hq : 0 < fq) (hv : vn ≤ 126) (hm : 0 < mo) :
    Calls Try.prog 55 #[fv ⟨rd, wr, false, fq, le, mo, true, true⟩, rv ⟨(fc : Int), (ad : Int), (q : Int), vs, vn, vc, V, (to : Int)⟩] w (PutFP w (putN ⟨rd, wr, false, fq, le, mo, true, true⟩ fc ad q to V)) := by
  have hL : putN ⟨rd, wr, false, fq, le, mo, true, true⟩ fc ad q to V = [fc] ++ wb [ad] ++ wb [q] ++ wb [to, vn] ++ (wb V).length :: wb V := by
    have hvl := h.row.ln
    unfold putN
    simp [hq, hvl]
  rw [hL]
  clear hL
  simp only [fv, rv]
  have b0 : Below w.heap.size w ((w.alloc (.cells #[.bool rd, .bool wr, .bool false, .int .i64 (fq : Int), .int .i64 (le : Int), .int .i64 (mo : Int), .bool true, .bool true] 81 (0, 0))).alloc (.cells #[.int .i64 (fc : Int), .int .i64 (ad : Int), .int .i64 (q : Int), .slice vs vn vc, .int .i64 (to : Int)] 32 (0, 0))) := ((Below.refl _ _).alloc (Nat.le_refl _) _).alloc (by simp) _
  have hz0 : ((w.alloc (.cells #[.bool rd, .bool wr, .bool false, .int .i64 (fq : Int), .int .i64 (le : Int), .int .i64 (mo : Int), .bool true, .bool true] 81 (0, 0))).alloc (.cells #[.int .i64 (fc : Int), .int .i64 (ad : Int), .int .i64 (q : Int), .slice vs vn vc, .int .i64 (to : Int)] 32 (0, 0))).heap.size = w.heap.size + 2 := by simp
  have k1 : ((w.alloc (.cells #[.bool rd, .bool wr, .bool false, .int .i64 (fq : Int), .int .i64 (le : Int), .int .i64 (mo : Int), .bool true, .bool true] 81 (0, 0))).alloc (.cells #[.int .i64 (fc : Int), .int .i64 (ad : Int), .int .i64 (q : Int), .slice vs vn vc, .int .i64 (to : Int)] 32 (0, 0))).heap[w.heap.size]? = some (.cells #[.bool rd, .bool wr, .bool false, .int .i64 (fq : Int), .int .i64 (le : Int), .int .i64 (mo : Int), .bool true, .bool true] 81 (0, 0)) := (heap_alloc_old _ _ (by simp)).trans (heap_alloc_new _ _)
  have k2 : ((w.alloc (.cells #[.bool rd, .bool wr, .bool false, .int .i64 (fq : Int), .int .i64 (le : Int), .int .i64 (mo : Int), .bool true, .bool true] 81 (0, 0))).alloc (.cells #[.int .i64 (fc : Int), .int .i64 (ad : Int), .int .i64 (q : Int), .slice vs vn vc, .int .i64 (to : Int)] 32 (0, 0))).heap[w.heap.size + 1]? = some (.cells #[.int .i64 (fc : Int), .int .i64 (ad : Int), .int .i64 (q : Int), .slice vs vn vc, .int .i64 (to : Int)] 32 (0, 0)) := by
    have := heap_alloc_new (w.alloc (.cells #[.bool rd, .bool wr, .bool false, .int .i64 (fq : Int), .int .i64 (le : Int), .int .i64 (mo : Int), .bool true, .bool true] 81 (0, 0))) (.cells #[.int .i64 (fc : Int), .int .i64 (ad : Int), .int .i64 (q : Int), .slice vs vn vc, .int .i64 (to : Int)] 32 (0, 0))
    simpa using this
  have hrow := h.row.below b0
  have hlow : ∀ b off, vs = some ⟨b, off, none⟩ → 0 < vn → b < w.heap.size := by
    intro b off e h0
    obtain ⟨b', off', e', hb', _⟩ := h.row.pos h0
    rw [e] at e'; simp only [Option.some.injEq, Addr.mk.injEq, and_true] at e'; omega
  have hvl := h.row.ln
  have kc := fun (w' : World) (hb : Below ((w.alloc (.cells #[.bool rd, .bool wr, .bool false, .int .i64 (fq : Int), .int .i64 (le : Int), .int .i64 (mo : Int), .bool true, .bool true] 81 (0, 0))).alloc (.cells #[.int .i64 (fc : Int), .int .i64 (ad : Int), .int .i64 (q : Int), .slice vs vn vc, .int .i64 (to : Int)] 32 (0, 0))).heap.size ((w.alloc (.cells #[.bool rd, .bool wr, .bool false, .int .i64 (fq : Int), .int .i64 (le : Int), .int .i64 (mo : Int), .bool true, .bool true] 81 (0, 0))).alloc (.cells #[.int .i64 (fc : Int), .int .i64 (ad : Int), .int .i64 (q : Int), .slice vs vn vc, .int .i64 (to : Int)] 32 (0, 0))) w') => And.intro (cells8 ((hb.block w.heap.size (by rw [hz0]; omega)).trans k1)) (cells5 ((hb.block (w.heap.size + 1) (by rw [hz0]; omega)).trans k2))
  simp only [and_assoc] at kc
  have KC := Lib.hid kc
  have HV := Lib.hid (fun (w' : World) (hb : Below ((w.alloc (.cells #[.bool rd, .bool wr, .bool false, .int .i64 (fq : Int), .int .i64 (le : Int), .int .i64 (mo : Int), .bool true, .bool true] 81 (0, 0))).alloc (.cells #[.int .i64 (fc : Int), .int .i64 (ad : Int), .int .i64 (q : Int), .slice vs vn vc, .int .i64 (to : Int)] 32 (0, 0))).heap.size ((w.alloc (.cells #[.bool rd, .bool wr, .bool false, .int .i64 (fq : Int), .int .i64 (le : Int), .int .i64 (mo : Int), .bool true, .bool true] 81 (0, 0))).alloc (.cells #[.int .i64 (fc : Int), .int .i64 (ad : Int), .int .i64 (q : Int), .slice vs vn vc, .int .i64 (to : Int)] 32 (0, 0))) w') => hrow.below hb)
  have HLo := Lib.hid hlow
  have B0 := Lib.hid b0
  have HZ := Lib.hid hz0
  have HVL := Lib.hid hvl
  obtain ⟨B, hB⟩ : ∃ B, B = w.heap.size + 2 := ⟨_, rfl⟩
  have HBB := Lib.hid hB
  clear h b0 hz0 k1 k2 hrow hlow hvl kc hB
  go_enter Try.func55, Try.ntmps55
  go_wp2_with fail
  obtain ⟨W, hW⟩ : ∃ W, W = ((w.alloc (.cells #[.bool rd, .bool wr, .bool false, .int .i64 (fq : Int), .int .i64 (le : Int), .int .i64 (mo : Int), .bool true, .bool true] 81 (0, 0))).alloc (.cells #[.int .i64 (fc : Int), .int .i64 (ad : Int), .int .i64 (q : Int), .slice vs vn vc, .int .i64 (to : Int)] 32 (0, 0))) := ⟨_, rfl⟩
  rw [← hW] at KC HV B0 HZ ⊢
  have hsw : w.heap.size + 1 + 1 = W.heap.size := by rw [HZ.out]
  rw [hsw]
  clear hsw
  have hsz := HZ.out
  have hBW : B = W.heap.size := by rw [HBB.out, hsz]
  have HBW := Lib.hid hBW
  have n1 : (((W.alloc (.cells #[.int .u8 (fc : Int)] 5 (0, 0))).alloc (.cells #[.int .i64 (ad : Int)] 3 (0, 0)))).heap[W.heap.size]? = some (.cells (bv [fc]).toArray 5 (0, 0)) := (heap_alloc_old _ _ (by simp)).trans (heap_alloc_new _ _)
  have n2 : (((W.alloc (.cells #[.int .u8 (fc : Int)] 5 (0, 0))).alloc (.cells #[.int .i64 (ad : Int)] 3 (0, 0)))).heap[W.heap.size + 1]? = some (.cells #[.int .i64 (ad : Int)] 3 (0, 0)) := by
    have := heap_alloc_new (W.alloc (.cells #[.int .u8 (fc : Int)] 5 (0, 0))) (.cells #[.int .i64 (ad : Int)] 3 (0, 0))
    simpa using this
  have hbw0 : Below B W (((W.alloc (.cells #[.int .u8 (fc : Int)] 5 (0, 0))).alloc (.cells #[.int .i64 (ad : Int)] 3 (0, 0)))) := ((Below.refl _ _).alloc (by omega) _).alloc (by simp; omega) _
  have ho0 : OwnV B (((W.alloc (.cells #[.int .u8 (fc : Int)] 5 (0, 0))).alloc (.cells #[.int .i64 (ad : Int)] 3 (0, 0)))) (.slice (some ⟨W.heap.size, 0, none⟩) 1 1) [fc] := own_of_block (by omega) (by unfold maxLen; simp) n1
  refine (words_any B _ [fc] (some ⟨W.heap.size + 1, 0, none⟩) 1 1 [ad] _ (by simp; omega) ho0 (ixs_one ad had n2) (fun b off e _ => by
    simp only [Option.some.injEq, Addr.mk.injEq, and_true] at e
    obtain ⟨rfl, _⟩ := e
    refine ⟨by simp, fun b' hb' => ?_⟩
    simp [Value.ownBlock] at hb'
    omega) (by simp) (by omega)).mono ?_
  rintro e w1 ⟨v1, rfl, o1, b1⟩
  have B1 := Lib.hid (hbw0.trans b1)
  have O1 := Lib.hid o1
  obtain ⟨x0, x1, x2, x3, x4, x5, x6, x7, y0, y1, y2, y3, y4⟩ := KC.out _ (HBW.out ▸ B1.out)
  clear o1 b1 hbw0 n1 n2 ho0 hsz hBW

  go_wp2_with fail
  have s1 := B1.out.size
  have n1 : (w1.alloc (.cells #[.int .i64 (q : Int)] 3 (0, 0))).heap[w1.heap.size]? = some (.cells #[.int .i64 (q : Int)] 3 (0, 0)) := heap_alloc_new _ _
  have a1 : Below B w1 (w1.alloc (.cells #[.int .i64 (q : Int)] 3 (0, 0))) := (Below.refl _ _).alloc (by have := HBW.out; omega) _
  refine (words_any B v1 ([fc] ++ wb [ad]) (some ⟨w1.heap.size, 0, none⟩) 1 1 [q] _ (by have := HBW.out; simp; omega) (O1.out.keep ((Below.refl _ _).alloc (Nat.le_refl _) _)) (ixs_one q hqq n1) (fun b off e _ => by
    simp only [Option.some.injEq, Addr.mk.injEq, and_true] at e
    obtain ⟨rfl, _⟩ := e
    refine ⟨by simp, fun b' hb' => ?_⟩
    have := (O1.out.blk b' hb').2
    omega) (by simp [wb_len]) (by omega)).mono ?_
  rintro e w2 ⟨v2, rfl, o2, b2⟩
  have B2 := Lib.hid (B1.out.trans (a1.trans b2))
  have O2 := Lib.hid o2
  clear o2 b2 n1 a1 x0 x1 x2 x3 x4 x5 x6 x7 y0 y1 y2 y3 y4
  obtain ⟨x0, x1, x2, x3, x4, x5, x6, x7, y0, y1, y2, y3, y4⟩ := KC.out _ (HBW.out ▸ B2.out)

  go_wp2_with fail
  have s2 := B2.out.size
  have n1 : (w2.alloc (.cells #[.int .i64 (to : Int), .int .i64 (vn : Int)] 3 (0, 0))).heap[w2.heap.size]? = some (.cells #[.int .i64 (to : Int), .int .i64 (vn : Int)] 3 (0, 0)) := heap_alloc_new _ _
  have a2 : Below B w2 (w2.alloc (.cells #[.int .i64 (to : Int), .int .i64 (vn : Int)] 3 (0, 0))) := (Below.refl _ _).alloc (by have := HBW.out; omega) _
  refine (words_any B v2 ([fc] ++ wb [ad] ++ wb [q]) (some ⟨w2.heap.size, 0, none⟩) 2 2 [to, vn] _ (by have := HBW.out; simp; omega) (O2.out.keep ((Below.refl _ _).alloc (Nat.le_refl _) _)) (ixs_two to vn hto (by omega) n1) (fun b off e _ => by
    simp only [Option.some.injEq, Addr.mk.injEq, and_true] at e
    obtain ⟨rfl, _⟩ := e
    refine ⟨by simp, fun b' hb' => ?_⟩
    have := (O2.out.blk b' hb').2
    omega) (by simp [wb_len]) (by omega)).mono ?_
  rintro e w3 ⟨v3, rfl, o3, b3⟩
  have B3 := Lib.hid (B2.out.trans (a2.trans b3))
  have O3 := Lib.hid o3
  clear o3 b3 n1 a2 x0 x1 x2 x3 x4 x5 x6 x7 y0 y1 y2 y3 y4
  obtain ⟨x0, x1, x2, x3, x4, x5, x6, x7, y0, y1, y2, y3, y4⟩ := KC.out _ (HBW.out ▸ B3.out)

  go_wp2_with fail
  have s3 := B3.out.size
  refine (words16_any w3.heap.size (.slice none 0 0) [] vs vn vc V _ (Nat.le_refl _) ⟨rfl, .inl ⟨rfl, rfl⟩⟩ (HV.out _ (HBW.out ▸ B3.out)) (fun b off e h0 => by
    have h1 := HLo.out b off e h0
    have h2 := HBB.out
    have h3 := HBW.out
    refine ⟨by omega, fun b' hb' => ?_⟩
    simp [Value.ownBlock] at hb') (by simp) (by omega)).mono ?_
  rintro e w4 ⟨vv, rfl, ov, b4⟩
  rw [List.nil_append] at ov
  have hby := wb_by (HV.out _ (HBW.out ▸ B3.out)).by'
  obtain ⟨ga, gc, rfl, hM, hnil, hgb⟩ := own_arg ov hby
  have hlen : (wb V).length ≤ 255 := by rw [wb_len, HVL.out]; omega
  have hne : ∀ b off, ga = some (⟨b, off, none⟩ : Addr) → 0 < (wb V).length → ∀ b', v3.ownBlock = some b' → b ≠ b' := by
    intro b off e _ b' hb'
    have h1 := hgb b off e
    have := (O3.out.blk b' hb').2
    omega
  clear ov hgb hby

  have B4 := Lib.hid (B3.out.trans (b4.mono (by have := HBW.out; omega)))
  have ok := O3.out.keep b4
  have OK := Lib.hid ok
  have HM := Lib.hid hM
  have s4 := B4.out.size
  have CT := Lib.hid (counted_any B v3 ([fc] ++ wb [ad] ++ wb [q] ++ wb [to, vn]) ga (wb V).length gc (wb V) w4 (by have := HBW.out; omega) ok hM hnil hne (by simp [wb_len]) hlen)
  clear b4 ok hM hne hnil x0 x1 x2 x3 x4 x5 x6 x7 y0 y1 y2 y3 y4
  obtain ⟨tl, htl⟩ : ∃ tl, tl = (wb V).length := ⟨_, rfl⟩
  rw [← htl] at CT ⊢
  have HTL := Lib.hid htl
  clear htl
  go_wp2_with fail
  refine CT.out.mono ?_
  rintro e w5 ⟨v5, rfl, o5, b5⟩
  have B5 := Lib.hid (B4.out.trans b5)
  have O5 := Lib.hid o5
  clear o5 b5
  obtain ⟨x0, x1, x2, x3, x4, x5, x6, x7, y0, y1, y2, y3, y4⟩ := KC.out _ (HBW.out ▸ B5.out)

  have hf : PutFP w ([fc] ++ wb [ad] ++ wb [q] ++ wb [to, vn] ++ tl :: wb V) (.returned v5) w5 := ⟨v5, rfl, O5.out.mono (by have := HBB.out; omega), B0.out.trans (B5.out.mono (by have := HBB.out; omega))⟩
  rw [HTL.out] at hf
  have HF := Lib.hid hf
  clear hf
  go_wp2_with fail
  go_ret
  exact HF.out

end Go.Proofs.Ytdolgpogjnfpkaa
/- The next word of what is left. -/
namespace Go.Proofs.Ytdolgpogjnfpkaa
set_option linter.unusedVariables false
open Go.ChangeShapes Go.WideShapes Go.ChangeAt Go.RowKit

/-- Nothing but these blocks has turned. -/
structure Fs (l : List Nat) (w w' : World) : Prop where
  os : w'.os = w.os
  tape : w'.tape = w.tape
  output : w'.output = w.output
  size : w.heap.size ≤ w'.heap.size
  block : ∀ k, k < w.heap.size → k ∉ l → w'.heap[k]? = w.heap[k]?
theorem Fs.of_below {l : List Nat} {w w' : World} (h : Below w.heap.size w w') : Fs l w w' := ⟨h.os, h.tape, h.output, h.size, fun k hk _ => h.block k hk⟩
theorem Fs.refl (l : List Nat) (w : World) : Fs l w w := Fs.of_below (Below.refl _ _)
theorem Fs.below {l : List Nat} {B : Nat} {w w' : World} (h : Fs l w w') (hB : ∀ x ∈ l, B ≤ x) (hs : B ≤ w.heap.size) : Below B w w' :=
  ⟨h.os, h.tape, h.output, h.size, fun k hk => h.block k (by omega) (fun q => by have := hB k q; omega)⟩
theorem Fs.trans {l : List Nat} {a b c : World} (h : Fs l a b) (h' : Fs l b c) : Fs l a c :=
  ⟨h'.os.trans h.os, h'.tape.trans h.tape, h'.output.trans h.output, Nat.le_trans h.size h'.size, fun k hk h1 => (h'.block k (Nat.lt_of_lt_of_le hk h.size) h1).trans (h.block k hk h1)⟩
theorem Fs.mono {l l' : List Nat} {w w' : World} (h : Fs l w w') (hl : ∀ x ∈ l, x ∈ l') : Fs l' w w' := ⟨h.os, h.tape, h.output, h.size, fun k hk h1 => h.block k hk (fun q => h1 (hl k q))⟩
theorem Fs.set (w : World) (g k : Nat) (v : Value) : Fs [g] w (w.setCell ⟨g, k, none⟩ v) :=
  ⟨rfl, rfl, rfl, by simp [World.setCell], fun j _ hj => Below.heap_setCell _ _ _ _ (fun e => hj (by simp at e; simp [e]))⟩
theorem Fs.drew {l : List Nat} {w w' : World} (h : Fs l w w') : Fs l w w'.drew := ⟨h.os, h.tape, h.output, h.size, h.block⟩

def wordL (L : List Nat) : Nat × List Nat := if L.length < 2 then (0, []) else (256 * L.getD 0 0 + L.getD 1 0, L.drop 2)
theorem wordL_lt {L : List Nat} (h : ∀ b ∈ L, b < 256) : (wordL L).1 < 65536 := by
  unfold wordL
  split
  · show 0 < 65536; omega
  · have h0 := getD_lt h 0
    have h1 := getD_lt h 1
    show 256 * L.getD 0 0 + L.getD 1 0 < 65536
    omega
theorem wordL_by {L : List Nat} (h : ∀ b ∈ L, b < 256) : ∀ b ∈ (wordL L).2, b < 256 := by
  unfold wordL
  split
  · intro b hb; simp at hb
  · intro b hb; exact h b (List.mem_of_mem_drop hb)
/-- What is left, in the cell c. -/
def Left (w : World) (c : Nat) (L : List Nat) : Prop := ∃ a n cap, w.heap[c]? = some (.cells #[.slice a n cap] 33 (0, 0)) ∧ Bys w a n L ∧ n ≤ cap ∧ cap ≤ maxLen ∧ (∀ b off, a = some ⟨b, off, none⟩ → 0 < n → b < c)
theorem Left.by' {w : World} {c : Nat} {L : List Nat} (h : Left w c L) : ∀ b ∈ L, b < 256 := by obtain ⟨_, _, _, _, h2, _⟩ := h; exact h2.by'
theorem Bys.hop {W W' : World} {a : Option Addr} {n : Nat} {L : List Nat} (h : Bys W a n L) (hs : W.heap.size ≤ W'.heap.size) (hb : ∀ b off, a = some ⟨b, off, none⟩ → 0 < n → W'.heap[b]? = W.heap[b]?) : Bys W' a n L := by
  refine ⟨h.ln, h.le, h.by', ?_⟩
  rcases h.at' with z | ⟨b, off, e, hlt, hc⟩
  · exact .inl z
  · by_cases h0 : n = 0
    · exact .inl h0
    · exact .inr ⟨b, off, e, Nat.lt_of_lt_of_le hlt hs, fun i hi => (World.cell?_of_block (a := ⟨b, off + i, none⟩) (hb b off e (by omega))).trans (hc i hi)⟩
theorem Left.keep {w w' : World} {c : Nat} {L : List Nat} (h : Left w c L) (hs : w.heap.size ≤ w'.heap.size) (hb : ∀ b, b ≤ c → w'.heap[b]? = w.heap[b]?) : Left w' c L := by
  obtain ⟨a, n, cap, h1, h2, h3, h4, h5⟩ := h
  exact ⟨a, n, cap, (hb c (Nat.le_refl _)).trans h1, h2.hop hs (fun b off e h0 => hb b (Nat.le_of_lt (h5 b off e h0))), h3, h4, h5⟩
theorem Left.cell {w : World} {c : Nat} {L : List Nat} (h : Left w c L) : ∃ a n cap, w.cell? ⟨c, 0, none⟩ = some (.slice a n cap) ∧ w.frozen? ⟨c, 0, none⟩ = false ∧ Bys w a n L ∧ n ≤ cap ∧ cap ≤ maxLen ∧ (∀ b off, a = some ⟨b, off, none⟩ → 0 < n → b < c) := by
  obtain ⟨a, n, cap, h1, h2, h3, h4, h5⟩ := h
  exact ⟨a, n, cap, by simp [World.cell?, h1], by simp [World.frozen?, h1], h2, h3, h4, h5⟩
theorem set_one {w : World} {c : Nat} {t : TypeId} {x : Value} (h : w.heap[c]? = some (.cells #[x] t (0, 0))) (u : Value) : (w.setCell ⟨c, 0, none⟩ u).heap[c]? = some (.cells #[u] t (0, 0)) := by
  simp [World.setCell, Array.getElem?_modify, h]
def WordP (c : Nat) (L : List Nat) (w : World) (e : Ending) (w' : World) : Prop := e = .returned (.int .i64 ((wordL L).1 : Nat)) ∧ Left w' c (wordL L).2 ∧ Fs [c] w w' ∧ w'.heap.size = w.heap.size
theorem or_bytes (x y : Nat) (hx : x < 256) (hy : y < 256) : Go.bits .or .i64 ((x : Int) * 256) (y : Int) = ((256 * x + y : Nat) : Int) := by
  have h1 : (256 * x) ||| y = 256 * x + y := by
    have := Nat.two_pow_add_eq_or_of_lt (i := 8) (b := y) (by omega) x
    simpa using this.symm
  have e : (x : Int) * 256 = ((256 * x : Nat) : Int) := by omega
  rw [e]
  have g1 : (BitVec.ofInt 64 ((256 * x : Nat) : Int)).toNat = 256 * x := by
    rw [BitVec.ofInt_natCast, BitVec.toNat_ofNat]; exact Nat.mod_eq_of_lt (by omega)
  have g2 : (BitVec.ofInt 64 (y : Int)).toNat = y := by
    rw [BitVec.ofInt_natCast, BitVec.toNat_ofNat]; exact Nat.mod_eq_of_lt (by omega)
  show IntKind.i64.wrap ((BitVec.ofInt 64 ((256 * x : Nat) : Int) ||| BitVec.ofInt 64 (y : Int)).toNat : Int) = _
  rw [BitVec.toNat_or, g1, g2, h1]
  exact IntWalk.i64_in _ (by omega)
set_option maxRecDepth 100000 in
set_option maxHeartbeats 4000000 in
theorem word_any (c : Nat) (L : List Nat) (w : World) (h : Left w c L) : Calls Try.prog 69 #[.pointer (some ⟨c, 0, none⟩)] w (WordP c L w) := by
  obtain ⟨a, n, cap, h1, h2, h3, h4, h5⟩ := h
  have k1 : w.cell? ⟨c, 0, none⟩ = some (.slice a n cap) := by simp [World.cell?, h1]
  have k2 : w.frozen? ⟨c, 0, none⟩ = false := by simp [World.frozen?, h1]
  have hln := h2.ln
  have hle := h2.le
  unfold maxLen at hle h4
  by_cases hn : n < 2
  · have hp : WordP c L w (.returned (.int .i64 0)) (w.setCell ⟨c, 0, none⟩ (.slice none 0 0)) := by
      have e : wordL L = (0, []) := by unfold wordL; rw [if_pos (by omega)]
      unfold WordP
      rw [e]
      exact ⟨rfl, ⟨none, 0, 0, set_one h1 _, Bys.nil _ _, Nat.le_refl _, Nat.zero_le _, fun b off e => by cases e⟩, Fs.set _ _ _ _, by simp [World.setCell]⟩
    have HP := Lib.hid hp
    have d1 : decide ((n : Int) < 2) = true := by simp; omega
    clear hp h1 h2 h3 h4 h5 hn
    go_enter Try.func69, Try.ntmps69
    go_wp2_with fail
    go_ret
    exact HP.out
  · obtain ⟨b, off, rfl, hbl, hc⟩ := h2.pos (by omega)
    have hb5 := h5 b off rfl (by omega)
    have c0 : w.cell? ⟨b, off, none⟩ = some (.int .u8 ((L.getD 0 0 : Nat) : Int)) := hc 0 (by omega)
    have c1 := hc 1 (by omega)
    have l0 := getD_lt h2.by' 0
    have l1 := getD_lt h2.by' 1
    have hp : WordP c L w (.returned (.int .i64 ((256 * L.getD 0 0 + L.getD 1 0 : Nat) : Int))) ((w.setCell ⟨c, 0, none⟩ (.slice (if cap = 2 then some ⟨b, off, none⟩ else some ⟨b, off + 2, none⟩) (n - 2) (cap - 2))).drew) := by
      have e : wordL L = (256 * L.getD 0 0 + L.getD 1 0, L.drop 2) := by unfold wordL; rw [if_neg (by omega)]
      unfold WordP
      rw [e]
      refine ⟨rfl, ⟨_, n - 2, cap - 2, set_one h1 _, ?_, by omega, by unfold maxLen; omega, ?_⟩, (Fs.set _ _ _ _).drew, by simp [World.setCell]⟩
      · have hs : Bys w (if cap = 2 then some ⟨b, off, none⟩ else some ⟨b, off + 2, none⟩) (n - 2) (L.drop 2) := by
          by_cases hcc : cap = 2
          · have h0 : n - 2 = 0 := by omega
            rw [h0, List.drop_of_length_le (by omega)]
            exact Bys.nil _ _
          · rw [if_neg hcc]
            have := h2.sub 2 (n - 2) (by omega)
            rwa [List.take_of_length_le (by rw [List.length_drop]; omega)] at this
        refine hs.hop (by simp [World.setCell]) (fun b' off' e' h0 => ?_)
        have hbb : b' = b := by
          split at e' <;> simp only [Option.some.injEq, Addr.mk.injEq] at e' <;> exact e'.1.symm
        subst hbb
        exact Below.heap_setCell _ _ _ _ (show b' ≠ c by omega)
      · intro b' off' e' h0
        have hbb : b' = b := by
          split at e' <;> simp only [Option.some.injEq, Addr.mk.injEq] at e' <;> exact e'.1.symm
        omega
    have HP := Lib.hid hp
    have d1 : decide ((n : Int) < 2) = false := by simp; omega
    have hbc : ¬ c = b := by omega
    have hbc2 : ¬ b = c := by omega
    generalize L.getD 0 0 = x0 at c0 l0 HP
    generalize L.getD 1 0 = x1 at c1 l1 HP
    clear hp h1 h2 h5 hc
    have i0 : 0 < n := by omega
    have i1 : (1 : Int) < (n : Int) := by omega
    have i2 : (2 : Int) ≤ (n : Int) := by omega
    go_enter Try.func69, Try.ntmps69
    go_wp2_with fail
    go_region
    all_goals
      rw [or_bytes x0 x1 l0 l1]
      generalize hX : ((256 * x0 + x1 : Nat) : Int) = X at HP ⊢
      by_cases hcc : cap = 2
      · rw [if_pos hcc] at HP
        subst hcc
        obtain rfl : n = 2 := by omega
        go_wp2_with fail
        go_ret
        exact HP.out
      · rw [if_neg hcc] at HP
        go_wp2_with fail
        go_ret
        exact HP.out
end Go.Proofs.Ytdolgpogjnfpkaa
