/- At, All. -/
import Derived.Test.YteakbijlcccnnaaA
namespace Go.Proofs.Yteakbijlcccnnaa
set_option linter.unusedVariables false
open Go.ChangeShapes Go.WideShapes Go.ChangeAt Go.RowKit

def lv (x : La) : Value := .agg #[.bool x.st, .int .i64 x.tm, .bool x.fi]
def atS (S : List La) (i : Int) : La := if 0 ≤ i then sg S i.toNat else La.z
theorem atS_nat (S : List La) (k : Nat) : atS S (k : Int) = sg S k := by unfold atS; rw [if_pos (by omega)]; simp
theorem fiV_none {G : List Int} {S : List La} {g : Int} (h : fo G S g = none) : fiV G S g = .tuple #[.int .i64 0, .bool false] := by unfold fiV; rw [h]; rfl
theorem fiV_some {G : List Int} {S : List La} {g : Int} {j : Nat} (h : fo G S g = some j) : fiV G S g = .tuple #[.int .i64 (j : Int), .bool true] := by unfold fiV; rw [h]; rfl
def AtP (w : World) (x : La) (e : Ending) (w' : World) : Prop := e = .returned (lv x) ∧ Below w.heap.size w w'

theorem at_out {B t m mb cn n : Nat} {w : World} {G : List Int} {S : List La} (h : Lt B w t m mb cn n G S) (i : Int) (hi : ¬ (0 ≤ i ∧ i < (n : Int))) :
    Calls Try.prog 16 #[.pointer (some ⟨t, 0, none⟩), .int .i64 i] w (AtP w (atS S i)) := by
  have hz : atS S i = La.z := by
    unfold atS; split
    · exact sg_out _ _ (by rw [h.ok.ln, h.ln]; omega)
    · rfl
  have hb : (decide (0 ≤ i) && decide (i < (n : Int))) = false := by simp; omega
  have HB := Lib.hid hb
  have H := Lib.hid (h.below (alloc_b w (.cells #[.bool false, .int .i64 0, .bool false] 37 (0, 0))))
  have HZ := Lib.hid hz
  clear h hz hb hi
  go_enter Try.func16, Try.ntmps16
  go_wp2_with fail
  refine (has_any H.out i).mono ?_
  rintro e w1 ⟨rfl, rfl⟩
  rw [HB.out]
  go_wp2_with fail
  refine bodyPost_ret (v := lv La.z) (by simp [results, Try.results16, go_sem]; rfl) rfl ⟨by rw [HZ.out], ?_⟩
  exact alloc_b _ _
theorem at_in {B t m mb cn n : Nat} {w : World} {G : List Int} {S : List La} (h : Lt B w t m mb cn n G S) (k : Nat) (hk : k < n) :
    Calls Try.prog 16 #[.pointer (some ⟨t, 0, none⟩), .int .i64 (k : Int)] w (AtP w (atS S (k : Int))) := by
  have hb : (decide (0 ≤ (k : Int)) && decide ((k : Int) < (n : Int))) = true := by simp; omega
  have hkg : k < G.length := by rw [h.ln]; exact hk
  rw [atS_nat]
  have b1 : ∀ o, Below w.heap.size w (w.alloc o) := alloc_b w
  have HL := Lib.hid (fun o => h.below (b1 o))
  obtain ⟨c, c0, c1, f0, f1, h1, h2, h3, q0, q1, q2, q3, g0, g1, g2⟩ := h.mem hk
  have hx := fi_fo h.ok hkg
  have hz := h.ok.ok.ze k hkg
  have hwg := h.wg k
  obtain ⟨lt1, lt2, lt3⟩ := h.lt
  have lt4 := lt3 (by omega)
  have HB := Lib.hid hb
  have H := Lib.hid h
  clear h hb b1 lt3
  cases hs : (sg S k).st with
  | false =>
    have HZ := Lib.hid (hz hs)
    rw [hs] at q0
    clear hs hz hx
    go_enter Try.func16, Try.ntmps16
    go_wp2_with fail
    refine (has_any (HL.out _) (k : Int)).mono ?_
    rintro e w1 ⟨rfl, rfl⟩
    rw [HB.out]
    go_wp2_with fail
    refine bodyPost_ret (v := lv La.z) (by simp [results, Try.results16, go_sem]; rfl) rfl ⟨by rw [HZ.out], alloc_b _ _⟩
  | true =>
    have ht : sg S k = ⟨true, (sg S k).tm, decide (fo G S (gg G k) = some k)⟩ := La.ext' hs rfl hx
    rw [hs] at q0
    have HT := Lib.hid ht
    have HF := Lib.hid (fun w' (hb : Below w.heap.size w w') => first_any (H.out.below hb) (gg G k) hwg)
    clear hs hz hx ht
    generalize (sg S k).tm = x at *
    generalize gg G k = g at *
    cases hf : fo G S g with
    | none =>
      have hv := fiV_none hf
      have HV := Lib.hid hv
      have HFo := Lib.hid hf
      clear hv hf
      go_enter Try.func16, Try.ntmps16
      go_wp2_with fail
      refine (has_any (HL.out _) (k : Int)).mono ?_
      rintro e w1 ⟨rfl, rfl⟩
      rw [HB.out]
      go_wp2_with fail
      refine (HF.out _ ((alloc_b _ _).alloc (by simp) _)).mono ?_
      rintro e w1 ⟨rfl, rfl⟩
      rw [HV.out]
      go_wp2_with fail
      refine bodyPost_ret (v := lv ⟨true, x, false⟩) (by simp [results, Try.results16, go_sem]; rfl) rfl ⟨by rw [HT.out, HFo.out]; rfl, (alloc_b _ _).alloc (by simp) _⟩
    | some j =>
      have hv := fiV_some hf
      have HV := Lib.hid hv
      have HFo := Lib.hid hf
      have hjk : decide (fo G S g = some k) = (((j : Nat) : Int) == (k : Int)) := by
        rw [hf, Bool.eq_iff_iff]; simp; omega
      have HJ := Lib.hid hjk
      clear hv hf hjk
      cases hq : (((j : Nat) : Int) == (k : Int)) with
      | false =>
        have HQ := Lib.hid hq
        have hd : ¬ ((j : Int) = (k : Int)) := by simpa using hq
        go_enter Try.func16, Try.ntmps16
        go_wp2_with fail
        refine (has_any (HL.out _) (k : Int)).mono ?_
        rintro e w1 ⟨rfl, rfl⟩
        rw [HB.out]
        go_wp2_with fail
        refine (HF.out _ ((alloc_b _ _).alloc (by simp) _)).mono ?_
        rintro e w1 ⟨rfl, rfl⟩
        rw [HV.out]
        go_wp2_with fail
        refine bodyPost_ret (v := lv ⟨true, x, false⟩) (by simp [results, Try.results16, go_sem]; rfl) rfl ⟨by rw [HT.out, HJ.out, HQ.out], (alloc_b _ _).alloc (by simp) _⟩
      | true =>
        have HQ := Lib.hid hq
        have hd : j = k := Int.ofNat_inj.1 (beq_iff_eq.1 hq)
        subst hd
        clear hq
        go_enter Try.func16, Try.ntmps16
        go_wp2_with fail
        refine (has_any (HL.out _) (j : Int)).mono ?_
        rintro e w1 ⟨rfl, rfl⟩
        rw [HB.out]
        go_wp2_with fail
        refine (HF.out _ ((alloc_b _ _).alloc (by simp) _)).mono ?_
        rintro e w1 ⟨rfl, rfl⟩
        rw [HV.out]
        go_wp2_with fail
        refine bodyPost_ret (v := lv ⟨true, x, true⟩) (by simp [results, Try.results16, go_sem]; rfl) rfl ⟨by rw [HT.out, HJ.out, HQ.out], (alloc_b _ _).alloc (by simp) _⟩
theorem at_any {B t m mb cn n : Nat} {w : World} {G : List Int} {S : List La} (h : Lt B w t m mb cn n G S) (i : Int) :
    Calls Try.prog 16 #[.pointer (some ⟨t, 0, none⟩), .int .i64 i] w (AtP w (atS S i)) := by
  by_cases hi : 0 ≤ i ∧ i < (n : Int)
  · obtain ⟨k, rfl⟩ := Int.eq_ofNat_of_zero_le hi.1
    exact at_in h k (by omega)
  · exact at_out h i hi

/-- Latches in a block of their own. -/
def Lb (w : World) (g n : Nat) (S : List La) : Prop := ∃ arr : Array Value, w.heap[g]? = some (.cells arr 37 (0, 0)) ∧ ∀ i, i < n → arr[i * 3]? = some (.bool (sg S i).st) ∧ arr[i * 3 + 1]? = some (.int .i64 (sg S i).tm) ∧ arr[i * 3 + 2]? = some (.bool (sg S i).fi)
/-- Latches that came in, or that the call owns: n of them, as S has them. -/
structure Lr (w : World) (a : Option Addr) (n : Nat) (S : List La) : Prop where
  ln : S.length = n
  le : n ≤ maxLen
  wt : ∀ i, (Lit.int .i64 (sg S i).tm).wf = true
  at' : n = 0 ∨ ∃ b off, a = some ⟨b, off, none⟩ ∧ b < w.heap.size ∧ ∀ i, i < n → w.cell? ⟨b, off + i * 3, none⟩ = some (.bool (sg S i).st) ∧ w.cell? ⟨b, off + i * 3 + 1, none⟩ = some (.int .i64 (sg S i).tm) ∧ w.cell? ⟨b, off + i * 3 + 2, none⟩ = some (.bool (sg S i).fi)
theorem Lr.pos {w : World} {a : Option Addr} {n : Nat} {S : List La} (h : Lr w a n S) (hp : 0 < n) : ∃ b off, a = some ⟨b, off, none⟩ ∧ b < w.heap.size ∧ ∀ i, i < n → w.cell? ⟨b, off + i * 3, none⟩ = some (.bool (sg S i).st) ∧ w.cell? ⟨b, off + i * 3 + 1, none⟩ = some (.int .i64 (sg S i).tm) ∧ w.cell? ⟨b, off + i * 3 + 2, none⟩ = some (.bool (sg S i).fi) := by
  rcases h.at' with z | z
  · omega
  · exact z
theorem Lr.keep {w w' : World} {a : Option Addr} {n : Nat} {S : List La} (h : Lr w a n S) (hs : w.heap.size ≤ w'.heap.size) (hk : ∀ b off, a = some ⟨b, off, none⟩ → 0 < n → w'.heap[b]? = w.heap[b]?) : Lr w' a n S := by
  refine ⟨h.ln, h.le, h.wt, ?_⟩
  rcases h.at' with z | ⟨b, off, e, hlt, hc⟩
  · exact .inl z
  · by_cases h0 : n = 0
    · exact .inl h0
    · refine .inr ⟨b, off, e, Nat.lt_of_lt_of_le hlt hs, fun i hi => ?_⟩
      have hb := hk b off e (by omega)
      obtain ⟨q0, q1, q2⟩ := hc i hi
      exact ⟨(World.cell?_of_block (a := ⟨b, _, none⟩) hb).trans q0, (World.cell?_of_block (a := ⟨b, _, none⟩) hb).trans q1, (World.cell?_of_block (a := ⟨b, _, none⟩) hb).trans q2⟩
theorem Lr.below {w w' : World} {a : Option Addr} {n : Nat} {S : List La} (h : Lr w a n S) (hb : Below w.heap.size w w') : Lr w' a n S := by
  refine ⟨h.ln, h.le, h.wt, ?_⟩
  rcases h.at' with z | ⟨b, off, e, hlt, hc⟩
  · exact .inl z
  · exact .inr ⟨b, off, e, Nat.lt_of_lt_of_le hlt hb.size, fun i hi => by
      have hbk := hb.block b hlt
      obtain ⟨q0, q1, q2⟩ := hc i hi
      exact ⟨(World.cell?_of_block (a := ⟨b, _, none⟩) hbk).trans q0, (World.cell?_of_block (a := ⟨b, _, none⟩) hbk).trans q1, (World.cell?_of_block (a := ⟨b, _, none⟩) hbk).trans q2⟩⟩
theorem Lb.lr {w : World} {g n : Nat} {S : List La} (h : Lb w g n S) (hl : S.length = n) (hle : n ≤ maxLen) (hw : ∀ i, (Lit.int .i64 (sg S i).tm).wf = true) : Lr w (some ⟨g, 0, none⟩) n S := by
  obtain ⟨arr, h1, h2⟩ := h
  refine ⟨hl, hle, hw, .inr ⟨g, 0, rfl, blk_lt h1, fun i hi => ?_⟩⟩
  obtain ⟨q0, q1, q2⟩ := h2 i hi
  simp only [World.cell?, h1, Nat.zero_add]
  exact ⟨by simpa using q0, by simpa using q1, by simpa using q2⟩
theorem info37 : (Try.prog.info? 37).map (fun i => (i.zero, i.size, i.bytes)) = some (some (.agg #[.bool false, .int .i64 0, .bool false]), 3, 24) := by kernel_rfl
end Go.Proofs.Yteakbijlcccnnaa
