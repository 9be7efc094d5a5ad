/- Answers: plain data; what is asked for. -/
import Derived.Test.YtdolgpogjnfpkaaZ
import Derived.Deep.RegionWith
namespace Go.Proofs.Ytdolgpogjnfpkaa
set_option linter.unusedVariables false
set_option linter.unusedSimpArgs false
open Go.ChangeShapes Go.WideShapes Go.ChangeAt Go.RowKit

structure Rp where
  code : Int
  vs : Option Addr
  vn : Nat
  vc : Nat
  V : List Nat
def rpv (p : Rp) : Value := .agg #[.int .i64 p.code, .slice p.vs p.vn p.vc]
structure Rp.ok (p : Rp) (w : World) : Prop where
  arg : ArgW w p.vs p.vn p.vc p.V
  code : (Lit.int .i64 p.code).wf = true
theorem Rp.ok.below {p : Rp} {W w : World} (h : p.ok W) (hb : Below W.heap.size W w) : p.ok w := ⟨h.arg.below hb, h.code⟩
def isEx (c : Int) : Bool := decide (1 ≤ c) && decide (c ≤ 4)
def mayB (q : Int) (rd bi : Bool) (code : Int) (V : List Nat) : Bool :=
  if code ≠ 0 ∨ rd = false then decide (V.length = 0) && (decide (code = 0) || isEx code) else decide ((V.length : Int) = q) && (!bi || allB V)
def av (r : Rq) (rd bi : Bool) : Value := .agg #[.int .i64 r.fc, .int .i64 r.ad, .int .i64 r.q, .slice r.vs r.vn r.vc, .int .i64 r.to, .bool rd, .bool bi]
theorem cells7 {w : World} {b : Nat} {t : TypeId} {v0 v1 v2 v3 v4 v5 v6 : Value} (h : w.heap[b]? = some (.cells #[v0, v1, v2, v3, v4, v5, v6] t (0, 0))) :
    w.cell? ⟨b, 0, none⟩ = some v0 ∧ w.cell? ⟨b, 1, none⟩ = some v1 ∧ w.cell? ⟨b, 2, none⟩ = some v2 ∧ w.cell? ⟨b, 3, none⟩ = some v3 ∧ w.cell? ⟨b, 4, none⟩ = some v4 ∧ w.cell? ⟨b, 5, none⟩ = some v5 ∧ w.cell? ⟨b, 6, none⟩ = some v6 := by
  simp [World.cell?, h]
theorem isEx_any (c : Int) (w : World) : Calls Try.prog 57 #[.int .i64 c] w fun e w' => e = .returned (.bool (isEx c)) ∧ w' = w := by
  unfold isEx
  cases h1 : decide (1 ≤ c) with
  | true =>
    go_enter Try.func57, Try.ntmps57
    go_wp2_with fail
    go_ret
    exact ⟨rfl, rfl⟩
  | false =>
    go_enter Try.func57, Try.ntmps57
    go_wp2_with fail
    go_ret
    exact ⟨rfl, rfl⟩
set_option maxRecDepth 100000 in
set_option maxHeartbeats 2000000 in
theorem allBitsR_any (a : Option Addr) (n c : Nat) (V : List Nat) (w : World) (h : Wds w a n V) : Calls Try.prog 78 #[.slice a n c] w fun e w' => e = .returned (.bool (allB V)) ∧ w' = w := by
  have H := Lib.hid h
  have hln := h.ln
  have hle := h.le
  unfold maxLen at hle
  clear h
  go_enter Try.func78, Try.ntmps78
  go_wp2_with fail
  go_loop [7] (fun i => ∃ k : Nat, k ≤ n ∧ i = .int .i64 k ∧ allB (V.take k) = true) (fun i => n - (intOf i).toNat)
  case atStart => exact ⟨0, Nat.zero_le _, rfl, rfl⟩
  case round =>
    obtain ⟨k, hk, rfl, hz⟩ := hrel
    by_cases hkn : k < n
    · obtain ⟨b, off, rfl, hc⟩ := H.out.row k hkn
      have ht := allB_take V k (by omega)
      have hF := allB_false (V := V) (k := k) (by omega)
      rw [hz, Bool.true_and] at ht
      generalize V.getD k 0 = v at hc ht hF
      have HT := Lib.hid ht
      have HF := Lib.hid hF
      clear hz ht hF
      have d0 : (k : Int) < (n : Int) := by omega
      by_cases hv : v ≤ 1
      · have d1 : decide ((1 : Int) < (v : Int)) = false := by simp; omega
        go_wp2_with fail
        go_round
        case rel => exact ⟨k + 1, by omega, by go_num, by rw [HT.out]; simpa using hv⟩
        case measure => simp [intOf]; omega
      · have d1 : decide ((1 : Int) < (v : Int)) = true := by simp; omega
        go_wp2_with fail
        go_ret
        exact ⟨by rw [HF.out hv]; rfl, rfl⟩
    · have hk' : k = n := by omega
      subst hk'
      rw [List.take_of_length_le (by omega)] at hz
      have HZ := Lib.hid hz
      clear hz
      go_wp2_with fail
      go_ret
      exact ⟨by rw [HZ.out]; rfl, rfl⟩
theorem alloc_bq (w : World) (o : Obj) : Below w.heap.size w (w.alloc o) := (Below.refl _ _).alloc (Nat.le_refl _) _
def st7 (w : World) (g : Nat) (a b c d e f h : Value) : World := ((((((w.setCell ⟨g, 0, none⟩ a).setCell ⟨g, 1, none⟩ b).setCell ⟨g, 2, none⟩ c).setCell ⟨g, 3, none⟩ d).setCell ⟨g, 4, none⟩ e).setCell ⟨g, 5, none⟩ f).setCell ⟨g, 6, none⟩ h
theorem set_blockq {w : World} {g : Nat} {cs : Array Value} {t : TypeId} (h : w.heap[g]? = some (.cells cs t (0, 0))) (i : Nat) (u : Value) : (w.setCell ⟨g, i, none⟩ u).heap[g]? = some (.cells (cs.setIfInBounds i u) t (0, 0)) := by
  simp [World.setCell, Array.getElem?_modify, h]
theorem st7_block {w : World} {g : Nat} {t : TypeId} {v0 v1 v2 v3 v4 v5 v6 : Value} (hb : w.heap[g]? = some (.cells #[v0, v1, v2, v3, v4, v5, v6] t (0, 0))) (a b c d e f h : Value) : (st7 w g a b c d e f h).heap[g]? = some (.cells #[a, b, c, d, e, f, h] t (0, 0)) := by
  have q := set_blockq (set_blockq (set_blockq (set_blockq (set_blockq (set_blockq (set_blockq hb 0 a) 1 b) 2 c) 3 d) 4 e) 5 f) 6 h
  simpa [st7] using q
theorem st7_below {w0 w : World} {B g : Nat} (hh : Below B w0 w) (hg : B ≤ g) (a b c d e f h : Value) : Below B w0 (st7 w g a b c d e f h) :=
  ((((((hh.setCell (p := ⟨g, 0, none⟩) hg _).setCell (p := ⟨g, 1, none⟩) hg _).setCell (p := ⟨g, 2, none⟩) hg _).setCell (p := ⟨g, 3, none⟩) hg _).setCell (p := ⟨g, 4, none⟩) hg _).setCell (p := ⟨g, 5, none⟩) hg _).setCell (p := ⟨g, 6, none⟩) hg _
def OfP (w : World) (r : Rq) (e : Ending) (w' : World) : Prop := e = .returned (.tuple #[av r (fo r.fc).rd ((fo r.fc).rd && (fo r.fc).bi), .bool (rightR r)]) ∧ Below w.heap.size w w'
set_option maxRecDepth 100000 in
set_option maxHeartbeats 4000000 in
theorem of_any (r : Rq) (w : World) (hr : r.ok w) : Calls Try.prog 58 #[rv r] w (OfP w r) := by
  obtain ⟨P, hP⟩ : ∃ P, P = (OfP w r : Ending → World → Prop) := ⟨_, rfl⟩
  rw [← hP]
  have HP := Lib.hid hP
  have HR := Lib.hid hr
  obtain ⟨rd, hrd⟩ : ∃ b, b = (fo r.fc).rd := ⟨_, rfl⟩
  obtain ⟨bi, hbi⟩ : ∃ b, b = ((fo r.fc).rd && (fo r.fc).bi) := ⟨_, rfl⟩
  obtain ⟨ri, hri⟩ : ∃ b, b = rightR r := ⟨_, rfl⟩
  have HRD := Lib.hid hrd
  have HBI := Lib.hid hbi
  have HRI := Lib.hid hri
  clear hP hr hrd hbi hri
  obtain ⟨fc, ad, q, vs, vn, vc, V, rto⟩ := r
  simp only [rv]
  have RR := Lib.hid (fun W => reads_any fc W HR.out.fc)
  rw [← HBI.out, ← HRD.out] at RR
  go_enter Try.func58, Try.ntmps58
  go_wp2_with fail
  refine (RR.out _).mono ?_
  rintro e w1 ⟨rfl, z1⟩
  have k1 := alloc_bq w (.cells #[.int .i64 fc, .int .i64 ad, .int .i64 q, .slice vs vn vc, .int .i64 rto] 32 (0, 0))
  have k2 := alloc_bq (w.alloc (.cells #[.int .i64 fc, .int .i64 ad, .int .i64 q, .slice vs vn vc, .int .i64 rto] 32 (0, 0))) (.cells #[.int .i64 0, .int .i64 0, .int .i64 0, .slice none 0 0, .int .i64 0, .bool false, .bool false] 87 (0, 0))
  have hx := low_of z1 (low_of k2 (heap_alloc_new w (.cells #[.int .i64 fc, .int .i64 ad, .int .i64 q, .slice vs vn vc, .int .i64 rto] 32 (0, 0))))
  have hy := low_of z1 (heap_alloc_new (w.alloc (.cells #[.int .i64 fc, .int .i64 ad, .int .i64 q, .slice vs vn vc, .int .i64 rto] 32 (0, 0))) (.cells #[.int .i64 0, .int .i64 0, .int .i64 0, .slice none 0 0, .int .i64 0, .bool false, .bool false] 87 (0, 0)))
  rw [World.size_alloc] at hy
  have bw := (k1.trans (k2.mono k1.size)).trans (z1.mono (k1.trans (k2.mono k1.size)).size)
  have BW := Lib.hid bw
  have HX := Lib.hid (fun w' (h : Gd w1 w') => cells5 (low_of h hx))
  have HY := Lib.hid (fun w' (h : Gd w1 w') => low_of h hy)
  have RI : Hid (∀ W, Gd w1 W → Calls Try.prog 34 #[.agg #[.int .i64 fc, .int .i64 ad, .int .i64 q, .slice vs vn vc, .int .i64 rto]] W (fun e w5 => e = .returned (.bool ri) ∧ Below W.heap.size W w5)) := Lib.hid (by
    intro W h
    have := right_any ⟨fc, ad, q, vs, vn, vc, V, rto⟩ W ((HR.out.below bw).below h)
    rw [← HRI.out] at this
    exact this)
  have g0 : Gd w1 w1.drew := (Below.refl _ _).drew
  have s0 := HX.out _ g0
  have hn1 : ¬ w.heap.size = w.heap.size + 1 := by omega
  have hn2 : ¬ w.heap.size + 1 = w.heap.size := by omega
  clear k1 k2 hx hy bw z1 RR
  go_wp2_with fail
  obtain ⟨p0, p1, p2, p3, p4⟩ := s0
  have r0 := RI.out _ g0
  go_region_with (first
    | (go_at_call 34; refine r0.mono ?_; rintro e w5 ⟨rfl, z5⟩; have q5 : Gd w1 w5 := Gd.step g0 z5; obtain ⟨p0, p1, p2, p3, p4⟩ := HX.out w5 q5; have ky := HY.out w5 q5; obtain ⟨y0, y1, y2, y3, y4, y5, y6⟩ := cells7 ky; have f0 := froz (i := 0) ky; have f1 := froz (i := 1) ky; have f2 := froz (i := 2) ky; have f3 := froz (i := 3) ky; have f4 := froz (i := 4) ky; have f5 := froz (i := 5) ky; have f6 := froz (i := 6) ky; have KY := Lib.hid ky; clear ky z5))
  all_goals
    have hF := Lib.hid (st7_block KY.out (.int .i64 fc) (.int .i64 ad) (.int .i64 q) (.slice vs vn vc) (.int .i64 rto) (.bool rd) (.bool bi))
    have hB := Lib.hid (st7_below (BW.out.trans (Below.mono q5 BW.out.size)) (Nat.le_succ _) (.int .i64 fc) (.int .i64 ad) (.int .i64 q) (.slice vs vn vc) (.int .i64 rto) (.bool rd) (.bool bi))
    go_wp2_with fail
    show bodyPost Try.prog Try.f58 _ Exit.ret _ (st7 w5 (w.heap.size + 1) (.int .i64 fc) (.int .i64 ad) (.int .i64 q) (.slice vs vn vc) (.int .i64 rto) (.bool rd) (.bool bi))
    have hF := hF.out
    have hB := hB.out
    generalize st7 w5 (w.heap.size + 1) (.int .i64 fc) (.int .i64 ad) (.int .i64 q) (.slice vs vn vc) (.int .i64 rto) (.bool rd) (.bool bi) = wF at hF hB ⊢
    obtain ⟨e0, e1, e2, e3, e4, e5, e6⟩ := cells7 hF
    refine bodyPost_ret (v := .tuple #[.agg #[.int .i64 fc, .int .i64 ad, .int .i64 q, .slice vs vn vc, .int .i64 rto, .bool rd, .bool bi], .bool ri]) (by simp [results, Try.results58, go_sem, e0, e1, e2, e3, e4, e5, e6]) rfl ?_
    rw [HP.out]
    exact ⟨by rw [← HBI.out, ← HRD.out, ← HRI.out]; rfl, hB⟩
end Go.Proofs.Ytdolgpogjnfpkaa
