/- What a request's bytes are: plain data. -/
import Derived.Test.YtdolgpogjnfpkaaSv5
import Derived.Deep.RegionWith
namespace Go.Proofs.Ytdolgpogjnfpkaa
set_option linter.unusedVariables false
set_option linter.unusedSimpArgs false
open Go.ChangeShapes Go.WideShapes Go.ChangeAt Go.RowKit

theorem wb_by1 {x : Nat} (h : x < 65536) : ∀ b ∈ wb [x], b < 256 := wb_by (by simpa using h)
theorem putN_by {f : Fo} {fc ad q tt : Nat} {V : List Nat} (hfc : fc < 256) (had : ad < 65536) (hq : q < 65536) (hto : tt < 65536) (hV : ∀ v ∈ V, v < 65536) (hl : V.length < 65536) (h1 : f.co = true → f.bi = true → (bits V).length < 256) (h2 : f.co = true → ¬ f.bi = true → (wb V).length < 256) (h3 : f.co = false → f.bi = true → 0 < f.mo → V.getD 0 0 ≤ 1) : ∀ b ∈ putN f fc ad q tt V, b < 256 := by
  have ha : ∀ (A B : List Nat), (∀ b ∈ A, b < 256) → (∀ b ∈ B, b < 256) → ∀ b ∈ A ++ B, b < 256 := fun A B hA hB b hb => (List.mem_append.1 hb).elim (hA b) (hB b)
  unfold putN
  refine ha _ _ (ha _ _ (ha _ _ (ha _ _ (by simpa using hfc) (wb_by1 had)) ?_) ?_) ?_
  · split
    · exact wb_by1 hq
    · simp
  · split
    · exact wb_by (by simp; omega)
    · simp
  · split
    · rename_i h
      intro b hb
      rcases List.mem_cons.1 hb with rfl | hb
      · exact h1 h.1 h.2
      · exact bits_by V b hb
    · rename_i h
      split
      · rename_i hc
        intro b hb
        rcases List.mem_cons.1 hb with rfl | hb
        · exact h2 hc (fun e => h ⟨hc, e⟩)
        · exact wb_by hV b hb
      · rename_i hc
        split
        · rename_i hb
          exact wb_by1 (by have := h3 (by simpa using hc) hb.1 hb.2; omega)
        · exact wb_by hV
theorem formOf_co {k : Int} {f : Fo} (hk : formOf k = some f) : f.co = true → ¬ f.bi = true → f.mo ≤ 123 := by
  unfold formOf at hk
  repeat' split at hk
  all_goals first | (cases hk; done) | (injection hk with hk; subst hk; decide)
theorem formOf_coil {k : Int} {f : Fo} (hk : formOf k = some f) : f.co = false → f.bi = true → 0 < f.mo → 1 ≤ f.le := by
  unfold formOf at hk
  repeat' split at hk
  all_goals first | (cases hk; done) | (injection hk with hk; subst hk; decide)
theorem put_by {k : Int} {f : Fo} (hk : formOf k = some f) {r : Rq} {w : World} (hr : r.ok w) (hh : has f r = true) (hf0 : 0 ≤ r.fc) (hf1 : r.fc < 256) : ∀ b ∈ putR f r, b < 256 := by
  obtain ⟨h1, h2, h3, h4, h5, h6, h7, h8, h9⟩ := (has_iff f r).1 hh
  rw [isPl_iff] at h1 h2
  have hsm := formOf_small hk
  have hq := hsm.q
  have hmo := hsm.mo
  have hV := hr.arg.row.by'
  refine putN_by (by omega) (by omega) (by omega) (by omega) hV (by omega) (fun ha hb => ?_) (fun ha hb => ?_) (fun ha hb hc => ?_)
  · rw [bits_len]
    omega
  · rw [wb_len]
    have : f.mo ≤ 123 := formOf_co hk ha hb
    omega
  · have h := h9 hb
    have hle : 1 ≤ f.le := formOf_coil hk ha hb hc
    unfold allB at h
    rw [List.all_eq_true] at h
    have hl : 0 < r.V.length := by omega
    have := h r.V[0] (List.getElem_mem hl)
    simpa [List.getD, List.getElem?_eq_getElem hl] using this
theorem wb_cons (x : Nat) (V : List Nat) : wb (x :: V) = wb [x] ++ wb V := by simp [wb]
theorem unb_bits (V : List Nat) (h : allB V = true) : unb (bits V) V.length = V := by
  unfold allB at h
  rw [List.all_eq_true] at h
  apply List.ext_getElem
  · rw [unb_len]
  · intro i h1 h2
    have hb := bt_bits V i h2
    have hv := h V[i] (List.getElem_mem h2)
    have hv : V[i] ≤ 1 := by simpa using hv
    have e : (unb (bits V) V.length)[i] = bt (bits V) i := by simp [unb]
    rw [e, hb]
    simp only [List.getD, List.getElem?_eq_getElem h2, Option.getD_some, bit]
    split <;> omega
/-- The parts of what is put. -/
theorem put_head (f : Fo) (fc ad q tt : Nat) (V : List Nat) : (putN f fc ad q tt V).getD 0 0 = fc ∧ putN f fc ad q tt V ≠ [] := by
  unfold putN
  constructor
  · simp
  · simp
structure Fit (f : Fo) (q tt : Nat) (V : List Nat) : Prop where
  to0 : f.to = true ∨ tt = 0
  qle : q ≤ f.q
  qge : min f.q 1 ≤ q
  vle : f.le ≤ V.length
  vmo : V.length ≤ f.mo
  siz : sizedF f = true → V.length = q
  bi : f.bi = true → allB V = true
theorem fit_of {f : Fo} {r : Rq} (hh : has f r = true) : Fit f r.q.toNat r.to.toNat r.V ∧ 0 ≤ r.ad ∧ r.ad < 65536 ∧ 0 ≤ r.to ∧ r.to < 65536 ∧ 0 ≤ r.q := by
  obtain ⟨h1, h2, h3, h4, h5, h6, h7, h8, h9⟩ := (has_iff f r).1 hh
  rw [isPl_iff] at h1 h2
  refine ⟨⟨?_, by omega, by omega, h6, h7, fun e => by have := h8 e; omega, h9⟩, h1.1, h1.2, h2.1, h2.2, by omega⟩
  rcases h3 with h3 | h3
  · exact .inl h3
  · exact .inr (by omega)
theorem allB_getD {V : List Nat} (h : allB V = true) (i : Nat) : V.getD i 0 ≤ 1 := by
  unfold allB at h
  rw [List.all_eq_true] at h
  by_cases hi : i < V.length
  · have := h V[i] (List.getElem_mem hi)
    simpa [List.getD, List.getElem?_eq_getElem hi] using this
  · simp [List.getD, List.getElem?_eq_none (Nat.not_lt.1 hi)]
/-- How long what is put is, by its own bytes. -/
def lenF (f : Fo) (L : List Nat) : Nat :=
  if f.co = true then (if f.to = true then 10 + L.getD 9 0 else 6 + L.getD 5 0) else 3 + (if 0 < f.q then 2 else 0) + 2 * f.mo
theorem put_lenF {k : Int} {f : Fo} (hk : formOf k = some f) {fc ad q tt : Nat} {V : List Nat} (hf : Fit f q tt V) : (putN f fc ad q tt V).length = lenF f (putN f fc ad q tt V) ∧ (putN f fc ad q tt V).length ≤ 253 ∧ (f.co = true → 6 ≤ (putN f fc ad q tt V).length) ∧ (f.to = true → 10 ≤ (putN f fc ad q tt V).length) := by
  obtain ⟨h3, h4, h5, h6, h7, h8, h9⟩ := hf
  unfold formOf at hk
  repeat' split at hk
  all_goals first | (cases hk; done) | (injection hk with hk; subst hk; simp only at h3 h4 h5 h6 h7 h8 h9)
  · simp [putN, lenF, wb_one, wb_cons tt [V.length], wb_len]; omega
  · have hl : V.length = 2 := by omega
    simp [putN, lenF, wb_one, wb_len, hl]
  · simp [putN, lenF, wb_one, wb_len]; omega
  · simp [putN, lenF, wb_one, bits_len]; omega
  · have hl : V.length = 1 := by omega
    simp [putN, lenF, wb_one, wb_len, hl]
  · simp [putN, lenF, wb_one]
  all_goals
    have hl : V = [] := List.eq_nil_of_length_eq_zero (by omega)
    subst hl
    simp [putN, lenF, wb_one]
    try (simp [wb])
/-- Right requests and their bytes. -/
structure Rt (r : Rq) (f : Fo) (L : List Nat) : Prop where
  k : formOf r.fc = some f
  hh : has f r = true
  hf : fits f r = true
  e : L = putR f r
theorem rt_of {r : Rq} (h : rightR r = true) : Rt r (fo r.fc) (putR (fo r.fc) r) := by
  unfold rightR at h
  simp only [Bool.and_eq_true] at h
  exact ⟨fo_some h.1.symm, h.2.1, h.2.2, rfl⟩
theorem fc_of {r : Rq} {f : Fo} (h : formOf r.fc = some f) : 0 ≤ r.fc ∧ r.fc < 256 ∧ ((r.fc.toNat : Nat) : Int) = r.fc := by
  have := formOf_range h
  omega
theorem Rt.head {r : Rq} {f : Fo} {L : List Nat} (h : Rt r f L) : L ≠ [] ∧ ((L.getD 0 0 : Nat) : Int) = r.fc := by
  have := put_head f r.fc.toNat r.ad.toNat r.q.toNat r.to.toNat r.V
  have h1 := fc_of h.k
  rw [h.e]
  unfold putR
  rw [this.1]
  exact ⟨this.2, h1.2.2⟩
theorem Rt.len {r : Rq} {f : Fo} {L : List Nat} (h : Rt r f L) : L.length = lenF f L ∧ L.length ≤ 253 ∧ (f.co = true → 6 ≤ L.length) ∧ (f.to = true → 10 ≤ L.length) := by
  have := put_lenF h.k (fc := r.fc.toNat) (ad := r.ad.toNat) (fit_of h.hh).1
  rw [h.e]
  exact this
end Go.Proofs.Ytdolgpogjnfpkaa
/- Answers: plain data; what is asked for. -/
namespace Go.Proofs.Ytdolgpogjnfpkaa
set_option linter.unusedVariables false
set_option linter.unusedSimpArgs false
open Go.ChangeShapes Go.WideShapes Go.ChangeAt Go.RowKit

structure Rp where
  code : Int
  vs : Option Addr
  vn : Nat
  vc : Nat
  V : List Nat
def rpv (p : Rp) : Value := .agg #[.int .i64 p.code, .slice p.vs p.vn p.vc]
structure Rp.ok (p : Rp) (w : World) : Prop where
  arg : ArgW w p.vs p.vn p.vc p.V
  code : (Lit.int .i64 p.code).wf = true
theorem Rp.ok.below {p : Rp} {W w : World} (h : p.ok W) (hb : Below W.heap.size W w) : p.ok w := ⟨h.arg.below hb, h.code⟩
def isEx (c : Int) : Bool := decide (1 ≤ c) && decide (c ≤ 4)
def mayB (q : Int) (rd bi : Bool) (code : Int) (V : List Nat) : Bool :=
  if code ≠ 0 ∨ rd = false then decide (V.length = 0) && (decide (code = 0) || isEx code) else decide ((V.length : Int) = q) && (!bi || allB V)
def av (r : Rq) (rd bi : Bool) : Value := .agg #[.int .i64 r.fc, .int .i64 r.ad, .int .i64 r.q, .slice r.vs r.vn r.vc, .int .i64 r.to, .bool rd, .bool bi]
theorem cells7 {w : World} {b : Nat} {t : TypeId} {v0 v1 v2 v3 v4 v5 v6 : Value} (h : w.heap[b]? = some (.cells #[v0, v1, v2, v3, v4, v5, v6] t (0, 0))) :
    w.cell? ⟨b, 0, none⟩ = some v0 ∧ w.cell? ⟨b, 1, none⟩ = some v1 ∧ w.cell? ⟨b, 2, none⟩ = some v2 ∧ w.cell? ⟨b, 3, none⟩ = some v3 ∧ w.cell? ⟨b, 4, none⟩ = some v4 ∧ w.cell? ⟨b, 5, none⟩ = some v5 ∧ w.cell? ⟨b, 6, none⟩ = some v6 := by
  simp [World.cell?, h]
theorem isEx_any (c : Int) (w : World) : Calls Try.prog 57 #[.int .i64 c] w fun e w' => e = .returned (.bool (isEx c)) ∧ w' = w := by
  unfold isEx
  cases h1 : decide (1 ≤ c) with
  | true =>
    go_enter Try.func57, Try.ntmps57
    go_wp2_with fail
    go_ret
    exact ⟨rfl, rfl⟩
  | false =>
    go_enter Try.func57, Try.ntmps57
    go_wp2_with fail
    go_ret
    exact ⟨rfl, rfl⟩
set_option maxRecDepth 100000 in
set_option maxHeartbeats 2000000 in
theorem allBitsR_any (a : Option Addr) (n c : Nat) (V : List Nat) (w : World) (h : Wds w a n V) : Calls Try.prog 78 #[.slice a n c] w fun e w' => e = .returned (.bool (allB V)) ∧ w' = w := by
  have H := Lib.hid h
  have hln := h.ln
  have hle := h.le
  unfold maxLen at hle
  clear h
  go_enter Try.func78, Try.ntmps78
  go_wp2_with fail
  go_loop [7] (fun i => ∃ k : Nat, k ≤ n ∧ i = .int .i64 k ∧ allB (V.take k) = true) (fun i => n - (intOf i).toNat)
  case atStart => exact ⟨0, Nat.zero_le _, rfl, rfl⟩
  case round =>
    obtain ⟨k, hk, rfl, hz⟩ := hrel
    by_cases hkn : k < n
    · obtain ⟨b, off, rfl, hc⟩ := H.out.row k hkn
      have ht := allB_take V k (by omega)
      have hF := allB_false (V := V) (k := k) (by omega)
      rw [hz, Bool.true_and] at ht
      generalize V.getD k 0 = v at hc ht hF
      have HT := Lib.hid ht
      have HF := Lib.hid hF
      clear hz ht hF
      have d0 : (k : Int) < (n : Int) := by omega
      by_cases hv : v ≤ 1
      · have d1 : decide ((1 : Int) < (v : Int)) = false := by simp; omega
        go_wp2_with fail
        go_round
        case rel => exact ⟨k + 1, by omega, by go_num, by rw [HT.out]; simpa using hv⟩
        case measure => simp [intOf]; omega
      · have d1 : decide ((1 : Int) < (v : Int)) = true := by simp; omega
        go_wp2_with fail
        go_ret
        exact ⟨by rw [HF.out hv]; rfl, rfl⟩
    · have hk' : k = n := by omega
      subst hk'
      rw [List.take_of_length_le (by omega)] at hz
      have HZ := Lib.hid hz
      clear hz
      go_wp2_with fail
      go_ret
      exact ⟨by rw [HZ.out]; rfl, rfl⟩
theorem alloc_bq (w : World) (o : Obj) : Below w.heap.size w (w.alloc o) := (Below.refl _ _).alloc (Nat.le_refl _) _
def st7 (w : World) (g : Nat) (a b c d e f h : Value) : World := ((((((w.setCell ⟨g, 0, none⟩ a).setCell ⟨g, 1, none⟩ b).setCell ⟨g, 2, none⟩ c).setCell ⟨g, 3, none⟩ d).setCell ⟨g, 4, none⟩ e).setCell ⟨g, 5, none⟩ f).setCell ⟨g, 6, none⟩ h
theorem set_blockq {w : World} {g : Nat} {cs : Array Value} {t : TypeId} (h : w.heap[g]? = some (.cells cs t (0, 0))) (i : Nat) (u : Value) : (w.setCell ⟨g, i, none⟩ u).heap[g]? = some (.cells (cs.setIfInBounds i u) t (0, 0)) := by
  simp [World.setCell, Array.getElem?_modify, h]
theorem st7_block {w : World} {g : Nat} {t : TypeId} {v0 v1 v2 v3 v4 v5 v6 : Value} (hb : w.heap[g]? = some (.cells #[v0, v1, v2, v3, v4, v5, v6] t (0, 0))) (a b c d e f h : Value) : (st7 w g a b c d e f h).heap[g]? = some (.cells #[a, b, c, d, e, f, h] t (0, 0)) := by
  have q := set_blockq (set_blockq (set_blockq (set_blockq (set_blockq (set_blockq (set_blockq hb 0 a) 1 b) 2 c) 3 d) 4 e) 5 f) 6 h
  simpa [st7] using q
theorem st7_below {w0 w : World} {B g : Nat} (hh : Below B w0 w) (hg : B ≤ g) (a b c d e f h : Value) : Below B w0 (st7 w g a b c d e f h) :=
  ((((((hh.setCell (p := ⟨g, 0, none⟩) hg _).setCell (p := ⟨g, 1, none⟩) hg _).setCell (p := ⟨g, 2, none⟩) hg _).setCell (p := ⟨g, 3, none⟩) hg _).setCell (p := ⟨g, 4, none⟩) hg _).setCell (p := ⟨g, 5, none⟩) hg _).setCell (p := ⟨g, 6, none⟩) hg _
def OfP (w : World) (r : Rq) (e : Ending) (w' : World) : Prop := e = .returned (.tuple #[av r (fo r.fc).rd ((fo r.fc).rd && (fo r.fc).bi), .bool (rightR r)]) ∧ Below w.heap.size w w'
set_option maxRecDepth 100000 in
set_option maxHeartbeats 4000000 in
theorem of_any (r : Rq) (w : World) (hr : r.ok w) : Calls Try.prog 58 #[rv r] w (OfP w r) := by
  obtain ⟨P, hP⟩ : ∃ P, P = (OfP w r : Ending → World → Prop) := ⟨_, rfl⟩
  rw [← hP]
  have HP := Lib.hid hP
  have HR := Lib.hid hr
  obtain ⟨rd, hrd⟩ : ∃ b, b = (fo r.fc).rd := ⟨_, rfl⟩
  obtain ⟨bi, hbi⟩ : ∃ b, b = ((fo r.fc).rd && (fo r.fc).bi) := ⟨_, rfl⟩
  obtain ⟨ri, hri⟩ : ∃ b, b = rightR r := ⟨_, rfl⟩
  have HRD := Lib.hid hrd
  have HBI := Lib.hid hbi
  have HRI := Lib.hid hri
  clear hP hr hrd hbi hri
  obtain ⟨fc, ad, q, vs, vn, vc, V, rto⟩ := r
  simp only [rv]
  have RR := Lib.hid (fun W => reads_any fc W HR.out.fc)
  rw [← HBI.out, ← HRD.out] at RR
  go_enter Try.func58, Try.ntmps58
  go_wp2_with fail
  refine (RR.out _).mono ?_
  rintro e w1 ⟨rfl, z1⟩
  have k1 := alloc_bq w (.cells #[.int .i64 fc, .int .i64 ad, .int .i64 q, .slice vs vn vc, .int .i64 rto] 32 (0, 0))
  have k2 := alloc_bq (w.alloc (.cells #[.int .i64 fc, .int .i64 ad, .int .i64 q, .slice vs vn vc, .int .i64 rto] 32 (0, 0))) (.cells #[.int .i64 0, .int .i64 0, .int .i64 0, .slice none 0 0, .int .i64 0, .bool false, .bool false] 87 (0, 0))
  have hx := low_of z1 (low_of k2 (heap_alloc_new w (.cells #[.int .i64 fc, .int .i64 ad, .int .i64 q, .slice vs vn vc, .int .i64 rto] 32 (0, 0))))
  have hy := low_of z1 (heap_alloc_new (w.alloc (.cells #[.int .i64 fc, .int .i64 ad, .int .i64 q, .slice vs vn vc, .int .i64 rto] 32 (0, 0))) (.cells #[.int .i64 0, .int .i64 0, .int .i64 0, .slice none 0 0, .int .i64 0, .bool false, .bool false] 87 (0, 0)))
  rw [World.size_alloc] at hy
  have bw := (k1.trans (k2.mono k1.size)).trans (z1.mono (k1.trans (k2.mono k1.size)).size)
  have BW := Lib.hid bw
  have HX := Lib.hid (fun w' (h : Gd w1 w') => cells5 (low_of h hx))
  have HY := Lib.hid (fun w' (h : Gd w1 w') => low_of h hy)
  have RI : Hid (∀ W, Gd w1 W → Calls Try.prog 34 #[.agg #[.int .i64 fc, .int .i64 ad, .int .i64 q, .slice vs vn vc, .int .i64 rto]] W (fun e w5 => e = .returned (.bool ri) ∧ Below W.heap.size W w5)) := Lib.hid (by
    intro W h
    have := right_any ⟨fc, ad, q, vs, vn, vc, V, rto⟩ W ((HR.out.below bw).below h)
    rw [← HRI.out] at this
    exact this)
  have g0 : Gd w1 w1.drew := (Below.refl _ _).drew
  have s0 := HX.out _ g0
  have hn1 : ¬ w.heap.size = w.heap.size + 1 := by omega
  have hn2 : ¬ w.heap.size + 1 = w.heap.size := by omega
  clear k1 k2 hx hy bw z1 RR
  go_wp2_with fail
  obtain ⟨p0, p1, p2, p3, p4⟩ := s0
  have r0 := RI.out _ g0
  go_region_with (first
    | (go_at_call 34; refine r0.mono ?_; rintro e w5 ⟨rfl, z5⟩; have q5 : Gd w1 w5 := Gd.step g0 z5; obtain ⟨p0, p1, p2, p3, p4⟩ := HX.out w5 q5; have ky := HY.out w5 q5; obtain ⟨y0, y1, y2, y3, y4, y5, y6⟩ := cells7 ky; have f0 := froz (i := 0) ky; have f1 := froz (i := 1) ky; have f2 := froz (i := 2) ky; have f3 := froz (i := 3) ky; have f4 := froz (i := 4) ky; have f5 := froz (i := 5) ky; have f6 := froz (i := 6) ky; have KY := Lib.hid ky; clear ky z5))
  all_goals
    have hF := Lib.hid (st7_block KY.out (.int .i64 fc) (.int .i64 ad) (.int .i64 q) (.slice vs vn vc) (.int .i64 rto) (.bool rd) (.bool bi))
    have hB := Lib.hid (st7_below (BW.out.trans (Below.mono q5 BW.out.size)) (Nat.le_succ _) (.int .i64 fc) (.int .i64 ad) (.int .i64 q) (.slice vs vn vc) (.int .i64 rto) (.bool rd) (.bool bi))
    go_wp2_with fail
    show bodyPost Try.prog Try.f58 _ Exit.ret _ (st7 w5 (w.heap.size + 1) (.int .i64 fc) (.int .i64 ad) (.int .i64 q) (.slice vs vn vc) (.int .i64 rto) (.bool rd) (.bool bi))
    have hF := hF.out
    have hB := hB.out
    generalize st7 w5 (w.heap.size + 1) (.int .i64 fc) (.int .i64 ad) (.int .i64 q) (.slice vs vn vc) (.int .i64 rto) (.bool rd) (.bool bi) = wF at hF hB ⊢
    obtain ⟨e0, e1, e2, e3, e4, e5, e6⟩ := cells7 hF
    refine bodyPost_ret (v := .tuple #[.agg #[.int .i64 fc, .int .i64 ad, .int .i64 q, .slice vs vn vc, .int .i64 rto, .bool rd, .bool bi], .bool ri]) (by simp [results, Try.results58, go_sem, e0, e1, e2, e3, e4, e5, e6]) rfl ?_
    rw [HP.out]
    exact ⟨by rw [← HBI.out, ← HRD.out, ← HRI.out]; rfl, hB⟩
end Go.Proofs.Ytdolgpogjnfpkaa
/- May, counted, wordBytes. -/
namespace Go.Proofs.Ytdolgpogjnfpkaa
set_option linter.unusedVariables false
set_option linter.unusedSimpArgs false
open Go.ChangeShapes Go.WideShapes Go.ChangeAt Go.RowKit

def BoolB (w : World) (b : Bool) (e : Ending) (w' : World) : Prop := e = .returned (.bool b) ∧ Below w.heap.size w w'
set_option maxRecDepth 100000 in
set_option maxHeartbeats 4000000 in
theorem may_any (r : Rq) (rd bi : Bool) (p : Rp) (w : World) (hr : r.ok w) (hp : p.ok w) : Calls Try.prog 59 #[av r rd bi, rpv p] w (BoolB w (mayB r.q rd bi p.code p.V)) := by
  obtain ⟨P, hP⟩ : ∃ P, P = (BoolB w (mayB r.q rd bi p.code p.V) : Ending → World → Prop) := ⟨_, rfl⟩
  rw [← hP]
  have HP := Lib.hid hP
  have hln := hp.arg.row.ln
  have hle := hp.arg.row.le
  unfold maxLen at hle
  have HR := Lib.hid hp.arg.row
  clear hP hr hp
  obtain ⟨fc, ad, q, vs, vn, vc, V, rto⟩ := r
  obtain ⟨code, us, un, uc, U⟩ := p
  simp only [av, rpv]
  simp only at hln hle HP HR
  have b0 : Below w.heap.size w ((w.alloc (.cells #[.int .i64 fc, .int .i64 ad, .int .i64 q, .slice vs vn vc, .int .i64 rto, .bool rd, .bool bi] 87 (0, 0))).alloc (.cells #[.int .i64 code, .slice us un uc] 40 (0, 0))) := (alloc_bq _ _).trans ((alloc_bq _ _).mono (by simp))
  have B0 := Lib.hid b0
  have HRW := Lib.hid (HR.out.below b0)
  clear b0
  by_cases hc : code = 0
  · subst hc
    cases rd with
    | false =>
      by_cases hu : un = 0
      · have t1 : ((un : Int) == 0) = true := by simp; omega
        have hm : mayB q false bi 0 U = true := by unfold mayB; rw [if_pos (.inr rfl)]; simp; exact List.eq_nil_of_length_eq_zero (by omega)
        have HM := Lib.hid hm
        clear hm hu
        go_enter Try.func59, Try.ntmps59
        go_wp2_with fail
        rw [HP.out]
        exact ⟨by rw [HM.out]; rfl, B0.out⟩
      · have t1 : ((un : Int) == 0) = false := by simp; omega
        have hm : mayB q false bi 0 U = false := by unfold mayB; rw [if_pos (.inr rfl)]; simp; intro e; rw [e] at hln; simp at hln; omega
        have HM := Lib.hid hm
        clear hm hu
        go_enter Try.func59, Try.ntmps59
        go_wp2_with fail
        rw [HP.out]
        exact ⟨by rw [HM.out]; rfl, B0.out⟩
    | true =>
      have hm : mayB q true bi 0 U = (decide ((un : Int) = q) && (!bi || allB U)) := by unfold mayB; rw [if_neg (by simp)]; rw [hln]
      have HM := Lib.hid hm
      clear hm
      by_cases hq : (un : Int) = q
      · have t1 : ((un : Int) == q) = true := by simpa using hq
        have HQ : Hid (decide ((un : Int) = q) = true) := Lib.hid (by simpa using hq)
        clear hq
        cases bi with
        | false =>
          go_enter Try.func59, Try.ntmps59
          go_wp2_with fail
          rw [HP.out]
          exact ⟨by rw [HM.out, HQ.out]; rfl, B0.out⟩
        | true =>
          go_enter Try.func59, Try.ntmps59
          go_wp2_with fail
          refine (allBitsR_any us un uc U _ HRW.out).mono ?_
          rintro e w1 ⟨rfl, rfl⟩
          go_wp2_with fail
          rw [HP.out]
          exact ⟨by rw [HM.out, HQ.out]; simp, B0.out⟩
      · have t1 : ((un : Int) == q) = false := by simpa using hq
        have HQ : Hid (decide ((un : Int) = q) = false) := Lib.hid (by simpa using hq)
        clear hq
        go_enter Try.func59, Try.ntmps59
        go_wp2_with fail
        rw [HP.out]
        exact ⟨by rw [HM.out, HQ.out]; rfl, B0.out⟩
  · have t0 : (code == 0) = false := by simpa using hc
    have t0' : (code != 0) = true := by simpa using hc
    have hm : mayB q rd bi code U = (decide (un = 0) && isEx code) := by unfold mayB; rw [if_pos (.inl hc), hln]; simp [hc]
    have HM := Lib.hid hm
    clear hm hc
    by_cases hu : un = 0
    · have t1 : ((un : Int) == 0) = true := by simp; omega
      have HU : Hid (decide (un = 0) = true) := Lib.hid (by simpa using hu)
      clear hu
      go_enter Try.func59, Try.ntmps59
      go_wp2_with fail
      refine (isEx_any code _).mono ?_
      rintro e w1 ⟨rfl, rfl⟩
      go_wp2_with fail
      rw [HP.out]
      exact ⟨by rw [HM.out, HU.out]; simp, B0.out⟩
    · have t1 : ((un : Int) == 0) = false := by simp; omega
      have HU : Hid (decide (un = 0) = false) := Lib.hid (by simpa using hu)
      clear hu
      go_enter Try.func59, Try.ntmps59
      go_wp2_with fail
      rw [HP.out]
      exact ⟨by rw [HM.out, HU.out]; rfl, B0.out⟩
/-- Bytes of the call's own. -/
def OutP (w : World) (L : List Nat) (e : Ending) (w' : World) : Prop := ∃ v, e = .returned v ∧ OwnV w.heap.size w' v L ∧ Below w.heap.size w w'
set_option maxRecDepth 100000 in
set_option maxHeartbeats 4000000 in
theorem countedR_any (r : Rq) (rd bi : Bool) (a : Option Addr) (n c : Nat) (M : List Nat) (w : World) (h : Bys w a n M) (hnil : a = none → c = 0) (hn : n ≤ 255) (hf : 0 ≤ r.fc ∧ r.fc ≤ 127) :
    Calls Try.prog 79 #[av r rd bi, .slice a n c] w (OutP w (r.fc.toNat :: n :: M)) := by
  obtain ⟨P, hP⟩ : ∃ P, P = (OutP w (r.fc.toNat :: n :: M) : Ending → World → Prop) := ⟨_, rfl⟩
  rw [← hP]
  have HP := Lib.hid hP
  obtain ⟨fc, ad, q, vs, vn, vc, V, rto⟩ := r
  simp only at hf HP
  obtain ⟨fc, rfl⟩ : ∃ k : Nat, fc = (k : Int) := ⟨fc.toNat, by omega⟩
  simp only [av]
  have H := Lib.hid h
  have HN := Lib.hid hnil
  have b0 := alloc_bq w (.cells #[.int .i64 (fc : Int), .int .i64 ad, .int .i64 q, .slice vs vn vc, .int .i64 rto, .bool rd, .bool bi] 87 (0, 0))
  have B0 := Lib.hid b0
  have c1 : IntKind.u8.wrap (fc : Int) = (fc : Int) := by simp [IntKind.wrap, IntKind.bits, IntKind.signed]; omega
  have c2 : IntKind.u8.wrap (n : Int) = (n : Int) := by simp [IntKind.wrap, IntKind.bits, IntKind.signed]; omega
  clear hP h hnil b0
  go_enter Try.func79, Try.ntmps79
  go_wp2_with (at_builtin; refine wpList_append_bys rfl (.tmp 12) (.tmp 13) rfl w.heap.size _ ?hB (.slice (some ⟨w.heap.size + 1, 0, none⟩) 2 2) 2 [fc, n] rfl ?own a n c M rfl ?hby ?nil ?le ?_)
  case hB => simp; omega
  case own =>
    refine ⟨rfl, .inr ⟨w.heap.size + 1, 2, #[.int .u8 (fc : Int), .int .u8 (n : Int)], rfl, Nat.le_succ _, ?_, Nat.le_refl _, by unfold maxLen; omega, rfl, rfl⟩⟩
    have := heap_alloc_new (w.alloc (.cells #[.int .i64 (fc : Int), .int .i64 ad, .int .i64 q, .slice vs vn vc, .int .i64 rto, .bool rd, .bool bi] 87 (0, 0))) (.cells #[.int .u8 (fc : Int), .int .u8 (n : Int)] 5 (0, 0))
    rw [World.size_alloc] at this
    exact this
  case hby => exact (H.out.below B0.out).below (alloc_bq _ _)
  case nil => exact HN.out
  case le => omega
  intro v2 w2 ho2 hg2 _ _
  have hb2 : Below w.heap.size w w2 := (B0.out.alloc B0.out.size _).grown hg2 (by simp; omega) (fun k hk => by simp only [Value.ownBlock, Option.some.injEq] at hk; omega)
  have HF : Hid (OutP w (fc :: n :: M) (.returned v2) w2) := Lib.hid ⟨v2, rfl, by
    unfold OwnV
    rw [show (fc :: n :: M).length = 2 + n by simp [H.out.ln]; omega]
    exact ho2, hb2⟩
  clear ho2 hg2 hb2
  go_wp2_with fail
  rw [HP.out, Int.toNat_natCast]
  exact HF.out
set_option maxRecDepth 100000 in
set_option maxHeartbeats 4000000 in
theorem wordBytes_any (a : Option Addr) (n c : Nat) (V : List Nat) (w : World) (h : Wds w a n V) (hn : n ≤ 10000) :
    Calls Try.prog 80 #[.slice a n c] w (OutP w (wb V)) := by
  have H := Lib.hid h
  have hln := h.ln
  obtain ⟨ti, hi, hz0, hz1, hz2⟩ := info_parts info5
  have mk : (Instr.makeSlice 33 (.int .i64 0) (.int .i64 (2 * (n : Int)))).run Try.prog w = .ok (.slice (some ⟨w.heap.size, 0, none⟩) 0 (2 * n)) (w.alloc (.cells (bv (List.replicate (2 * n) 0)).toArray 5 (0, 0))) := by
    have hr := run_make (P := Try.prog) (w := w) 33 5 ti _ Try.underlying33 hi hz0 .i64 .i64 0 (2 * (n : Int)) (by omega) (by omega) (by rw [hz2]; omega) (by omega)
    rw [hz1] at hr
    have e : (2 * (n : Int)).toNat = 2 * n := by omega
    rw [e] at hr
    rw [hr]
    congr 2
    have := made_zero (2 * n)
    rw [← this]
  have w2n : wrap64 (2 * (n : Int)) = 2 * (n : Int) := by unfold wrap64; omega
  have own0 : OwnV w.heap.size (w.alloc (.cells (bv (List.replicate (2 * n) 0)).toArray 5 (0, 0))) (.slice (some ⟨w.heap.size, 0, none⟩) 0 (2 * n)) [] :=
    ⟨rfl, .inr ⟨w.heap.size, 2 * n, _, rfl, Nat.le_refl _, heap_alloc_new _ _, Nat.zero_le _, by unfold maxLen; omega, by simp [bv], by simp [bv]⟩⟩
  have OWN0 := Lib.hid own0
  obtain ⟨B, hB⟩ : ∃ B, B = w.heap.size := ⟨_, rfl⟩
  have HBQ := Lib.hid hB
  have hB0 : B ≤ w.heap.size := by omega
  clear h own0 hB
  go_enter Try.func80, Try.ntmps80
  go_wp2_with fail
  clear mk w2n
  go_loopw [3, 12] (fun v iv wr => ∃ k : Nat, k ≤ n ∧ iv = .int .i64 k ∧ OwnV B wr v (wb (V.take k)) ∧ Below B w wr ∧ (∀ i, i < n → ∀ b off, a = some ⟨b, off, none⟩ → wr.cell? ⟨b, off + i, none⟩ = some (.int .u16 ((V.getD i 0 : Nat) : Int)) ∧ b < wr.heap.size ∧ ∀ b', v.ownBlock = some b' → b ≠ b')) (fun _ iv _ => n - (intOf iv).toNat)
  case atStart =>
    refine ⟨0, Nat.zero_le _, rfl, by rw [HBQ.out]; simpa [wb] using OWN0.out, by rw [HBQ.out]; exact alloc_bq _ _, fun i hi b off e => ?_⟩
    obtain ⟨b', off', e', hlt, hc⟩ := H.out.pos (by omega)
    rw [e] at e'
    simp only [Option.some.injEq, Addr.mk.injEq, and_true] at e'
    obtain ⟨rfl, rfl⟩ := e'
    refine ⟨((alloc_bq w _).cell (p := ⟨b, off + i, none⟩) hlt).trans (hc i hi), by simp; omega, fun b' hb' => ?_⟩
    simp [Value.ownBlock] at hb'
    omega
  case round =>
    obtain ⟨wo, rfl⟩ : ∃ wo : World, wo = wr := ⟨_, rfl⟩
    obtain ⟨k, hk, rfl, hO, hb, hcc⟩ := hrel
    obtain ⟨wa, wc, rfl⟩ := own_form hO
    by_cases hkn : k < n
    · obtain ⟨b, off, rfl, hbl, hc⟩ := H.out.pos (by omega)
      obtain ⟨hc0, hbo, hbne⟩ := hcc k hkn b off rfl
      have ht := take_snoc' V k (by omega)
      have hv := wgetD_lt H.out.by' k
      generalize V.getD k 0 = v at hc0 ht hv
      have hwl := wb_len (V.take k)
      have htl : (V.take k).length = k := by rw [List.length_take]; omega
      have HT := Lib.hid ht
      have HO2 := Lib.hid hO
      have HBE := Lib.hid hb
      have sw := hb.size
      have d0 : (k : Int) < (n : Int) := by omega
      have hlen : (wb (V.take k)).length ≤ 40000 := by rw [hwl, htl]; omega
      have HLEN := Lib.hid hlen
      clear ht hO hb hc hwl htl hlen
      generalize hM : wb (V.take k) = M at *
      have HM := Lib.hid hM
      obtain ⟨m, hm⟩ : ∃ m, m = M.length := ⟨_, rfl⟩
      have Hm := Lib.hid hm
      have hO3 : wo.ownsRow B 5 1 (.slice wa M.length wc) M.length (bv M) := HO2.out
      rw [← hm] at hO3 hcc ⊢
      have HCC := Lib.hid hcc
      clear hcc
      have HO3 := Lib.hid hO3
      clear hM hm hO3
      go_wp2_with (at_builtin; refine wpList_append_bys rfl (.tmp 16) (.tmp 22) rfl B _ ?hB _ m M rfl ?own (some ⟨wo.heap.size, 0, none⟩) 2 2 [v / 256, v % 256] rfl ?hby ?nil ?le ?_)
      case hB => simp; omega
      case own => exact own_keep (w' := wo.alloc (.cells #[.int .u8 ((v / 256 : Nat) : Int), .int .u8 ((v % 256 : Nat) : Int)] 5 (0, 0))) HO3.out ((Below.refl _ _).alloc (Nat.le_refl _) _)
      case hby =>
        refine bys_block [v / 256, v % 256] (by simp [maxLen]) ?_ ?_ (t := 5) (m := (0, 0))
        · intro b hb
          simp at hb
          omega
        · rw [heap_alloc_new]; simp [bv]
      case nil => intro e; cases e
      case le => have := HLEN.out; have := Hm.out; omega
      intro v' w' ho' hg' _ hob
      have hbA : Below B wo w' := ((Below.refl B wo).alloc (Nat.le_trans hB0 sw) _).grown hg' (by simp; omega) (fun q hq => by
        have := (own_keep (w' := wo.alloc (.cells #[.int .u8 ((v / 256 : Nat) : Int), .int .u8 ((v % 256 : Nat) : Int)] 5 (0, 0))) HO3.out ((Below.refl _ _).alloc (Nat.le_refl _) _)).lt q hq
        exact this.1)
      have hO5 : OwnV B w' v' (wb (V.take (k + 1))) := by
        rw [HT.out, wb_app, wb_one, HM.out]
        have e : (M ++ [v / 256, v % 256]).length = m + 2 := by rw [List.length_append, Hm.out]; rfl
        unfold OwnV
        rw [e]
        exact ho'
      have hcc' : ∀ i, i < n → ∀ b2 off2, some (⟨b, off, none⟩ : Addr) = some ⟨b2, off2, none⟩ → w'.cell? ⟨b2, off2 + i, none⟩ = some (.int .u16 ((V.getD i 0 : Nat) : Int)) ∧ b2 < w'.heap.size ∧ ∀ b', v'.ownBlock = some b' → b2 ≠ b' := by
        intro i hi b2 off2 e
        obtain ⟨q1, q2, q3⟩ := HCC.out i hi b2 off2 e
        refine ⟨?_, Nat.lt_of_lt_of_le q2 hbA.size, fun b' hb' => ?_⟩
        · rw [← q1]
          refine World.cell?_of_block ((hg'.block b2 (by simp; omega) (fun e2 => q3 b2 e2.symm rfl)).trans ?_)
          exact heap_alloc_old _ _ q2
        · rcases hob with hob | hob
          · exact q3 b' (by rw [← hob]; exact hb')
          · rw [hb'] at hob
            simp at hob
            omega
      have O5 := Lib.hid hO5
      have B5 := Lib.hid (HBE.out.trans hbA)
      have C5 := Lib.hid hcc'
      clear hO5 hbA ho' hg' hob hcc' HO2 HO3 HCC
      go_wp2_with fail
      go_roundw
      case rel => exact ⟨k + 1, by omega, by go_num, O5.out, B5.out, C5.out⟩
      case measure => simp [intOf]; omega
    · have hk' : k = n := by omega
      subst hk'
      rw [List.take_of_length_le (by omega)] at hO
      have HF : Hid (OutP w (wb V) (.returned (.slice wa (wb (V.take k)).length wc)) wo) := Lib.hid (by
        refine ⟨_, rfl, ?_, by rw [← HBQ.out]; exact hb⟩
        rw [← HBQ.out]
        rw [List.take_of_length_le (by omega)]
        exact hO)
      clear hO hb hcc
      go_wp2_with fail
      go_ret
      exact HF.out
end Go.Proofs.Ytdolgpogjnfpkaa
