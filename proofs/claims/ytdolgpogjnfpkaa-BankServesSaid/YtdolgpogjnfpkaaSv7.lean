/- put. -/
import Derived.Test.YtdolgpogjnfpkaaSv6
namespace Go.Proofs.Ytdolgpogjnfpkaa
set_option linter.unusedVariables false
set_option linter.unusedSimpArgs false
open Go.ChangeShapes Go.WideShapes Go.ChangeAt Go.RowKit

theorem cells2q {w : World} {b : Nat} {t : TypeId} {x y : Value} (h : w.heap[b]? = some (.cells #[x, y] t (0, 0))) : w.cell? ⟨b, 0, none⟩ = some x ∧ w.cell? ⟨b, 1, none⟩ = some y := by
  simp [World.cell?, h]
def rdF (r : Rq) : Bool := (fo r.fc).rd
def biF (r : Rq) : Bool := (fo r.fc).rd && (fo r.fc).bi
/-- An answer's bytes. -/
def repN (r : Rq) (code : Int) (V : List Nat) : List Nat :=
  if code ≠ 0 then [r.fc.toNat + 128, code.toNat] else if rdF r = true then (if biF r = true then r.fc.toNat :: (bits V).length :: bits V else r.fc.toNat :: (wb V).length :: wb V) else if 0 < r.q then (putR (fo r.fc) r).take 5 else putR (fo r.fc) r
theorem OwnV.argB {B : Nat} {w : World} {v : Value} {L : List Nat} (h : OwnV B w v L) (hb : ∀ b ∈ L, b < 256) : ∃ a c, v = .slice a L.length c ∧ ArgB w a L.length c L ∧ ∀ b off, a = some ⟨b, off, none⟩ → B ≤ b := by
  rcases h.2 with ⟨hv, h0⟩ | ⟨g, cap, cur, hv, hg, hbk, r⟩
  · have hl : L = [] := List.eq_nil_of_length_eq_zero h0
    subst hl
    exact ⟨none, 0, hv, ⟨Bys.nil _ _, fun _ => ⟨rfl, rfl⟩, Nat.le_refl _, Nat.zero_le _⟩, fun b off e => by cases e⟩
  · have ho : OwnB B w g cap L.length L := ⟨h.1, .inr ⟨g, cap, cur, rfl, hg, hbk, r⟩⟩
    exact ⟨_, cap, hv, ho.arg hb, (fun b off e => by simp only [Option.some.injEq, Addr.mk.injEq, and_true] at e; omega)⟩
theorem OwnV.take {B : Nat} {w : World} {a : Option Addr} {n c : Nat} {L : List Nat} (h : OwnV B w (.slice a n c) L) (hn : n = L.length) (k : Nat) (hk : k ≤ n) (h0 : 0 < n) : OwnV B w (.slice a k c) (L.take k) := by
  rcases h.2 with ⟨hv, h1⟩ | ⟨g, cap, cur, hv, hg, hbk, h2, h3, h4, h5⟩
  · omega
  · simp only [Value.slice.injEq] at hv
    obtain ⟨rfl, rfl, rfl⟩ := hv
    refine ⟨by simp [bv], .inr ⟨g, c, cur, by rw [List.length_take, Nat.min_eq_left (by omega)], hg, hbk, by rw [List.length_take]; omega, h3, h4, ?_⟩⟩
    have e : (bv (L.take k)) = (bv L).take k := by simp [bv, List.map_take]
    rw [e, ← h5, List.take_take, List.length_take]
    congr 1
    omega
theorem right_facts {r : Rq} (h : rightR r = true) : formOf r.fc = some (fo r.fc) ∧ 1 ≤ r.fc ∧ r.fc ≤ 23 ∧ 0 ≤ r.q ∧ r.q ≤ 2000 := by
  have ht := rt_of h
  have h1 := formOf_range ht.k
  have h2 := fit_of ht.hh
  have h3 := (formOf_small ht.k).q
  have h4 := h2.1.qle
  refine ⟨ht.k, h1.1, h1.2, h2.2.2.2.2.2, by omega⟩
theorem put5 {r : Rq} (h : rightR r = true) (hrd : rdF r = false) : 5 ≤ (putR (fo r.fc) r).length := by
  have ht := rt_of h
  have hl := ht.len.1
  have hk := ht.k
  unfold rdF at hrd
  rw [hl]
  generalize putR (fo r.fc) r = L
  unfold lenF
  generalize fo r.fc = f at hk hrd
  unfold formOf at hk
  repeat' split at hk
  all_goals first | (cases hk; done) | (injection hk with hk; subst hk; simp at hrd ⊢; try omega)
set_option maxRecDepth 100000 in
set_option maxHeartbeats 4000000 in
theorem putA_any (r : Rq) (p : Rp) (w : World) (hr : r.ok w) (hp : p.ok w) (hri : rightR r = true) (hm : mayB r.q (rdF r) (biF r) p.code p.V = true) : Calls Try.prog 60 #[av r (rdF r) (biF r), rpv p] w (OutP w (repN r p.code p.V)) := by
  obtain ⟨P, hP⟩ : ∃ P, P = (OutP w (repN r p.code p.V) : Ending → World → Prop) := ⟨_, rfl⟩
  rw [← hP]
  have HP := Lib.hid hP
  obtain ⟨hk, hf1, hf2, hq1, hq2⟩ := right_facts hri
  have hln := hp.arg.row.ln
  have HRW0 := Lib.hid hp.arg.row
  have HR := Lib.hid hr
  have PU : Hid (∀ W, Below w.heap.size w W → Calls Try.prog 81 #[rv r] W (fun e w5 => ∃ v, e = .returned v ∧ OwnV W.heap.size w5 v (putR (fo r.fc) r) ∧ Below W.heap.size W w5)) := Lib.hid (by
    intro W hb
    have := put_any r W (hr.below hb)
    refine this.mono ?_
    rintro e w5 ⟨v, rfl, ho, hb5⟩
    rw [if_pos hri] at ho
    exact ⟨v, rfl, ho, hb5⟩)
  have PL := Lib.hid (fun hrd => put5 hri hrd)
  have PB : Hid (∀ b ∈ putR (fo r.fc) r, b < 256) := Lib.hid (put_by (rt_of hri).k hr (rt_of hri).hh (by omega) (by omega))
  have hmB := hm
  unfold mayB at hmB
  have HMB := Lib.hid hmB
  have hle := hp.arg.row.le
  unfold maxLen at hle
  have hvmax : p.V.length ≤ 2000 := by
    split at hmB
    · simp at hmB; rw [hmB.1]; simp
    · simp at hmB; omega
  have hun := hvmax
  rw [hln] at hun
  obtain ⟨rd, hrd⟩ : ∃ b, b = rdF r := ⟨_, rfl⟩
  obtain ⟨bi, hbi⟩ : ∃ b, b = biF r := ⟨_, rfl⟩
  rw [← hrd, ← hbi] at hm ⊢
  have HRD := Lib.hid hrd
  have HBI := Lib.hid hbi
  have HREP : Hid (repN r p.code p.V = if p.code ≠ 0 then [r.fc.toNat + 128, p.code.toNat] else if rd = true then (if bi = true then r.fc.toNat :: (bits p.V).length :: bits p.V else r.fc.toNat :: (wb p.V).length :: wb p.V) else if 0 < r.q then (putR (fo r.fc) r).take 5 else putR (fo r.fc) r) := Lib.hid (by rw [hrd, hbi]; rfl)
  have hbr : rd = false → bi = false := by intro e; rw [hrd] at e; rw [hbi]; unfold biF; unfold rdF at e; rw [e]; rfl
  have hEx : p.code = 0 ∨ (1 ≤ p.code ∧ p.code ≤ 4 ∧ p.V.length = 0) := by
    by_cases hc : p.code = 0
    · exact .inl hc
    · rw [if_pos (.inl hc)] at hmB
      simp [hc, isEx] at hmB
      exact .inr ⟨by omega, by omega, by rw [hmB.1]; rfl⟩
  have CN := Lib.hid (fun (a : Option Addr) (n c : Nat) (M : List Nat) (W : World) (h : Bys W a n M) (hnil : a = none → c = 0) (hn : n ≤ 255) => countedR_any r rd bi a n c M W h hnil hn ⟨by omega, by omega⟩)
  have hq5 : rd = true → (p.code = 0 → (p.V.length : Int) = r.q ∧ (bi = false → r.q ≤ 125)) := by
    intro e hc
    rw [if_neg (by rw [← hrd, e]; simp [hc])] at hmB
    simp at hmB
    refine ⟨by omega, fun eb => ?_⟩
    have hft := (fit_of (rt_of hri).hh).1.qle
    have hk2 := hk
    rw [hrd] at e
    rw [hbi] at eb
    unfold rdF at e
    unfold biF at eb
    have hq125 : (fo r.fc).q ≤ 125 := by
      generalize fo r.fc = f at hk2 e eb
      unfold formOf at hk2
      repeat' split at hk2
      all_goals first | (cases hk2; done) | (injection hk2 with hk2; subst hk2; simp at e eb ⊢)
    omega
  have HQ5 := Lib.hid hq5
  have HBR := Lib.hid hbr
  have HVM := Lib.hid hvmax
  clear hP hr hp hri hm hmB hrd hbi hq5 hk hln hbr hvmax
  obtain ⟨fc, ad, q, vs, vn, vc, V, rto⟩ := r
  obtain ⟨code, us, un, uc, U⟩ := p
  simp only [av, rpv, rv] at *
  obtain ⟨fc, rfl⟩ : ∃ k : Nat, fc = (k : Int) := ⟨fc.toNat, by omega⟩
  have k1 := alloc_bq w (.cells #[.int .i64 (fc : Int), .int .i64 ad, .int .i64 q, .slice vs vn vc, .int .i64 rto, .bool rd, .bool bi] 87 (0, 0))
  have k2 := alloc_bq (w.alloc (.cells #[.int .i64 (fc : Int), .int .i64 ad, .int .i64 q, .slice vs vn vc, .int .i64 rto, .bool rd, .bool bi] 87 (0, 0))) (.cells #[.int .i64 code, .slice us un uc] 40 (0, 0))
  have bw := k1.trans (k2.mono k1.size)
  have hx := low_of k2 (heap_alloc_new w (.cells #[.int .i64 (fc : Int), .int .i64 ad, .int .i64 q, .slice vs vn vc, .int .i64 rto, .bool rd, .bool bi] 87 (0, 0)))
  have hy := heap_alloc_new (w.alloc (.cells #[.int .i64 (fc : Int), .int .i64 ad, .int .i64 q, .slice vs vn vc, .int .i64 rto, .bool rd, .bool bi] 87 (0, 0))) (.cells #[.int .i64 code, .slice us un uc] 40 (0, 0))
  rw [World.size_alloc] at hy
  obtain ⟨W, hW⟩ : ∃ W, W = (w.alloc (.cells #[.int .i64 (fc : Int), .int .i64 ad, .int .i64 q, .slice vs vn vc, .int .i64 rto, .bool rd, .bool bi] 87 (0, 0))).alloc (.cells #[.int .i64 code, .slice us un uc] 40 (0, 0)) := ⟨_, rfl⟩
  rw [← hW] at bw hx hy
  have HY := Lib.hid (fun w' (h : Gd W w') => cells2q (low_of h hy))
  have BW := Lib.hid bw
  have HX := Lib.hid hx
  have HW := Lib.hid hW
  have HRW := Lib.hid (HRW0.out.below bw)
  clear k1 k2 bw hx hy hW
  rcases hEx with hc | ⟨hc1, hc2, hc3⟩
  · subst hc
    have HREP2 : Hid (repN ⟨(fc : Int), ad, q, vs, vn, vc, V, rto⟩ 0 U = _) := Lib.hid (HREP.out.trans (if_neg (by simp)))
    cases rd with
    | true =>
      obtain ⟨huq, hq125⟩ := HQ5.out rfl rfl
      cases bi with
      | true =>
        have g0 : Gd W W.drew := (Below.refl _ _).drew
        have cs0 := cells7 (low_of g0 HX.out)
        obtain ⟨p0, p1, p2, p3, p4, p5, p6⟩ := cs0
        obtain ⟨q0, q1⟩ := HY.out _ g0
        have BT := bits_any us un uc U W.drew (HRW.out.below g0) (by omega)
        have hbl := bits_len U
        have HBL := Lib.hid hbl
        clear hbl
        have FIN : Hid (∀ W' v, OwnV w.heap.size W' v (fc :: (bits U).length :: bits U) → Below w.heap.size w W' → P (.returned v) W') := Lib.hid (fun W' v h1 h2 => by
          rw [HP.out, HREP2.out]
          simp only [if_true, Int.toNat_natCast]
          exact ⟨v, rfl, h1, h2⟩)
        go_enter Try.func60, Try.ntmps60
        go_upto_region 4 with fail
        rw [← HW.out]
        go_region_with (first
          | (go_at_call 76; refine BT.mono ?_; rintro e w5 ⟨g5, rfl, hg5, hs5, z5⟩; have b5 : Gd W w5 := Gd.step g0 z5; obtain ⟨p0, p1, p2, p3, p4, p5, p6⟩ := cells7 (low_of b5 HX.out); have CC := Lib.hid (CN.out (some ⟨g5, 0, none⟩) (bits U).length (bits U).length (bits U) w5 (bys_block (t := 5) (m := (0, 0)) (bits U) (by unfold maxLen; rw [HBL.out]; omega) (bits_by U) hg5) (fun e => by cases e) (by rw [HBL.out]; omega)); clear hg5 hs5 z5)
          | (go_at_call 79; refine CC.out.mono ?_; rintro e w6 ⟨v6, rfl, ho6, z6⟩; have O6 := Lib.hid (OwnV.mono ho6 (Nat.le_trans BW.out.size (Below.size b5))); have B6 := Lib.hid (BW.out.trans (Below.mono (Gd.step b5 z6) BW.out.size)); clear ho6 z6))
        all_goals
          go_wp2_with fail
          refine bodyPost_ret (v := v6) (by simp [results, Try.results60, go_sem]) rfl ?_
          exact FIN.out _ _ O6.out B6.out
      | false =>
        have hq125 := hq125 rfl
        have g0 : Gd W W.drew := (Below.refl _ _).drew
        have cs0 := cells7 (low_of g0 HX.out)
        obtain ⟨p0, p1, p2, p3, p4, p5, p6⟩ := cs0
        obtain ⟨q0, q1⟩ := HY.out _ g0
        have WT := wordBytes_any us un uc U W.drew (HRW.out.below g0) (by omega)
        have HWL : Hid ((wb U).length ≤ 255) := Lib.hid (by rw [wb_len]; have := huq; omega)
        have FIN : Hid (∀ W' v, OwnV w.heap.size W' v (fc :: (wb U).length :: wb U) → Below w.heap.size w W' → P (.returned v) W') := Lib.hid (fun W' v h1 h2 => by
          rw [HP.out, HREP2.out]
          simp only [if_true, Int.toNat_natCast, Bool.false_eq_true, if_false]
          exact ⟨v, rfl, h1, h2⟩)
        go_enter Try.func60, Try.ntmps60
        go_upto_region 6 with fail
        rw [← HW.out]
        go_region_with (first
          | (go_at_call 80; refine WT.mono ?_; rintro e w5 ⟨v5, rfl, ho5, z5⟩; have b5 : Gd W w5 := Gd.step g0 z5; obtain ⟨p0, p1, p2, p3, p4, p5, p6⟩ := cells7 (low_of b5 HX.out); obtain ⟨a5, c5, hv5, hab5, _⟩ := OwnV.argB ho5 (wb_by HRW.out.by'); subst hv5; have CC := Lib.hid (CN.out a5 (wb U).length c5 (wb U) w5 hab5.row (fun e => (hab5.nil e).2) HWL.out); clear ho5 hab5 z5)
          | (go_at_call 79; refine CC.out.mono ?_; rintro e w6 ⟨v6, rfl, ho6, z6⟩; have O6 := Lib.hid (OwnV.mono ho6 (Nat.le_trans BW.out.size (Below.size b5))); have B6 := Lib.hid (BW.out.trans (Below.mono (Gd.step b5 z6) BW.out.size)); clear ho6 z6))
        all_goals
          go_wp2_with fail
          refine bodyPost_ret (v := v6) (by simp [results, Try.results60, go_sem]) rfl ?_
          exact FIN.out _ _ O6.out B6.out
    | false =>
      have hbf := HBR.out rfl
      subst hbf
      have hPL := PL.out HRD.out.symm
      have HPL := Lib.hid hPL
      have PU0 := PU.out W BW.out
      have cs0 := cells7 HX.out
      obtain ⟨p0, p1, p2, p3, p4, p5, p6⟩ := cs0
      obtain ⟨q0, q1⟩ := HY.out W (Below.refl _ _)
      have HNN := Lib.hid hPL
      clear hPL
      obtain ⟨L, hL⟩ : ∃ L, L = putR (fo (fc : Int)) ⟨(fc : Int), ad, q, vs, vn, vc, V, rto⟩ := ⟨_, rfl⟩
      rw [← hL] at PU0 HREP2 HPL
      have PBL : Hid (∀ b ∈ L, b < 256) := Lib.hid (by rw [hL]; exact PB.out)
      by_cases hq0 : 0 < q
      · have FIN : Hid (∀ W' v, OwnV w.heap.size W' v (L.take 5) → Below w.heap.size w W' → P (.returned v) W') := Lib.hid (fun W' v h1 h2 => by
          rw [HP.out, HREP2.out]
          simp only [Bool.false_eq_true, if_false, if_pos hq0]
          exact ⟨v, rfl, h1, h2⟩)
        clear HREP HREP2 hL
        go_enter Try.func60, Try.ntmps60
        go_wp2_with fail
        rw [← HW.out]
        refine PU0.mono ?_
        rintro e w5 ⟨v5, rfl, ho5, z5⟩
        obtain ⟨a5, c5, hv5, hab5, _⟩ := OwnV.argB ho5 PBL.out
        subst hv5
        have O5 := Lib.hid (OwnV.mono (OwnV.take ho5 rfl 5 HPL.out (by have := HPL.out; omega)) BW.out.size)
        have B5 := Lib.hid (BW.out.trans (Below.mono z5 BW.out.size))
        have hle := hab5.le
        have h5 := HPL.out
        obtain ⟨n5, hn5⟩ : ∃ n, n = L.length := ⟨_, rfl⟩
        rw [← hn5] at hle h5 ⊢
        clear ho5 z5 hab5 hn5
        go_wp2_with fail
        exact FIN.out _ _ O5.out B5.out
      · have FIN : Hid (∀ W' v, OwnV w.heap.size W' v L → Below w.heap.size w W' → P (.returned v) W') := Lib.hid (fun W' v h1 h2 => by
          rw [HP.out, HREP2.out]
          simp only [Bool.false_eq_true, if_false, if_neg hq0]
          exact ⟨v, rfl, h1, h2⟩)
        clear HREP HREP2 hL
        go_enter Try.func60, Try.ntmps60
        go_wp2_with fail
        rw [← HW.out]
        refine PU0.mono ?_
        rintro e w5 ⟨v5, rfl, ho5, z5⟩
        have O5 := Lib.hid (OwnV.mono ho5 BW.out.size)
        have B5 := Lib.hid (BW.out.trans (Below.mono z5 BW.out.size))
        clear ho5 z5
        go_wp2_with fail
        exact FIN.out _ _ O5.out B5.out
  · obtain ⟨code, rfl⟩ : ∃ k : Nat, code = (k : Int) := ⟨code.toNat, by omega⟩
    have HREP2 := Lib.hid (HREP.out.trans (if_pos (show ((code : Int)) ≠ 0 by omega)))
    have FIN : Hid (∀ W' v, OwnV w.heap.size W' v [fc + 128, code] → Below w.heap.size w W' → P (.returned v) W') := Lib.hid (fun W' v h1 h2 => by
      rw [HP.out, HREP2.out]
      simp only [Int.toNat_natCast]
      exact ⟨v, rfl, h1, h2⟩)
    have c1 : IntKind.u8.wrap ((fc : Int) + 128) = (fc : Int) + 128 := by simp [IntKind.wrap, IntKind.bits, IntKind.signed]; omega
    have c2 : IntKind.u8.wrap (code : Int) = (code : Int) := by simp [IntKind.wrap, IntKind.bits, IntKind.signed]; omega
    have c3 : wrap64 ((fc : Int) + 128) = (fc : Int) + 128 := by unfold wrap64; omega
    have n0 : ¬ code = 0 := by omega
    have O5 : Hid (OwnV w.heap.size (W.alloc (.cells #[.int .u8 ((fc : Int) + 128), .int .u8 (code : Int)] 5 (0, 0))) (.slice (some ⟨W.heap.size, 0, none⟩) 2 2) [fc + 128, code]) := Lib.hid ⟨rfl, .inr ⟨W.heap.size, 2, #[.int .u8 ((fc : Int) + 128), .int .u8 (code : Int)], rfl, BW.out.size, heap_alloc_new _ _, Nat.le_refl _, by unfold maxLen; omega, rfl, by simp [bv]⟩⟩
    have B5 := Lib.hid (BW.out.alloc (o := .cells #[.int .u8 ((fc : Int) + 128), .int .u8 (code : Int)] 5 (0, 0)) BW.out.size)
    have cs0 := cells7 HX.out
    obtain ⟨p0, p1, p2, p3, p4, p5, p6⟩ := cs0
    obtain ⟨q0, q1⟩ := HY.out W (Below.refl _ _)
    clear HREP HREP2 hc1 hc2
    go_enter Try.func60, Try.ntmps60
    go_wp2_with fail
    have hsz : W.heap.size = w.heap.size + 1 + 1 := by rw [HW.out]; simp
    have hF := FIN.out _ _ O5.out B5.out
    rw [hsz, HW.out] at hF
    exact hF
end Go.Proofs.Ytdolgpogjnfpkaa
/- Right, Put. -/
namespace Go.Proofs.Ytdolgpogjnfpkaa
set_option linter.unusedVariables false
set_option linter.unusedSimpArgs false
open Go.ChangeShapes Go.WideShapes Go.ChangeAt Go.RowKit

def okR (r : Rq) (code : Int) (V : List Nat) : Bool := rightR r && mayB r.q (rdF r) (biF r) code V
def W2q (w : World) (q p : Value) : World := w
theorem of2_any (r : Rq) (w : World) (hr : r.ok w) : Calls Try.prog 58 #[rv r] w (fun e w' => e = .returned (.tuple #[av r (rdF r) (biF r), .bool (rightR r)]) ∧ Below w.heap.size w w') := of_any r w hr
set_option maxRecDepth 100000 in
set_option maxHeartbeats 4000000 in
theorem putQ_any (r : Rq) (p : Rp) (w : World) (hr : r.ok w) (hp : p.ok w) : Calls Try.prog 30 #[rv r, rpv p] w (OutP w (if okR r p.code p.V = true then repN r p.code p.V else [])) := by
  obtain ⟨P, hP⟩ : ∃ P, P = (OutP w (if okR r p.code p.V = true then repN r p.code p.V else []) : Ending → World → Prop) := ⟨_, rfl⟩
  rw [← hP]
  have HP := Lib.hid hP
  have HEQ : Hid (okR r p.code p.V = (rightR r && mayB r.q (rdF r) (biF r) p.code p.V)) := Lib.hid rfl
  have OF := fun W (h : Below w.heap.size w W) => of2_any r W (hr.below h)
  have MA := fun W (h : Below w.heap.size w W) => may_any r (rdF r) (biF r) p W (hr.below h) (hp.below h)
  have PA := fun W (h : Below w.heap.size w W) (e1 : rightR r = true) (e2 : mayB r.q (rdF r) (biF r) p.code p.V = true) => putA_any r p W (hr.below h) (hp.below h) e1 e2
  generalize mayB r.q (rdF r) (biF r) p.code p.V = mb at MA HEQ PA
  generalize rightR r = ri at OF HEQ PA
  generalize rdF r = rd at OF MA PA
  generalize biF r = bi at OF MA PA
  generalize repN r p.code p.V = RL at PA HP
  generalize okR r p.code p.V = ok at HEQ HP
  clear hP hr hp
  obtain ⟨fc, ad, q, vs, vn, vc, V, rto⟩ := r
  obtain ⟨code, us, un, uc, U⟩ := p
  simp only [av, rv, rpv] at OF MA PA ⊢
  have k1 := alloc_bq w (.cells #[.int .i64 fc, .int .i64 ad, .int .i64 q, .slice vs vn vc, .int .i64 rto] 32 (0, 0))
  have k2 := alloc_bq (w.alloc (.cells #[.int .i64 fc, .int .i64 ad, .int .i64 q, .slice vs vn vc, .int .i64 rto] 32 (0, 0))) (.cells #[.int .i64 code, .slice us un uc] 40 (0, 0))
  have bw := k1.trans (k2.mono k1.size)
  have hy := heap_alloc_new (w.alloc (.cells #[.int .i64 fc, .int .i64 ad, .int .i64 q, .slice vs vn vc, .int .i64 rto] 32 (0, 0))) (.cells #[.int .i64 code, .slice us un uc] 40 (0, 0))
  rw [World.size_alloc] at hy
  have HY := Lib.hid hy
  have BW := Lib.hid bw
  have OF1 := Lib.hid (OF _ bw)
  have MAH := Lib.hid MA
  have PAH := Lib.hid PA
  clear k1 k2 bw hy OF MA PA
  go_enter Try.func30, Try.ntmps30
  go_wp2_with fail
  refine OF1.out.mono ?_
  rintro e w1 ⟨rfl, z1⟩
  have b1 := BW.out.trans (Below.mono z1 BW.out.size)
  have hy1 := low_of z1 HY.out
  have hlt := blk_lt hy1
  have m1 := (MAH.out (w1.alloc (.cells #[.int .i64 fc, .int .i64 ad, .int .i64 q, .slice vs vn vc, .int .i64 rto, .bool rd, .bool bi] 87 (0, 0))) (b1.alloc b1.size _))
  obtain ⟨y0, y1⟩ := cells2q (low_of (alloc_bq w1 (.cells #[.int .i64 fc, .int .i64 ad, .int .i64 q, .slice vs vn vc, .int .i64 rto, .bool rd, .bool bi] 87 (0, 0))) hy1)
  have M1 := Lib.hid m1
  have B1 := Lib.hid b1
  have FIN0 : Hid (∀ W', ok = false → Below w.heap.size w W' → P (.returned (.slice none 0 0)) W') := Lib.hid (fun W' h hb => by
    rw [HP.out, h]; exact ⟨_, rfl, ⟨rfl, .inl ⟨rfl, rfl⟩⟩, hb⟩)
  have X1 := Lib.hid (heap_alloc_new w1 (.cells #[.int .i64 fc, .int .i64 ad, .int .i64 q, .slice vs vn vc, .int .i64 rto, .bool rd, .bool bi] 87 (0, 0)))
  have Y1 := Lib.hid (low_of (alloc_bq w1 (.cells #[.int .i64 fc, .int .i64 ad, .int .i64 q, .slice vs vn vc, .int .i64 rto, .bool rd, .bool bi] 87 (0, 0))) hy1)
  have B2 := Lib.hid (b1.alloc (o := (.cells #[.int .i64 fc, .int .i64 ad, .int .i64 q, .slice vs vn vc, .int .i64 rto, .bool rd, .bool bi] 87 (0, 0))) b1.size)
  clear hy1 b1 z1 m1
  cases ri with
  | false =>
    go_wp2_with fail
    exact FIN0.out _ (by rw [HEQ.out]; rfl) B2.out
  | true =>
    go_wp2_with fail
    refine M1.out.mono ?_
    rintro e w5 ⟨rfl, z5⟩
    have b5 := B2.out.trans (Below.mono z5 B2.out.size)
    have x5 := low_of z5 X1.out
    have y5 := low_of z5 Y1.out
    obtain ⟨p0, p1, p2, p3, p4, p5, p6⟩ := cells7 x5
    obtain ⟨y0, y1⟩ := cells2q y5
    have pa := fun e2 => PAH.out w5 b5 (by trivial) e2
    have PA5 := Lib.hid pa
    have B5 := Lib.hid b5
    clear b5 z5 x5 y5 pa
    cases mb with
    | false =>
      go_wp2_with fail
      exact FIN0.out _ (by rw [HEQ.out]; rfl) B5.out
    | true =>
      go_wp2_with fail
      refine (PA5.out (by trivial)).mono ?_
      rintro e w6 ⟨v6, rfl, o6, z6⟩
      have O6 := Lib.hid (OwnV.mono o6 B5.out.size)
      have B6 := Lib.hid (B5.out.trans (Below.mono z6 B5.out.size))
      clear o6 z6
      go_wp2_with fail
      rw [HP.out, HEQ.out]
      exact ⟨v6, rfl, O6.out, B6.out⟩
end Go.Proofs.Ytdolgpogjnfpkaa
/- Alarm, Get, Same, Great, Reads. -/
namespace Go.Proofs.Ytdolgpogjnfpkaa
set_option linter.unusedVariables false
set_option linter.unusedSimpArgs false
open Go.ChangeShapes Go.WideShapes Go.ChangeAt Go.RowKit

theorem or128 (x : Nat) (hx : x < 256) : Go.bits .or .u8 (x : Int) 128 = ((x ||| 128 : Nat) : Int) := by
  have g1 : (BitVec.ofInt 8 (x : Int)).toNat = x := by
    rw [BitVec.ofInt_natCast, BitVec.toNat_ofNat]; exact Nat.mod_eq_of_lt (by omega)
  have g2 : (BitVec.ofInt 8 128).toNat = 128 := by decide
  show IntKind.u8.wrap ((BitVec.ofInt 8 (x : Int) ||| BitVec.ofInt 8 128).toNat : Int) = _
  rw [BitVec.toNat_or, g1, g2]
  have : x ||| 128 < 256 := Nat.or_lt_two_pow (n := 8) hx (by omega)
  simp [IntKind.wrap, IntKind.bits, IntKind.signed]
  omega
def alN (D : List Nat) (code : Int) : List Nat := if isEx code = true then [D.getD 0 0 ||| 128, code.toNat] else []
set_option maxRecDepth 100000 in
set_option maxHeartbeats 4000000 in
theorem alarm_any (a : Option Addr) (n c : Nat) (D : List Nat) (code : Int) (w : World) (h : Bys w a n D) : Calls Try.prog 29 #[.slice a n c, .int .i64 code] w (OutP w (alN D code)) := by
  obtain ⟨P, hP⟩ : ∃ P, P = (OutP w (alN D code) : Ending → World → Prop) := ⟨_, rfl⟩
  rw [← hP]
  have HP := Lib.hid hP
  have IE := isEx_any code w
  have hln := h.ln
  have HAL : Hid (alN D code = _) := Lib.hid rfl
  unfold alN at HAL
  cases he : isEx code with
  | false =>
    have FIN : Hid (P (.returned (.slice none 0 0)) w) := Lib.hid (by
      rw [HP.out]; unfold alN; rw [he]; exact ⟨_, rfl, ⟨rfl, .inl ⟨rfl, rfl⟩⟩, Below.refl _ _⟩)
    rw [he] at IE
    clear hP h hln HAL he
    go_enter Try.func29, Try.ntmps29
    go_wp2_with fail
    refine IE.mono ?_
    rintro e w1 ⟨rfl, rfl⟩
    go_wp2_with fail
    exact FIN.out
  | true =>
    have hc : 1 ≤ code ∧ code ≤ 4 := by unfold isEx at he; simpa using he
    obtain ⟨code, rfl⟩ : ∃ k : Nat, code = (k : Int) := ⟨code.toNat, by omega⟩
    rw [he] at IE
    have l0 := getD_lt h.by' 0
    have hor := or128 (D.getD 0 0) l0
    have FIN : Hid (∀ x : Nat, x = D.getD 0 0 → P (.returned (.slice (some ⟨w.heap.size, 0, none⟩) 2 2)) (w.alloc (.cells #[.int .u8 ((x ||| 128 : Nat) : Int), .int .u8 (code : Int)] 5 (0, 0)))) := Lib.hid (by
      intro x hx
      rw [HP.out]; unfold alN; rw [he]; simp only [if_true, Int.toNat_natCast]
      refine ⟨_, rfl, ⟨rfl, .inr ⟨w.heap.size, 2, #[.int .u8 ((x ||| 128 : Nat) : Int), .int .u8 (code : Int)], rfl, Nat.le_refl _, heap_alloc_new _ _, Nat.le_refl _, by unfold maxLen; omega, rfl, by rw [hx]; rfl⟩⟩, (Below.refl _ _).alloc (Nat.le_refl _) _⟩)
    have c2 : IntKind.u8.wrap (code : Int) = (code : Int) := by simp [IntKind.wrap, IntKind.bits, IntKind.signed]; omega
    by_cases hn : n = 0
    · subst hn
      have hD : D.getD 0 0 = 0 := by rw [List.eq_nil_of_length_eq_zero hln]; rfl
      rw [hD] at FIN
      have F0 := Lib.hid (FIN.out 0 rfl)
      clear hP h hln HAL he hor hD FIN
      go_enter Try.func29, Try.ntmps29
      go_wp2_with fail
      refine IE.mono ?_
      rintro e w1 ⟨rfl, rfl⟩
      go_wp2_with fail
      have e0 : Go.bits BinOp.or IntKind.u8 0 128 = ((0 ||| 128 : Nat) : Int) := or128 0 (by omega)
      rw [e0]
      exact F0.out
    · obtain ⟨b, off, rfl, hbl, hcc⟩ := h.pos (by omega)
      have c0 : w.cell? ⟨b, off, none⟩ = some (.int .u8 ((D.getD 0 0 : Nat) : Int)) := hcc 0 (by omega)
      have d0 : (0 : Int) < (n : Int) := by omega
      generalize D.getD 0 0 = x at c0 hor FIN l0
      have F0 := Lib.hid (FIN.out x rfl)
      clear hP h hln HAL he hcc FIN
      go_enter Try.func29, Try.ntmps29
      go_wp2_with fail
      refine IE.mono ?_
      rintro e w1 ⟨rfl, rfl⟩
      go_wp2_with fail
      exact F0.out
theorem st2_at (w : World) {g k : Nat} (h : k ≠ g) (a b : Value) : ((w.setCell ⟨g, 0, none⟩ a).setCell ⟨g, 1, none⟩ b).heap[k]? = w.heap[k]? :=
  (Below.heap_setCell _ _ _ _ h).trans (Below.heap_setCell _ _ _ _ h)
theorem ArgW.st2 {w : World} {a : Option Addr} {n c g : Nat} {t : TypeId} {L : List Nat} {x : Int} {u : Option Addr} {m d : Nat} (h : ArgW w a n c L) (hg : w.heap[g]? = some (.cells #[.int .i64 x, .slice u m d] t (0, 0))) (v1 v2 : Value) : ArgW ((w.setCell ⟨g, 0, none⟩ v1).setCell ⟨g, 1, none⟩ v2) a n c L := by
  refine ⟨⟨h.row.ln, h.row.le, h.row.by', ?_⟩, h.nil, h.le, h.mx⟩
  rcases h.row.at' with z | ⟨b, off, e, hlt, hc⟩
  · exact .inl z
  · by_cases h0 : n = 0
    · exact .inl h0
    · have hb : b ≠ g := by
        rintro rfl
        have := hc 0 (by omega)
        rw [Nat.add_zero] at this
        simp only [World.cell?, hg] at this
        match off, this with
        | 0, this => simp at this
        | 1, this => simp at this
        | k + 2, this => simp at this
      exact .inr ⟨b, off, e, by simpa [World.setCell] using hlt, fun i hi => (World.cell?_of_block (a := ⟨b, off + i, none⟩) (st2_at w hb v1 v2)).trans (hc i hi)⟩
def sameB (c d : Int) (V U : List Nat) : Bool := decide (c = d) && decide (V = U)
set_option maxRecDepth 100000 in
set_option maxHeartbeats 4000000 in
theorem sameR_any (p p2 : Rp) (w : World) (h : ArgW w p.vs p.vn p.vc p.V) (h2 : ArgW w p2.vs p2.vn p2.vc p2.V) : Calls Try.prog 19 #[rpv p, rpv p2] w (BoolB w (sameB p.code p2.code p.V p2.V)) := by
  obtain ⟨P, hP⟩ : ∃ P, P = (BoolB w (sameB p.code p2.code p.V p2.V) : Ending → World → Prop) := ⟨_, rfl⟩
  rw [← hP]
  have HP := Lib.hid hP
  have HEQ : Hid (sameB p.code p2.code p.V p2.V = (decide (p.code = p2.code) && decide (p.V = p2.V))) := Lib.hid rfl
  obtain ⟨c1, us, un, uc, U⟩ := p
  obtain ⟨c2, vs, vn, vc, V⟩ := p2
  simp only [rpv] at *
  have k1 := alloc_bq w (.cells #[.int .i64 c1, .slice us un uc] 40 (0, 0))
  have bw := k1.alloc (o := .cells #[.int .i64 c2, .slice vs vn vc] 40 (0, 0)) k1.size
  have SV := Lib.hid (samevals_any us un uc U vs vn vc V _ (h.row.below bw) (h2.row.below bw))
  have BW := Lib.hid bw
  clear hP h h2 k1 bw
  by_cases hc : c1 = c2
  · have t1 : (c1 == c2) = true := by simp [hc]
    have t2 : decide (c1 = c2) = true := by simp [hc]
    rw [t2] at HEQ
    clear t2 hc
    go_enter Try.func19, Try.ntmps19
    go_wp2_with fail
    refine SV.out.mono ?_
    rintro e w1 ⟨rfl, z1⟩
    have B1 := Lib.hid (BW.out.trans (Below.mono z1 BW.out.size))
    clear z1
    obtain ⟨q, hq⟩ : ∃ q, q = decide (U = V) := ⟨_, rfl⟩
    rw [← hq] at HEQ ⊢
    clear hq
    go_wp2_with fail
    rw [HP.out]
    exact ⟨by rw [HEQ.out]; rfl, B1.out⟩
  · have t1 : (c1 == c2) = false := by simp [hc]
    have t2 : decide (c1 = c2) = false := by simp [hc]
    rw [t2] at HEQ
    clear t2 hc
    go_enter Try.func19, Try.ntmps19
    go_wp2_with fail
    rw [HP.out]
    exact ⟨by rw [HEQ.out]; rfl, BW.out⟩
def greatB (V U : List Nat) : Bool := decide (3000 < V.length) || decide (3000 < U.length)
def rd14 (n : Int) : Bool := decide (n = 1) || decide (n = 2) || decide (n = 3) || decide (n = 4) || decide (n = 23)
def bi14 (n : Int) : Bool := decide (n = 1) || decide (n = 2)
set_option maxRecDepth 100000 in
set_option maxHeartbeats 4000000 in
theorem reads14_any (n : Int) (w : World) : Calls Try.prog 40 #[.int .i64 n] w fun e w' => e = .returned (.tuple #[.bool (rd14 n), .bool (bi14 n)]) ∧ w' = w := by
  by_cases h1 : n = 1
  · subst h1; go_enter Try.func40, Try.ntmps40; go_wp2_with fail; exact bodyPost_ret (v := .tuple #[.bool _, .bool _]) (by simp [results, Try.results40, go_sem, rd14, bi14]) rfl ⟨rfl, rfl⟩
  by_cases h2 : n = 2
  · subst h2; go_enter Try.func40, Try.ntmps40; go_wp2_with fail; exact bodyPost_ret (v := .tuple #[.bool _, .bool _]) (by simp [results, Try.results40, go_sem, rd14, bi14]) rfl ⟨rfl, rfl⟩
  by_cases h3 : n = 3
  · subst h3; go_enter Try.func40, Try.ntmps40; go_wp2_with fail; exact bodyPost_ret (v := .tuple #[.bool _, .bool _]) (by simp [results, Try.results40, go_sem, rd14, bi14]) rfl ⟨rfl, rfl⟩
  by_cases h4 : n = 4
  · subst h4; go_enter Try.func40, Try.ntmps40; go_wp2_with fail; exact bodyPost_ret (v := .tuple #[.bool _, .bool _]) (by simp [results, Try.results40, go_sem, rd14, bi14]) rfl ⟨rfl, rfl⟩
  by_cases h5 : n = 23
  · subst h5; go_enter Try.func40, Try.ntmps40; go_wp2_with fail; exact bodyPost_ret (v := .tuple #[.bool _, .bool _]) (by simp [results, Try.results40, go_sem, rd14, bi14]) rfl ⟨rfl, rfl⟩
  have e1 : rd14 n = false := by unfold rd14; simp [h1, h2, h3, h4, h5]
  have e2 : bi14 n = false := by unfold bi14; simp [h1, h2]
  rw [e1, e2]
  have b1 : (n == 1) = false := by simp [h1]
  have b2 : (n == 2) = false := by simp [h2]
  have b3 : (n == 3) = false := by simp [h3]
  have b4 : (n == 4) = false := by simp [h4]
  have b5 : (n == 23) = false := by simp [h5]
  clear e1 e2 h1 h2 h3 h4 h5
  go_enter Try.func40, Try.ntmps40
  go_wp2_with fail
  exact bodyPost_ret (v := .tuple #[.bool false, .bool false]) (by simp [results, Try.results40, go_sem]) rfl ⟨rfl, rfl⟩
theorem reads14_fo {k : Int} {f : Fo} (h : formOf k = some f) : rd14 k = f.rd ∧ bi14 k = (f.rd && f.bi) := by
  unfold formOf at h
  repeat' split at h
  all_goals first | (cases h; done) | (injection h with h; subst h; simp_all [rd14, bi14]; done) | (injection h with h; subst h; simp_all [rd14, bi14]; omega)
end Go.Proofs.Ytdolgpogjnfpkaa
