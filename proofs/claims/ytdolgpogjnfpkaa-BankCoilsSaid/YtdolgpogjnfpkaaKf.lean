/- Places: Serve. -/
import Derived.Test.YtdolgpogjnfpkaaKe
import Derived.Test.YtdolgpogjnfpkaaUg
import Derived.Deep.RegionHeld3
namespace Go.Proofs.Ytdolgpogjnfpkaa
set_option linter.unusedVariables false
set_option linter.unusedSimpArgs false
open Go.ChangeShapes Go.WideShapes Go.ChangeAt Go.RowKit

theorem getq_z {L : List Nat} (hc : ¬ getC L = 0) : getQ L = zq := by unfold getQ; rw [if_neg hc]
theorem wf_i64 {n : Int} (h1 : -9223372036854775808 ≤ n) (h2 : n ≤ 9223372036854775807) : (Lit.int .i64 n).wf = true := by
  simp [Lit.wf, IntKind.min, IntKind.max, IntKind.signed, IntKind.bits]; omega
theorem Rq.ok.fw {r : Rq} {W W' : World} {l : List Nat} (h : r.ok W) (f : Fw l W W') (hf : ∀ b off, r.vs = some ⟨b, off, none⟩ → b ∉ l) : r.ok W' := by
  refine ⟨⟨⟨h.arg.row.ln, h.arg.row.le, h.arg.row.by', ?_⟩, h.arg.nil, h.arg.le, h.arg.mx⟩, h.fc, h.ad, h.q, h.to⟩
  rcases h.arg.row.at' with z | ⟨b, off, e, hlt, hc⟩
  · exact .inl z
  · exact .inr ⟨b, off, e, Nat.lt_of_lt_of_le hlt f.size, fun i hi => (World.cell?_of_block (a := ⟨b, off + i, none⟩) (f.block b hlt (hf b off e))).trans (hc i hi)⟩
theorem getQ_ok {L : List Nat} {w : World} {vs : Option Addr} {vn vc : Nat} (h : ArgW w vs vn vc (getQ L).V) (hb : ∀ b ∈ L, b < 256) : (wsl (getQ L) vs vn vc).ok w := by
  by_cases hc : getC L = 0
  · have hq : getQ L = dq (fo ((L.getD 0 0 : Nat) : Int)) L := by unfold getQ; rw [if_pos hc]
    have hl := getN_lt (fo ((L.getD 0 0 : Nat) : Int)) L hb
    have h0 := getD_lt hb 0
    refine ⟨h, ?_, ?_, ?_, ?_⟩
    · rw [hq]; exact wfk (by show (0 : Int) ≤ ((L.getD 0 0 : Nat) : Int); omega) (by show ((L.getD 0 0 : Nat) : Int) ≤ 100000; omega)
    · rw [hq]; exact wfk (by show (0 : Int) ≤ ((getN _ L).ad : Int); omega) (by show ((getN _ L).ad : Int) ≤ 100000; omega)
    · rw [hq]; exact wfk (by show (0 : Int) ≤ ((getN _ L).q : Int); omega) (by show ((getN _ L).q : Int) ≤ 100000; omega)
    · rw [hq]; exact wfk (by show (0 : Int) ≤ ((getN _ L).to : Int); omega) (by show ((getN _ L).to : Int) ≤ 100000; omega)
  · refine ⟨h, ?_, ?_, ?_, ?_⟩ <;> rw [getq_z hc] <;> (show (Lit.int .i64 0).wf = true) <;> decide
/-- The request of bytes, wherever its words lie. -/
def rqD (D : List Nat) : Rq := wsl (getQ D) none (getQ D).V.length 0
/-- What is served. -/
def servF (D : List Nat) (R : Nat → List Nat) : List Nat × (Nat → List Nat) :=
  if getC D ≠ 0 then (alN D (getC D : Nat), R) else
  (if okR (rqD D) (doF (rqD D) R).1.1 (doF (rqD D) R).1.2 = true then repN (rqD D) (doF (rqD D) R).1.1 (doF (rqD D) R).1.2 else [], (doF (rqD D) R).2)
def ServP (B : Nat) (w : World) (p : Nat) (s : Nat → Nat) (x : List Nat × (Nat → List Nat)) (e : Ending) (w' : World) : Prop :=
  ∃ v, e = .returned v ∧ OwnV w.heap.size w' v x.1 ∧ Bn B w' p s x.2 ∧ Fw (bl s) w w'
theorem doF_wsl (q : Rq) (a : Option Addr) (n c : Nat) (b : Option Addr) (d : Nat) (R : Nat → List Nat) : doF (wsl q a n c) R = doF (wsl q b n d) R := rfl
theorem okR_wsl (q : Rq) (a : Option Addr) (n c : Nat) (b : Option Addr) (m d : Nat) (k : Int) (V : List Nat) : okR (wsl q a n c) k V = okR (wsl q b m d) k V := rfl
theorem repN_wsl (q : Rq) (a : Option Addr) (n c : Nat) (b : Option Addr) (m d : Nat) (k : Int) (V : List Nat) : repN (wsl q a n c) k V = repN (wsl q b m d) k V := rfl
theorem doF_code (r : Rq) (R : Nat → List Nat) : 0 ≤ (doF r R).1.1 ∧ (doF r R).1.1 ≤ 3 := by
  unfold doF
  repeat' split
  all_goals simp
set_option maxRecDepth 100000 in
set_option maxHeartbeats 8000000 in
theorem serve_any {B : Nat} {w : World} {p : Nat} {s : Nat → Nat} {R : Nat → List Nat} (h : Bn B w p s R) (a : Option Addr) (n c : Nat) (D : List Nat) (hA : ArgB w a n c D) (hn : n ≤ 100000) :
    Calls Try.prog 13 #[.pointer (some ⟨p, 0, none⟩), .slice a n c] w (ServP B w p s (servF D R)) := by
  obtain ⟨P, hP⟩ : ∃ P, P = (ServP B w p s (servF D R) : Ending → World → Prop) := ⟨_, rfl⟩
  rw [← hP]
  have GE := get_any a n c D w hA hn
  have H := Lib.hid h
  have HA := Lib.hid hA
  obtain ⟨gc, hgc⟩ : ∃ g, g = getC D := ⟨_, rfl⟩
  have hg3 : gc ≤ 3 := by rw [hgc]; unfold getC; repeat' split
                          all_goals omega
  unfold GetP at GE
  rw [← hgc] at GE
  by_cases h0 : gc = 0
  · subst h0
    have FIN : Hid (∀ W v, OwnV w.heap.size W v (if okR (rqD D) (doF (rqD D) R).1.1 (doF (rqD D) R).1.2 = true then repN (rqD D) (doF (rqD D) R).1.1 (doF (rqD D) R).1.2 else []) → Bn B W p s (doF (rqD D) R).2 → Fw (bl s) w W → P (.returned v) W) := Lib.hid (fun W v h1 h2 h3 => by
      rw [hP]; unfold ServP servF; rw [← hgc]; exact ⟨v, rfl, h1, h2, h3⟩)
    have HBY := Lib.hid hA.row.by'
    clear hP h hA hgc hg3
    go_enter Try.func13, Try.ntmps13
    go_wp2_with fail
    refine GE.mono ?_
    rintro e w1 ⟨vs, vn, vc, rfl, gA, z1, hfr⟩
    have hvn : vn = (getQ D).V.length := gA.row.ln.symm
    have hok := getQ_ok gA HBY.out
    obtain ⟨r, hr⟩ : ∃ r, r = wsl (getQ D) vs vn vc := ⟨_, rfl⟩
    have e1 : rqD D = wsl (getQ D) none vn 0 := by unfold rqD; rw [hvn]
    have F1 : Hid (∀ W v, OwnV w.heap.size W v (if okR r (doF r R).1.1 (doF r R).1.2 = true then repN r (doF r R).1.1 (doF r R).1.2 else []) → Bn B W p s (doF r R).2 → Fw (bl s) w W → P (.returned v) W) := Lib.hid (by
      have := FIN.out
      rw [e1] at this
      rw [hr, doF_wsl (getQ D) vs vn vc none 0, okR_wsl (getQ D) vs vn vc none vn 0, repN_wsl (getQ D) vs vn vc none vn 0]
      exact this)
    have FRR := Lib.hid (show ∀ b off, r.vs = some ⟨b, off, none⟩ → w.heap.size ≤ b by rw [hr]; exact hfr)
    have FRS := Lib.hid (fun b (hb : w.heap.size ≤ b) => bl_not H.out hb)
    clear hfr
    rw [← hr] at hok ⊢
    have HC := Lib.hid (doF_code r R)
    have BW := Lib.hid z1
    have N1 := Lib.hid (H.out.below z1)
    have OK1 := Lib.hid hok
    clear z1 gA hvn hr e1 hok FIN
    obtain ⟨W, hW⟩ : ∃ W, W = w1.alloc (.cells #[.int .i64 r.fc, .int .i64 r.ad, .int .i64 r.q, .slice r.vs r.vn r.vc, .int .i64 r.to] 32 (0, 0)) := ⟨_, rfl⟩
    have k1 := alloc_bq w1 (.cells #[.int .i64 r.fc, .int .i64 r.ad, .int .i64 r.q, .slice r.vs r.vn r.vc, .int .i64 r.to] 32 (0, 0))
    rw [← hW] at k1
    have x0 : W.heap[w1.heap.size]? = some (.cells #[.int .i64 r.fc, .int .i64 r.ad, .int .i64 r.q, .slice r.vs r.vn r.vc, .int .i64 r.to] 32 (0, 0)) := by rw [hW]; exact heap_alloc_new w1 _
    have X0 := Lib.hid x0
    have N2 := Lib.hid (N1.out.below k1)
    have B2 := Lib.hid (BW.out.trans (k1.mono BW.out.size))
    have OK2 := Lib.hid (OK1.out.below k1)
    have NB := Lib.hid (bl_not N1.out (y := w1.heap.size) (Nat.le_refl _))
    have HW := Lib.hid hW
    obtain ⟨g, hg⟩ : ∃ g, g = w1.heap.size := ⟨_, rfl⟩
    rw [← hg] at X0 NB
    have HG := Lib.hid hg
    have DO := Lib.hid (fun W' (hb : Below W.heap.size W W') => do_any (N2.out.below hb) r (OK2.out.below hb))
    have PU := Lib.hid (fun W' (hok : r.ok W') a n c (hA : ArgW W' a n c (doF r R).1.2) => show Calls Try.prog 30 #[rv r, .agg #[.int .i64 (doF r R).1.1, .slice a n c]] W' (OutP W' (if okR r (doF r R).1.1 (doF r R).1.2 = true then repN r (doF r R).1.1 (doF r R).1.2 else [])) from putQ_any r ⟨(doF r R).1.1, a, n, c, (doF r R).1.2⟩ W' hok ⟨hA, wf_i64 (by show (-9223372036854775808 : Int) ≤ (doF r R).1.1; have := HC.out; omega) (by show (doF r R).1.1 ≤ (9223372036854775807 : Int); have := HC.out; omega)⟩)
    generalize (if okR r (doF r R).1.1 (doF r R).1.2 = true then repN r (doF r R).1.1 (doF r R).1.2 else []) = OUT at F1 PU
    generalize doF r R = x at F1 DO PU HC
    obtain ⟨⟨xc, xV⟩, xR⟩ := x
    simp only at F1 PU DO HC
    have ROK := Lib.hid (fun W' (hf : Fw (bl s) W W') => OK2.out.fw hf (fun b off e => FRS.out b (by have := FRR.out b off e; omega)))
    obtain ⟨fc, ad, q, us, un, uc, U, rto⟩ := r
    simp only [rv] at DO PU X0 HW ⊢
    have g0 : Below W.heap.size W W.drew := (Below.refl _ _).drew
    have KS := Lib.hid (fun W' (hf : Fw (bl s) W W') => cells5 ((hf.block _ (blk_ltB X0.out) NB.out).trans X0.out))
    have q0 : Fw (bl s) W W.drew := Fw.of_below g0
    clear k1 x0 hW hg
    go_upto_region 4 with fail
    rw [← HW.out, ← HG.out]
    go_region_held3 (fun w' => w'.cell? ⟨g, 0, none⟩ = some (.int .i64 fc) ∧ w'.cell? ⟨g, 1, none⟩ = some (.int .i64 ad) ∧ w'.cell? ⟨g, 2, none⟩ = some (.int .i64 q) ∧ w'.cell? ⟨g, 3, none⟩ = some (.slice us un uc) ∧ w'.cell? ⟨g, 4, none⟩ = some (.int .i64 rto)) (with_reducible first | exact KS.out _ q6 | exact KS.out _ q5 | exact KS.out _ q0) (first
      | (go_at_call 17; refine (DO.out _ g0).mono ?_; rintro e w5 ⟨a5, n5, c5, rfl, A5, N5, f5, _⟩; have q5 : Fw (bl s) W w5 := q0.trans f5)
      | (go_at_call 30; refine (PU.out _ (ROK.out _ q5) a5 n5 c5 A5).mono ?_; rintro e w6 ⟨v6, rfl, o6, z6⟩; have q6 : Fw (bl s) W w6 := q5.trans (Fw.of_below z6)))
    have FF := Lib.hid (F1.out w6 v6 (o6.mono (Nat.le_trans (Nat.le_trans B2.out.size q5.size) (Nat.le_refl _))) (N5.below z6) ((Fw.of_below B2.out).trans q6))
    clear q5 q6 A5 N5 o6 z6 f5
    go_wp2_with fail
    exact FF.out
  · have FIN : Hid (∀ W v, OwnV w.heap.size W v (alN D (gc : Nat)) → Bn B W p s R → Fw (bl s) w W → P (.returned v) W) := Lib.hid (fun W v h1 h2 h3 => by
      rw [hP]; unfold ServP servF; rw [← hgc, if_pos h0]; exact ⟨v, rfl, h1, h2, h3⟩)
    have g0 : ((gc : Int) != 0) = true := by simp; omega
    clear hP h hA hgc hg3 h0
    go_enter Try.func13, Try.ntmps13
    go_wp2_with fail
    refine GE.mono ?_
    rintro e w1 ⟨vs, vn, vc, rfl, gA, z1, hfr⟩
    have AL := alarm_any a n c D (gc : Int) w1 (HA.out.row.below z1)
    have BW := Lib.hid z1
    generalize getQ D = Q at gA
    simp only [rv, wsl]
    clear gA hfr z1
    go_wp2_with fail
    have k1 := alloc_bq w1 (.cells #[.int .i64 Q.fc, .int .i64 Q.ad, .int .i64 Q.q, .slice vs vn vc, .int .i64 Q.to] 32 (0, 0))
    have AL2 := alarm_any a n c D (gc : Int) _ ((HA.out.row.below BW.out).below k1)
    have B2 := Lib.hid (BW.out.trans (k1.mono BW.out.size))
    clear k1
    refine AL2.mono ?_
    rintro e w2 ⟨v2, rfl, o2, z2⟩
    have B3 := Lib.hid (B2.out.trans (z2.mono B2.out.size))
    have FF := Lib.hid (FIN.out w2 v2 (o2.mono B2.out.size) (H.out.below B3.out) (Fw.of_below B3.out))
    clear o2 z2 AL AL2
    go_wp2_with fail
    exact FF.out
end Go.Proofs.Ytdolgpogjnfpkaa
