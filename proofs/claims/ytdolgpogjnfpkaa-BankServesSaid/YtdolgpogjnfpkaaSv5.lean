/- Right, Put. -/
import Derived.Test.YtdolgpogjnfpkaaSv4
import Derived.Deep.CutRange
import Derived.Deep.RegionHeld
import Derived.Deep.RegionHeld3
import Derived.Deep.DeepCutAuto
namespace Go.Proofs.Ytdolgpogjnfpkaa
set_option linter.unusedVariables false
open Go.ChangeShapes Go.WideShapes Go.ChangeAt Go.RowKit

def Gd (W w' : World) : Prop := Below W.heap.size W w'
theorem froz {w : World} {b i : Nat} {cs : Array Value} {t : TypeId} (h : w.heap[b]? = some (.cells cs t (0, 0))) : w.frozen? ⟨b, i, none⟩ = false := by simp [World.frozen?, h]
theorem Gd.step {W a b : World} (h : Gd W a) (hb : Below a.heap.size a b) : Gd W b := Below.trans h (hb.mono (Below.size h))
theorem Gd.al {W w' : World} (o : Obj) (h : Gd W w') : Gd W (w'.alloc o) := Below.alloc h (Below.size h) _
structure Iw (W w' : World) : Prop where
  h : w'.heap[W.heap.size]? = some (.cells #[.bool false, .bool false, .bool false, .int .i64 0, .int .i64 0, .int .i64 0, .bool false, .bool false] 81 (0, 0))
theorem Iw.step {W w' w5 : World} (h : Iw W w') (hf : Below w'.heap.size w' w5) : Iw W w5 := ⟨low_of hf h.h⟩
theorem iw_cells {W w5 : World} (zq : Iw W w5) : w5.cell? ⟨W.heap.size, 0, none⟩ = some (.bool false) ∧ w5.cell? ⟨W.heap.size, 1, none⟩ = some (.bool false) ∧ w5.cell? ⟨W.heap.size, 2, none⟩ = some (.bool false) ∧ w5.cell? ⟨W.heap.size, 3, none⟩ = some (.int .i64 0) ∧ w5.cell? ⟨W.heap.size, 4, none⟩ = some (.int .i64 0) ∧ w5.cell? ⟨W.heap.size, 5, none⟩ = some (.int .i64 0) ∧ w5.cell? ⟨W.heap.size, 6, none⟩ = some (.bool false) ∧ w5.cell? ⟨W.heap.size, 7, none⟩ = some (.bool false) ∧ w5.frozen? ⟨W.heap.size, 0, none⟩ = false ∧ w5.frozen? ⟨W.heap.size, 1, none⟩ = false ∧ w5.frozen? ⟨W.heap.size, 2, none⟩ = false ∧ w5.frozen? ⟨W.heap.size, 3, none⟩ = false ∧ w5.frozen? ⟨W.heap.size, 4, none⟩ = false ∧ w5.frozen? ⟨W.heap.size, 5, none⟩ = false ∧ w5.frozen? ⟨W.heap.size, 6, none⟩ = false ∧ w5.frozen? ⟨W.heap.size, 7, none⟩ = false := by
  have zq : w5.heap[W.heap.size]? = some (.cells #[.bool false, .bool false, .bool false, .int .i64 0, .int .i64 0, .int .i64 0, .bool false, .bool false] 81 (0, 0)) := zq.h
  obtain ⟨z0, z1, z2, z3, z4, z5, z6, z7⟩ := cells8 zq
  exact ⟨z0, z1, z2, z3, z4, z5, z6, z7, froz zq, froz zq, froz zq, froz zq, froz zq, froz zq, froz zq, froz zq⟩
theorem iw_set {W w5 : World} (zq : Iw W w5) (v0 v1 v2 v3 v4 v5 v6 v7 : Value) : ((((((((w5.setCell ⟨W.heap.size, 0, none⟩ (v0)).setCell ⟨W.heap.size, 1, none⟩ (v1)).setCell ⟨W.heap.size, 2, none⟩ (v2)).setCell ⟨W.heap.size, 3, none⟩ (v3)).setCell ⟨W.heap.size, 4, none⟩ (v4)).setCell ⟨W.heap.size, 5, none⟩ (v5)).setCell ⟨W.heap.size, 6, none⟩ (v6)).setCell ⟨W.heap.size, 7, none⟩ (v7)).heap[W.heap.size]? = some (.cells #[v0, v1, v2, v3, v4, v5, v6, v7] 81 (0, 0)) := by
  have := zq.h
  simp [World.setCell, Array.getElem?_modify, this]
theorem set8_bel {W w5 : World} (h : Gd W w5) (v0 v1 v2 v3 v4 v5 v6 v7 : Value) : Below W.heap.size W ((((((((w5.setCell ⟨W.heap.size, 0, none⟩ (v0)).setCell ⟨W.heap.size, 1, none⟩ (v1)).setCell ⟨W.heap.size, 2, none⟩ (v2)).setCell ⟨W.heap.size, 3, none⟩ (v3)).setCell ⟨W.heap.size, 4, none⟩ (v4)).setCell ⟨W.heap.size, 5, none⟩ (v5)).setCell ⟨W.heap.size, 6, none⟩ (v6)).setCell ⟨W.heap.size, 7, none⟩ (v7)) :=
  (((((((Below.setCell h (Nat.le_refl _) _).setCell (Nat.le_refl _) _).setCell (Nat.le_refl _) _).setCell (Nat.le_refl _) _).setCell (Nat.le_refl _) _).setCell (Nat.le_refl _) _).setCell (Nat.le_refl _) _).setCell (Nat.le_refl _) _
def rightR (r : Rq) : Bool := (formOf r.fc).isSome && (has (fo r.fc) r && fits (fo r.fc) r)
set_option maxRecDepth 100000 in
set_option maxHeartbeats 8000000 in
theorem right_any (r : Rq) (w : World) (hr : r.ok w) : Calls Try.prog 34 #[rv r] w (fun e w' => e = .returned (.bool (rightR r)) ∧ Below w.heap.size w w') := by
  obtain ⟨P, hP⟩ : ∃ P, P = (fun e w' => e = .returned (.bool (rightR r)) ∧ Below w.heap.size w w' : Ending → World → Prop) := ⟨_, rfl⟩
  rw [← hP]
  have HP := Lib.hid hP
  have HR := Lib.hid hr
  obtain ⟨f, hf⟩ : ∃ f, f = fo r.fc := ⟨_, rfl⟩
  have HF := Lib.hid hf
  obtain ⟨bb, hbb⟩ : ∃ b, b = (formOf r.fc).isSome := ⟨_, rfl⟩
  have HBB := Lib.hid hbb
  have HSM : Hid f.small := Lib.hid (by rw [hf]; exact form_small r.fc)
  clear hP hr hf hbb
  obtain ⟨fc, ad, q, vs, vn, vc, V, rto⟩ := r
  obtain ⟨rd, wt, bi, fq, le, mo, co, tq⟩ := f
  simp only [rv]
  have hk0 := fun (w' : World) (m : Nat) (hm : IMap Try.prog 3 w' m 10 (fun i => (formOf i).map fv)) => look_f_ok hm HR.out.fc
  simp only [← HF.out, ← HBB.out, fv] at hk0
  have HK0 := Lib.hid hk0
  clear hk0
  go_enter Try.func34, Try.ntmps34
  go_upto_region 1 with fail
  obtain ⟨W, hW⟩ : ∃ W, W = w.alloc (.cells #[.int .i64 fc, .int .i64 ad, .int .i64 q, .slice vs vn vc, .int .i64 rto] 32 (0, 0)) := ⟨_, rfl⟩
  rw [← hW]
  have hbw : Below w.heap.size w W := by rw [hW]; exact (Below.refl _ _).alloc (Nat.le_refl _) _
  have hbk : W.heap[w.heap.size]? = some (.cells #[.int .i64 fc, .int .i64 ad, .int .i64 q, .slice vs vn vc, .int .i64 rto] 32 (0, 0)) := by rw [hW]; exact heap_alloc_new _ _
  have hws : w.heap.size < W.heap.size := blk_lt hbk
  have BW := Lib.hid hbw
  have BK := Lib.hid hbk
  have HWS := Lib.hid hws
  clear hbw hbk hws hW
  go_cut [3, 4] from 5 (fun p b W' => ∃ g, p = .pointer (some ⟨g, 0, none⟩) ∧ b = .bool bb ∧ W'.heap[g]? = some (.cells #[.bool rd, .bool wt, .bool bi, .int .i64 (fq : Int), .int .i64 (le : Int), .int .i64 (mo : Int), .bool co, .bool tq] 81 (0, 0)) ∧ W.heap.size ≤ g ∧ Below W.heap.size W W')
  case first =>
    have KS := Lib.hid (fun (w' : World) (hb : Gd W w') => (Below.cell hb (p := ⟨w.heap.size, 0, none⟩) HWS.out).trans (cells5 BK.out).1)
    have g0 : Gd W W.drew := (Below.refl _ _).drew
    have g1 : Gd W (W.alloc (.cells #[.bool false, .bool false, .bool false, .int .i64 0, .int .i64 0, .int .i64 0, .bool false, .bool false] 81 (0, 0))).drew := ((Below.refl _ _).alloc (Nat.le_refl _) _).drew
    have g6 : Iw W (W.alloc (.cells #[.bool false, .bool false, .bool false, .int .i64 0, .int .i64 0, .int .i64 0, .bool false, .bool false] 81 (0, 0))).drew := ⟨heap_alloc_new W _⟩
    have hn1 : ¬ w.heap.size = W.heap.size := by have := HWS.out; omega
    have hn2 : ¬ W.heap.size = w.heap.size := by have := HWS.out; omega
    go_region_held3 (fun w' => w'.cell? ⟨w.heap.size, 0, none⟩ = some (.int .i64 fc)) (first | exact KS.out _ (by simp only [g0, g1]) | exact KS.out _ (by simp only [g5]) | exact KS.out _ (by simp only [Gd.al, g5]) | go_keep) (first
      | (go_at_call 51; refine (forms_any _).mono ?_; rintro e w5 ⟨m, rfl, hm, hb5⟩; have g5 : Gd W w5 := Gd.step (by simp only [g0, g1]) hb5; have cb5 := KS.out w5 g5; have hk := HK0.out w5 m hm; have hk2 := fun o => HK0.out _ m (IMap.below hm (Below.alloc (Below.refl _ w5) (Nat.le_refl _) o)); have hb6 : ¬ w.heap.size = w5.heap.size := (by have := Below.size g5; have := HWS.out; omega); first | (have zz : Iw W w5 := Iw.step (by simp only [g6]) hb5; have zc := iw_cells zz; obtain ⟨z0, z1, z2, z3, z4, z5, z6, z7, y0, y1, y2, y3, y4, y5, y6, y7⟩ := zc) | skip)
      | fail)
    all_goals
      first
        | (have hset := Lib.hid (iw_set zz (.bool rd) (.bool wt) (.bool bi) (.int .i64 (fq : Int)) (.int .i64 (le : Int)) (.int .i64 (mo : Int)) (.bool co) (.bool tq))
           have hbel := Lib.hid (set8_bel g5 (.bool rd) (.bool wt) (.bool bi) (.int .i64 (fq : Int)) (.int .i64 (le : Int)) (.int .i64 (mo : Int)) (.bool co) (.bool tq))
           clear zz
           go_wp2_with fail
           go_meet
           exact ⟨W.heap.size, rfl, rfl, hset.out, Nat.le_refl _, hbel.out⟩)
        | (have hal := Lib.hid (Gd.al (.cells #[.bool rd, .bool wt, .bool bi, .int .i64 (fq : Int), .int .i64 (le : Int), .int .i64 (mo : Int), .bool co, .bool tq] 81 (0, 0)) g5)
           have hsz := Lib.hid (Below.size g5)
           go_wp2_with fail
           go_meet
           exact ⟨w5.heap.size, rfl, rfl, heap_alloc_new _ _, hsz.out, hal.out⟩)
  case rest =>
  obtain ⟨g, rfl, rfl, hg, hgw, hbc⟩ := hcut
  obtain ⟨W1', hW⟩ : ∃ W, W = wc := ⟨_, rfl⟩
  subst hW
  have HG := Lib.hid hg
  have BC := Lib.hid hbc
  have KC := Lib.hid (fun (w' : World) (hb : Below W1'.heap.size W1' w') => And.intro (cells8 (low_of hb hg)) (cells5 (low_of hb (low_of hbc BK.out))))
  have RO := Lib.hid (fun (w' : World) (hb : Below W1'.heap.size W1' w') => (HR.out.below BW.out).below (hbc.trans (hb.mono hbc.size)))
  have BE := Lib.hid (fun (w' : World) (hb : Below W1'.heap.size W1' w') => BW.out.trans ((hbc.trans (hb.mono hbc.size)).mono (Nat.le_of_lt HWS.out)))
  obtain ⟨⟨f0, f1, f2, f3, f4, f5, f6, f7⟩, c0, c1, c2, c3, c4⟩ := KC.out W1' (Below.refl _ _)
  clear hg hgw hbc
  have HX : Hid (rightR ⟨fc, ad, q, vs, vn, vc, V, rto⟩ = (bb && (has ⟨rd, wt, bi, fq, le, mo, co, tq⟩ ⟨fc, ad, q, vs, vn, vc, V, rto⟩ && fits ⟨rd, wt, bi, fq, le, mo, co, tq⟩ ⟨fc, ad, q, vs, vn, vc, V, rto⟩))) := Lib.hid (by
    unfold rightR
    rw [HBB.out]
    simp only [← HF.out])
  cases bb with
  | false =>
    go_wp2_with fail
    rw [HP.out]
    exact ⟨by rw [HX.out]; rfl, BE.out _ (Below.refl _ _)⟩
  | true =>
    have HA := Lib.hid (has_any ⟨rd, wt, bi, fq, le, mo, co, tq⟩ ⟨fc, ad, q, vs, vn, vc, V, rto⟩ W1' HSM.out (RO.out _ (Below.refl _ _)))
    simp only [fv, rv] at HA
    go_wp2_with fail
    refine HA.out.mono ?_
    rintro e w2 ⟨rfl, b2⟩
    have B2 := Lib.hid b2
    obtain ⟨⟨p0, p1, p2, p3, p4, p5, p6, p7⟩, d0, d1, d2, d3, d4⟩ := KC.out w2 b2
    clear b2 f0 f1 f2 f3 f4 f5 f6 f7 c0 c1 c2 c3 c4
    cases hhas : has ⟨rd, wt, bi, fq, le, mo, co, tq⟩ ⟨fc, ad, q, vs, vn, vc, V, rto⟩ with
    | false =>
      have HHAS := Lib.hid hhas
      clear hhas
      go_wp2_with fail
      rw [HP.out]
      exact ⟨by rw [HX.out, HHAS.out]; rfl, BE.out _ B2.out⟩
    | true =>
      have hh := (has_iff ⟨rd, wt, bi, fq, le, mo, co, tq⟩ ⟨fc, ad, q, vs, vn, vc, V, rto⟩).1 hhas
      have HFI := Lib.hid (fits_any ⟨rd, wt, bi, fq, le, mo, co, tq⟩ ⟨fc, ad, q, vs, vn, vc, V, rto⟩ w2 HSM.out (RO.out _ B2.out) hh.1 hh.2.1 (by have := HSM.out.q; have := hh.2.2.2.1; simp only at *; omega) (by have := HSM.out.mo; have := hh.2.2.2.2.2.2.1; simp only at *; omega))
      simp only [fv, rv] at HFI
      have HHAS := Lib.hid hhas
      clear hh hhas
      go_wp2_with fail
      refine HFI.out.mono ?_
      rintro e w3 ⟨rfl, b3⟩
      have B3 := Lib.hid (B2.out.trans (b3.mono B2.out.size))
      clear b3 p0 p1 p2 p3 p4 p5 p6 p7 d0 d1 d2 d3 d4
      go_wp2_with fail
      rw [HP.out]
      exact ⟨by rw [HX.out, HHAS.out]; simp, BE.out _ B3.out⟩
theorem formOf_range {n : Int} {f : Fo} (h : formOf n = some f) : 1 ≤ n ∧ n ≤ 23 := by
  unfold formOf at h
  repeat' split at h
  all_goals first | (cases h; done) | omega
theorem fo_some {n : Int} (h : true = (formOf n).isSome) : formOf n = some (fo n) := by
  unfold fo
  cases e : formOf n with
  | none => rw [e] at h; cases h
  | some f => rfl
def PutQ (w : World) (r : Rq) (e : Ending) (w' : World) : Prop := ∃ v, e = .returned v ∧ OwnV w.heap.size w' v (if rightR r = true then putR (fo r.fc) r else []) ∧ Below w.heap.size w w'
theorem putq_nil {w : World} {r : Rq} (h : rightR r = false) (w' : World) (hb : Below w.heap.size w w') : PutQ w r (.returned (.slice none 0 0)) w' := ⟨_, rfl, by rw [h]; exact ⟨rfl, .inl ⟨rfl, rfl⟩⟩, hb⟩
set_option maxRecDepth 100000 in
set_option maxHeartbeats 8000000 in
theorem put_any (r : Rq) (w : World) (hr : r.ok w) : Calls Try.prog 81 #[rv r] w (PutQ w r) := by
  obtain ⟨P, hP⟩ : ∃ P, P = (PutQ w r : Ending → World → Prop) := ⟨_, rfl⟩
  rw [← hP]
  have HP := Lib.hid hP
  have HR := Lib.hid hr
  obtain ⟨f, hf⟩ : ∃ f, f = fo r.fc := ⟨_, rfl⟩
  have HF := Lib.hid hf
  obtain ⟨bb, hbb⟩ : ∃ b, b = (formOf r.fc).isSome := ⟨_, rfl⟩
  have HBB := Lib.hid hbb
  have HSM : Hid f.small := Lib.hid (by rw [hf]; exact form_small r.fc)
  clear hP hr hf hbb
  obtain ⟨fc, ad, q, vs, vn, vc, V, rto⟩ := r
  obtain ⟨rd, wt, bi, fq, le, mo, co, tq⟩ := f
  simp only [rv]
  have hk0 := fun (w' : World) (m : Nat) (hm : IMap Try.prog 3 w' m 10 (fun i => (formOf i).map fv)) => look_f_ok hm HR.out.fc
  simp only [← HF.out, ← HBB.out, fv] at hk0
  have HK0 := Lib.hid hk0
  clear hk0
  go_enter Try.func81, Try.ntmps81
  go_upto_region 1 with fail
  obtain ⟨W, hW⟩ : ∃ W, W = w.alloc (.cells #[.int .i64 fc, .int .i64 ad, .int .i64 q, .slice vs vn vc, .int .i64 rto] 32 (0, 0)) := ⟨_, rfl⟩
  rw [← hW]
  have hbw : Below w.heap.size w W := by rw [hW]; exact (Below.refl _ _).alloc (Nat.le_refl _) _
  have hbk : W.heap[w.heap.size]? = some (.cells #[.int .i64 fc, .int .i64 ad, .int .i64 q, .slice vs vn vc, .int .i64 rto] 32 (0, 0)) := by rw [hW]; exact heap_alloc_new _ _
  have hws : w.heap.size < W.heap.size := blk_lt hbk
  have BW := Lib.hid hbw
  have BK := Lib.hid hbk
  have HWS := Lib.hid hws
  clear hbw hbk hws hW
  go_cut [3, 4] from 5 (fun p b W' => ∃ g, p = .pointer (some ⟨g, 0, none⟩) ∧ b = .bool bb ∧ W'.heap[g]? = some (.cells #[.bool rd, .bool wt, .bool bi, .int .i64 (fq : Int), .int .i64 (le : Int), .int .i64 (mo : Int), .bool co, .bool tq] 81 (0, 0)) ∧ W.heap.size ≤ g ∧ Below W.heap.size W W')
  case first =>
    have KS := Lib.hid (fun (w' : World) (hb : Gd W w') => (Below.cell hb (p := ⟨w.heap.size, 0, none⟩) HWS.out).trans (cells5 BK.out).1)
    have g0 : Gd W W.drew := (Below.refl _ _).drew
    have g1 : Gd W (W.alloc (.cells #[.bool false, .bool false, .bool false, .int .i64 0, .int .i64 0, .int .i64 0, .bool false, .bool false] 81 (0, 0))).drew := ((Below.refl _ _).alloc (Nat.le_refl _) _).drew
    have g6 : Iw W (W.alloc (.cells #[.bool false, .bool false, .bool false, .int .i64 0, .int .i64 0, .int .i64 0, .bool false, .bool false] 81 (0, 0))).drew := ⟨heap_alloc_new W _⟩
    have hn1 : ¬ w.heap.size = W.heap.size := by have := HWS.out; omega
    have hn2 : ¬ W.heap.size = w.heap.size := by have := HWS.out; omega
    go_region_held3 (fun w' => w'.cell? ⟨w.heap.size, 0, none⟩ = some (.int .i64 fc)) (first | exact KS.out _ (by simp only [g0, g1]) | exact KS.out _ (by simp only [g5]) | exact KS.out _ (by simp only [Gd.al, g5]) | go_keep) (first
      | (go_at_call 51; refine (forms_any _).mono ?_; rintro e w5 ⟨m, rfl, hm, hb5⟩; have g5 : Gd W w5 := Gd.step (by simp only [g0, g1]) hb5; have cb5 := KS.out w5 g5; have hk := HK0.out w5 m hm; have hk2 := fun o => HK0.out _ m (IMap.below hm (Below.alloc (Below.refl _ w5) (Nat.le_refl _) o)); have hb6 : ¬ w.heap.size = w5.heap.size := (by have := Below.size g5; have := HWS.out; omega); first | (have zz : Iw W w5 := Iw.step (by simp only [g6]) hb5; have zc := iw_cells zz; obtain ⟨z0, z1, z2, z3, z4, z5, z6, z7, y0, y1, y2, y3, y4, y5, y6, y7⟩ := zc) | skip)
      | fail)
    all_goals
      first
        | (have hset := Lib.hid (iw_set zz (.bool rd) (.bool wt) (.bool bi) (.int .i64 (fq : Int)) (.int .i64 (le : Int)) (.int .i64 (mo : Int)) (.bool co) (.bool tq))
           have hbel := Lib.hid (set8_bel g5 (.bool rd) (.bool wt) (.bool bi) (.int .i64 (fq : Int)) (.int .i64 (le : Int)) (.int .i64 (mo : Int)) (.bool co) (.bool tq))
           clear zz
           go_wp2_with fail
           go_meet
           exact ⟨W.heap.size, rfl, rfl, hset.out, Nat.le_refl _, hbel.out⟩)
        | (have hal := Lib.hid (Gd.al (.cells #[.bool rd, .bool wt, .bool bi, .int .i64 (fq : Int), .int .i64 (le : Int), .int .i64 (mo : Int), .bool co, .bool tq] 81 (0, 0)) g5)
           have hsz := Lib.hid (Below.size g5)
           go_wp2_with fail
           go_meet
           exact ⟨w5.heap.size, rfl, rfl, heap_alloc_new _ _, hsz.out, hal.out⟩)
  case rest =>
  obtain ⟨g, rfl, rfl, hg, hgw, hbc⟩ := hcut
  obtain ⟨W1', hW⟩ : ∃ W, W = wc := ⟨_, rfl⟩
  subst hW
  have HG := Lib.hid hg
  have BC := Lib.hid hbc
  have KC := Lib.hid (fun (w' : World) (hb : Below W1'.heap.size W1' w') => And.intro (cells8 (low_of hb hg)) (cells5 (low_of hb (low_of hbc BK.out))))
  have RO := Lib.hid (fun (w' : World) (hb : Below W1'.heap.size W1' w') => (HR.out.below BW.out).below (hbc.trans (hb.mono hbc.size)))
  have BE := Lib.hid (fun (w' : World) (hb : Below W1'.heap.size W1' w') => BW.out.trans ((hbc.trans (hb.mono hbc.size)).mono (Nat.le_of_lt HWS.out)))
  obtain ⟨⟨f0, f1, f2, f3, f4, f5, f6, f7⟩, c0, c1, c2, c3, c4⟩ := KC.out W1' (Below.refl _ _)
  clear hg hgw hbc
  have HX : Hid (rightR ⟨fc, ad, q, vs, vn, vc, V, rto⟩ = (bb && (has ⟨rd, wt, bi, fq, le, mo, co, tq⟩ ⟨fc, ad, q, vs, vn, vc, V, rto⟩ && fits ⟨rd, wt, bi, fq, le, mo, co, tq⟩ ⟨fc, ad, q, vs, vn, vc, V, rto⟩))) := Lib.hid (by
    unfold rightR
    rw [HBB.out]
    simp only [← HF.out])
  cases bb with
  | false =>
    go_wp2_with fail
    rw [HP.out]
    exact putq_nil (by rw [HX.out]; rfl) _ (BE.out _ (Below.refl _ _))
  | true =>
    have HA := Lib.hid (has_any ⟨rd, wt, bi, fq, le, mo, co, tq⟩ ⟨fc, ad, q, vs, vn, vc, V, rto⟩ W1' HSM.out (RO.out _ (Below.refl _ _)))
    simp only [fv, rv] at HA
    go_wp2_with fail
    refine HA.out.mono ?_
    rintro e w2 ⟨rfl, b2⟩
    have B2 := Lib.hid b2
    obtain ⟨⟨p0, p1, p2, p3, p4, p5, p6, p7⟩, d0, d1, d2, d3, d4⟩ := KC.out w2 b2
    clear b2 f0 f1 f2 f3 f4 f5 f6 f7 c0 c1 c2 c3 c4
    cases hhas : has ⟨rd, wt, bi, fq, le, mo, co, tq⟩ ⟨fc, ad, q, vs, vn, vc, V, rto⟩ with
    | false =>
      have HHAS := Lib.hid hhas
      clear hhas
      go_wp2_with fail
      rw [HP.out]
      exact putq_nil (by rw [HX.out, HHAS.out]; rfl) _ (BE.out _ B2.out)
    | true =>
      have hhas2 := Lib.hid hhas
      have hh := (has_iff ⟨rd, wt, bi, fq, le, mo, co, tq⟩ ⟨fc, ad, q, vs, vn, vc, V, rto⟩).1 hhas
      have HFI := Lib.hid (fits_any ⟨rd, wt, bi, fq, le, mo, co, tq⟩ ⟨fc, ad, q, vs, vn, vc, V, rto⟩ w2 HSM.out (RO.out _ B2.out) hh.1 hh.2.1 (by have := HSM.out.q; have := hh.2.2.2.1; simp only at *; omega) (by have := HSM.out.mo; have := hh.2.2.2.2.2.2.1; simp only at *; omega))
      simp only [fv, rv] at HFI
      have HHAS := Lib.hid hhas
      clear hh hhas
      go_wp2_with fail
      refine HFI.out.mono ?_
      rintro e w3 ⟨rfl, b3⟩
      have B3 := Lib.hid (B2.out.trans (b3.mono B2.out.size))
      clear b3 p0 p1 p2 p3 p4 p5 p6 p7 d0 d1 d2 d3 d4
      obtain ⟨⟨p0, p1, p2, p3, p4, p5, p6, p7⟩, d0, d1, d2, d3, d4⟩ := KC.out w3 B3.out
      cases hfi : fits ⟨rd, wt, bi, fq, le, mo, co, tq⟩ ⟨fc, ad, q, vs, vn, vc, V, rto⟩ with
      | false =>
        have HFS := Lib.hid hfi
        clear hfi
        go_wp2_with fail
        rw [HP.out]
        exact putq_nil (by rw [HX.out, HHAS.out, HFS.out]; rfl) _ (BE.out _ B3.out)
      | true =>
        have HFS := Lib.hid hfi
        have hk : formOf fc = some (fo fc) := fo_some HBB.out
        have hrg := formOf_range hk
        have hff : (⟨rd, wt, bi, fq, le, mo, co, tq⟩ : Fo) = fo fc := HF.out
        rw [← hff] at hk
        clear hff
        have HPU := Lib.hid (put_of hk ⟨fc, ad, q, vs, vn, vc, V, rto⟩ w3 (RO.out _ B3.out) hhas2.out (by simp only; omega) (by simp only; omega))
        simp only [fv, rv] at HPU
        clear hfi hk hrg
        go_wp2_with fail
        refine HPU.out.mono ?_
        rintro e w4 ⟨v, rfl, ho, b4⟩
        have hq : PutQ w ⟨fc, ad, q, vs, vn, vc, V, rto⟩ (.returned v) w4 := by
          refine ⟨v, rfl, ?_, (BE.out _ B3.out).trans (b4.mono (BE.out _ B3.out).size)⟩
          have hff : (⟨rd, wt, bi, fq, le, mo, co, tq⟩ : Fo) = fo fc := HF.out
          rw [HX.out, HHAS.out, HFS.out]
          show OwnV w.heap.size w4 v (putR (fo fc) ⟨fc, ad, q, vs, vn, vc, V, rto⟩)
          rw [← hff]
          exact ho.mono (BE.out _ B3.out).size
        have HQ := Lib.hid hq
        clear ho b4 hq p0 p1 p2 p3 p4 p5 p6 p7 d0 d1 d2 d3 d4
        go_wp2_with fail
        rw [HP.out]
        exact HQ.out
end Go.Proofs.Ytdolgpogjnfpkaa
/- SameVals, Same. -/
namespace Go.Proofs.Ytdolgpogjnfpkaa
set_option linter.unusedVariables false
open Go.ChangeShapes Go.WideShapes Go.ChangeAt Go.RowKit

set_option maxRecDepth 100000 in
set_option maxHeartbeats 4000000 in
theorem samevals_any (a : Option Addr) (n c : Nat) (V : List Nat) (b : Option Addr) (m d : Nat) (U : List Nat) (w : World) (h : Wds w a n V) (h2 : Wds w b m U) :
    Calls Try.prog 25 #[.slice a n c, .slice b m d] w fun e w' => e = .returned (.bool (decide (V = U))) ∧ Below w.heap.size w w' := by
  have hln := h.ln
  have hln2 := h2.ln
  have hle := h.le
  unfold maxLen at hle
  by_cases hnm : n = m
  · subst hnm
    have H := Lib.hid h
    have H2 := Lib.hid h2
    have t1 : ((n : Int) != (n : Int)) = false := by simp
    clear h h2
    go_enter Try.func25, Try.ntmps25
    go_wp2_with fail
    go_loopw [5] (fun i wr => ∃ k : Nat, k ≤ n ∧ i = .int .i64 k ∧ V.take k = U.take k ∧ Below w.heap.size w wr) (fun i _ => n - (intOf i).toNat)
    case atStart => exact ⟨0, Nat.zero_le _, rfl, rfl, Below.refl _ _⟩
    case round =>
      obtain ⟨wo, rfl⟩ : ∃ wo : World, wo = wr := ⟨_, rfl⟩
      obtain ⟨k, hk, rfl, hz, hb⟩ := hrel
      by_cases hkn : k < n
      · obtain ⟨b1, o1, rfl, e1⟩ := (H.out.below hb).row k hkn
        obtain ⟨b2, o2, rfl, e2⟩ := (H2.out.below hb).row k hkn
        have t1' := take_snoc' V k (by omega)
        have t2' := take_snoc' U k (by omega)
        rw [hz] at t1'
        have d0 : (k : Int) < (n : Int) := by omega
        generalize hv : V.getD k 0 = v at e1 t1'
        generalize hu : U.getD k 0 = u at e2 t2'
        have HV := Lib.hid hv
        have HU := Lib.hid hu
        have T1 := Lib.hid t1'
        have T2 := Lib.hid t2'
        have HB := Lib.hid hb
        clear hv hu t1' t2' hz hb
        by_cases hvu : v = u
        · subst hvu
          have tt : ((v : Int) != (v : Int)) = false := by simp
          go_wp2_with fail
          go_region
          all_goals
            go_wp2_with fail
            go_roundw
            case rel => exact ⟨k + 1, by omega, by go_num, by rw [T1.out, T2.out], HB.out.drew⟩
            case measure => simp [intOf]; omega
        · have tt : ((v : Int) != (u : Int)) = true := by simp; omega
          have hne : decide (V = U) = false := decide_eq_false (fun e => hvu (by rw [← HV.out, ← HU.out, e]))
          have HN := Lib.hid hne
          clear hne
          go_wp2_with fail
          go_region
          all_goals
            go_wp2_with fail
            go_ret
            exact ⟨by rw [HN.out]; rfl, HB.out.drew⟩
      · have hk' : k = n := by omega
        subst hk'
        rw [List.take_of_length_le (by omega), List.take_of_length_le (by omega)] at hz
        have HE : Hid (decide (V = U) = true) := Lib.hid (decide_eq_true hz)
        have HB := Lib.hid hb
        clear hz hb
        go_wp2_with fail
        go_ret
        exact ⟨by rw [HE.out]; rfl, HB.out⟩
  · have t1 : ((n : Int) != (m : Int)) = true := by simp; omega
    have hne : decide (V = U) = false := decide_eq_false (fun e => hnm (by rw [← hln, ← hln2, e]))
    have HN := Lib.hid hne
    clear h h2 hne
    go_enter Try.func25, Try.ntmps25
    go_wp2_with fail
    go_ret
    exact ⟨by rw [HN.out]; rfl, Below.refl _ _⟩
end Go.Proofs.Ytdolgpogjnfpkaa
